/- Chapter 7: a set as bits (the model). -/
import Derived.Test.YtpdicijoohahaaaC7B
import Derived.Test.YtpdicijoohahaaaAlph2
import Derived.Test.YtpdicijoohahaaaC1Close
import Derived.Lib.SmallJoins
namespace Go.Proofs.Ytpdicijoohahaaa
set_option linter.unusedVariables false
set_option linter.unusedSimpArgs false
open Go.RowKit

/-- Two slices do not lie in one block. -/
def Apart (a b : Value) : Prop := ∀ k, a.ownBlock = some k → b.ownBlock ≠ some k
theorem apart_nil (b : Value) : Apart (.slice none 0 0) b := fun k h => by simp [Value.ownBlock] at h
theorem apart_to_nil (a : Value) : Apart a (.slice none 0 0) := fun k _ h => by simp [Value.ownBlock] at h
theorem Apart.symm {a b : Value} (h : Apart a b) : Apart b a := fun k hb ha => h k ha hb
theorem apart_app {w : World} {base n S : Nat} {E : TypeId} {v v' b : Value} {xs : List Value} (h : Apart v b) (hb : w.ownsRow base E S b n xs) (hloc : v'.ownBlock = v.ownBlock ∨ v'.ownBlock = some w.heap.size) : Apart v' b := by
  intro k hk hkb
  rcases hloc with h2 | h2
  · exact h k (by rw [← h2]; exact hk) hkb
  · have := (hb.lt k hkb).2
    rw [h2] at hk
    simp only [Option.some.injEq] at hk
    omega
theorem apart_app1 {w : World} {base n S : Nat} {E : TypeId} {v v' b : Value} {xs : List Value} (h : Apart v b) (hb : w.ownsRow base E S b n xs) (hloc : v'.ownBlock = v.ownBlock ∨ v'.ownBlock = some (w.heap.size + 1)) : Apart v' b := by
  intro k hk hkb
  rcases hloc with h2 | h2
  · exact h k (by rw [← h2]; exact hk) hkb
  · have := (hb.lt k hkb).2
    rw [h2] at hk
    simp only [Option.some.injEq] at hk
    omega
theorem apart_kept {w w' : World} {base n S : Nat} {E : TypeId} {v b : Value} {xs : List Value} (h : Apart v b) (hb : w.ownsRow base E S b n xs) (hg : w.grownBy w' v.ownBlock) : w'.ownsRow base E S b n xs := by
  cases hbb : b.ownBlock with
  | none => exact hb.kept hg (.inl hbb)
  | some k => exact hb.kept hg (.inr (fun e => h k (by rw [← e, hbb]) hbb))
/-- The first j bytes of a group. -/
def memTo (u : List Nat) (g j : Nat) : List Nat := (List.range j).map fun p => if 16 * g + p ∈ u then 1 else 0
def hasTo (u : List Nat) (g j : Nat) : Nat := if 1 ∈ memTo u g j then 1 else 0
theorem memTo_len (u : List Nat) (g j : Nat) : (memTo u g j).length = j := by simp [memTo]
theorem memTo_succ (u : List Nat) (g j : Nat) : memTo u g (j + 1) = memTo u g j ++ [if 16 * g + j ∈ u then 1 else 0] := by simp [memTo, List.range_succ]
theorem hasTo_succ (u : List Nat) (g j : Nat) : hasTo u g (j + 1) = (hasTo u g j ||| (if 16 * g + j ∈ u then 1 else 0)) := by
  unfold hasTo
  rw [memTo_succ]
  by_cases h1 : 1 ∈ memTo u g j
  · rw [if_pos h1, if_pos (List.mem_append_left _ h1)]
    split <;> rfl
  · rw [if_neg h1]
    by_cases h2 : 16 * g + j ∈ u
    · simp [h2]
    · simp [h1, h2]
theorem hasTo_lt (u : List Nat) (g j : Nat) : hasTo u g j < 2 := by unfold hasTo; split <;> omega
theorem or_bit (h x : Nat) (hh : h < 2) (hx : x < 2) : bits BinOp.or IntKind.u8 (h : Int) (x : Int) = ((h ||| x : Nat) : Int) := by
  have : h = 0 ∨ h = 1 := by omega
  have : x = 0 ∨ x = 1 := by omega
  rcases ‹h = 0 ∨ h = 1› with rfl | rfl <;> rcases ‹x = 0 ∨ x = 1› with rfl | rfl <;> rfl
theorem set_count {u : List Nat} (hb : Byt u) (hu : setOk u = true) (b : Nat) : u.count b = if b ∈ u then 1 else 0 := by
  have h := ((setOk_iff u).1 hu).2
  have := usedL_count u hb b
  rw [h] at this
  exact this
theorem usedRest_pos {u : List Nat} (hb : Byt u) (hu : setOk u = true) : 0 < (usedRest u 16).length := by
  obtain ⟨g, hg, h⟩ := used_some hb ((setOk_iff u).1 hu).1
  have h1 : grp16 u g ≠ [] := by
    unfold grp16
    rw [if_pos h]
    intro e
    have := mem16_len u g
    rw [e] at this; simp at this
  obtain ⟨x, hx⟩ := List.exists_mem_of_ne_nil _ h1
  exact List.length_pos_of_mem (List.mem_flatMap.2 ⟨g, List.mem_range.2 hg, hx⟩)
def headTo (u : List Nat) (g : Nat) : List Nat := (List.range g).map (has16 u)
theorem headTo_len (u : List Nat) (g : Nat) : (headTo u g).length = g := by simp [headTo]
theorem headTo_succ (u : List Nat) (g : Nat) : headTo u (g + 1) = headTo u g ++ [has16 u g] := by simp [headTo, List.range_succ]
end Go.Proofs.Ytpdicijoohahaaa
