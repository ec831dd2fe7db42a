/- What the walks of the exact laws use: the law's own small functions on slices, on readers and bit strings; rows that lie apart. No condition. -/
import Derived.Test.YtembljihmnmmfaaNats
import Derived.Test.YtembljihmnmmfaaC3Arr
import Derived.Test.YtembljihmnmmfaaDr
import Derived.Deep.RegionHeld3
import Derived.Deep.Cut
import Derived.Deep.DeepCutAuto
namespace Go.Proofs.Ytembljihmnmmfaa
set_option linter.unusedVariables false
set_option linter.unusedSimpArgs false
open Go.RowKit Go.ChangeShapes Go.WideShapes Go.ChangeAt

theorem Ints.ofRowE {w : World} {a : Option Addr} {len cap : Nat} {zs : List Int} (h : IsRow .i64 w a len cap zs) (hle : len ≤ 1048576) : ∃ ys : List Int, ys.length = len ∧ Ints w w.heap.size a ys := by
  rcases h with ⟨rfl, rfl, rfl, rfl⟩ | ⟨x, rfl, hl, hm, hz, hc, hwz⟩
  · exact ⟨[], rfl, by simp, by simp, fun h => by simp at h⟩
  · have hlen : (zs.take len).length = len := by rw [List.length_take]; omega
    refine ⟨zs.take len, hlen, by rw [hlen]; omega, fun n hn => ?_, fun h0 => ?_⟩
    · exact bounds_i64 (hwz n (List.mem_of_mem_take hn))
    · have h1 := hc 0 (by omega)
      obtain ⟨b, off, spot⟩ := x
      have hspot : spot = none := by simpa [Addr.add] using World.cell?_spot h1
      subst hspot
      refine ⟨b, off, rfl, ?_, fun i hi => ?_⟩
      · have := cell_lt h1
        simpa [Addr.add] using this
      · rw [hlen] at hi
        have := hc i (by omega)
        have e2 : (zs.take len).getD i 0 = zs.getD i 0 := by simp [List.getD_eq_getElem?_getD, List.getElem?_take, hi]
        rw [e2]
        by_cases e : i = 0
        · subst e; simpa [Addr.add] using this
        · simpa [Addr.add, e] using this
theorem isrow_lenE {w : World} {a : Option Addr} {len cap : Nat} {zs : List Int} (h : IsRow .i64 w a len cap zs) : len ≤ maxLen := by
  rcases h with ⟨rfl, rfl, rfl, rfl⟩ | ⟨x, rfl, hl, hm, hz, hc, hwz⟩ <;> omega
/-- A row of integers of one's own is a slice of integers. -/
theorem own_ints {w : World} {base n c : Nat} {a : Option Addr} {zs : List Int} (h : w.ownsRow base 3 1 (.slice a n c) n (intsV zs)) (hr : ∀ x ∈ zs, -9223372036854775808 ≤ x ∧ x ≤ 9223372036854775807) (hn : n ≤ 1048576) : Ints w w.heap.size a zs := (Ints.ofOwn h (by omega) hr).2
theorem own_form {w : World} {base n : Nat} {v : Value} {xs : List Value} {E : TypeId} {S : Nat} (h : w.ownsRow base E S v n xs) : ∃ a c, v = .slice a n c := by
  rcases h.2 with ⟨rfl, rfl⟩ | ⟨g, cap, cur, rfl, _⟩
  · exact ⟨none, 0, rfl⟩
  · exact ⟨_, cap, rfl⟩
theorem own_blk {w w' : World} {base : Nat} {e : TypeId} {size : Nat} {v : Value} {n : Nat} {xs : List Value} (h : w.ownsRow base e size v n xs) (hb : ∀ i, i < w.heap.size → w'.heap[i]? = w.heap[i]?) : w'.ownsRow base e size v n xs := by
  refine ⟨h.1, ?_⟩
  rcases h.2 with h2 | ⟨g, cap, cur, hv, hg, hc, hr⟩
  · exact .inl h2
  · refine .inr ⟨g, cap, cur, hv, hg, ?_, hr⟩
    rw [hb g (Array.getElem?_eq_some_iff.1 hc).1]; exact hc
/-- Where a row lies. -/
def Ranged (v : Value) (lo hi : Nat) : Prop := ∀ k, v.ownBlock = some k → lo ≤ k ∧ k < hi
theorem own_ranged {w : World} {base n S : Nat} {v : Value} {xs : List Value} {E : TypeId} (h : w.ownsRow base E S v n xs) : Ranged v base w.heap.size := h.lt
theorem ranged_ne {v1 v2 : Value} {l1 h1 l2 h2 : Nat} (r1 : Ranged v1 l1 h1) (r2 : Ranged v2 l2 h2) (h : h1 ≤ l2 ∨ h2 ≤ l1) : v1.ownBlock = none ∨ v1.ownBlock ≠ v2.ownBlock := by
  cases e : v1.ownBlock with
  | none => exact .inl rfl
  | some k =>
    refine .inr fun e2 => ?_
    have a := r1 k e
    have b := r2 k e2.symm
    omega
theorem ranged_box {v : Value} {l h g : Nat} (r : Ranged v l h) (hg : g < l ∨ h ≤ g) : some g ≠ v.ownBlock := fun e => by have := r g e.symm; omega
theorem bel_grown {w W W' : World} {v : Value} {lo hi : Nat} (B : Below w.heap.size w W) (gr : W.grownBy W' v.ownBlock) (r : Ranged v lo hi) (hlo : w.heap.size ≤ lo) : Below w.heap.size w W' :=
  B.grown gr B.size (fun b hb => Nat.le_trans hlo (r b hb).1)
end Go.Proofs.Ytembljihmnmmfaa
