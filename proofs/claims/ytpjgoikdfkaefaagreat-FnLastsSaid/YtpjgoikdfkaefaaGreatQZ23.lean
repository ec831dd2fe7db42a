/- Merged: I7L. -/
import Derived.Test.YtpjgoikdfkaefaaGreatQZ15
import Derived.Test.YtpjgoikdfkaefaaGreatQZ18
import Derived.Lib.Small
import Derived.Lib.Slices
import Derived.BigRegion
import Derived.RegionTactic
import Derived.ChangeAlike
import Derived.Maps.RangeWalk
namespace Go.Proofs.YtpjgoikdfkaefaaGreat
set_option linter.unusedVariables false
set_option linter.unusedSimpArgs false
open Go.RowKit Go.Maps

/-- How many of u lie in group g. -/
def grpN (u : List Nat) (g : Nat) : Nat := u.countP (fun b => decide (b / 16 = g))
/-- How many of u lie in the groups before g; how many are less than b. -/
def befG (u : List Nat) (g : Nat) : Nat := u.countP (fun b => decide (b / 16 < g))
def befB (u : List Nat) (x : Nat) : Nat := u.countP (fun b => decide (b < x))
theorem befG_zero (u : List Nat) : befG u 0 = 0 := by unfold befG; rw [List.countP_eq_zero]; simp
theorem befG_succ (u : List Nat) (g : Nat) : befG u (g + 1) = befG u g + grpN u g := by
  unfold befG grpN
  induction u with
  | nil => rfl
  | cons b u ih =>
    simp only [List.countP_cons, ih, decide_eq_true_eq]
    repeat' split
    all_goals omega
theorem befB_succ (u : List Nat) (x : Nat) : befB u (x + 1) = befB u x + u.count x := by
  unfold befB
  induction u with
  | nil => rfl
  | cons b u ih =>
    simp only [List.countP_cons, List.count_cons, ih, decide_eq_true_eq, beq_iff_eq]
    repeat' split
    all_goals omega
theorem befB_group (u : List Nat) (g : Nat) : befB u (16 * g) = befG u g := by
  unfold befB befG
  apply List.countP_congr
  intro b _
  simp only [decide_eq_true_eq]
  omega
theorem befG_all {u : List Nat} (h : Byt u) : befG u 16 = u.length := by
  unfold befG
  rw [List.countP_eq_length]
  intro b hb
  have := h b hb
  simp only [decide_eq_true_eq]
  omega
theorem befB_perm {u v : List Nat} (h : u.Perm v) (x : Nat) : befB u x = befB v x := h.countP_eq _
theorem befG_le (u : List Nat) (g : Nat) : befG u g ≤ u.length := List.countP_le_length
theorem befB_le (u : List Nat) (g : Nat) : befB u g ≤ u.length := List.countP_le_length
/-- In an ascending row a member's place is how many are less. -/
theorem idx_bef : ∀ {P : List Nat} {x : Nat}, P.Pairwise (· < ·) → x ∈ P → P.idxOf x = befB P x := by
  intro P
  induction P with
  | nil => intro x _ h; cases h
  | cons a P ih =>
    intro x hp hx
    rw [List.pairwise_cons] at hp
    unfold befB
    by_cases e : a = x
    · subst e
      rw [List.idxOf_cons_self, List.countP_cons]
      have : P.countP (fun b => decide (b < a)) = 0 := by
        rw [List.countP_eq_zero]
        intro b hb
        have := hp.1 b hb
        simp; omega
      rw [this]; simp
    · have hx2 : x ∈ P := by
        rcases List.mem_cons.1 hx with h | h
        · exact absurd h.symm e
        · exact h
      have := hp.1 x hx2
      rw [List.idxOf_cons, List.countP_cons, ih hp.2 hx2]
      unfold befB
      simp [this, beq_false_of_ne e]
/-- The cells of a list: its map, its sixteen counts. -/
def blC (mb : Nat) (f : Nat → Nat) : Array Value := (Value.map (some mb) :: nats 16 f).toArray
theorem blC_map (mb : Nat) (f : Nat → Nat) : (blC mb f)[0]? = some (.map (some mb)) := rfl
theorem blC_get (mb : Nat) (f : Nat → Nat) (g : Nat) (h : g < 16) : (blC mb f)[1 + g]? = some (.int .i64 (f g : Int)) := by
  unfold blC
  rw [Nat.add_comm]
  simp [nats_get 16 f g h]
theorem blC_set (mb : Nat) (f : Nat → Nat) (g x : Nat) (h : g < 16) : (blC mb f).setIfInBounds (1 + g) (.int .i64 (x : Int)) = blC mb (fun t => if t = g then x else f t) := by
  unfold blC
  rw [Nat.add_comm, ← nats_set]
  simp
theorem blC_congr {mb : Nat} {f g : Nat → Nat} (h : ∀ t, t < 16 → f t = g t) : blC mb f = blC mb g := by unfold blC; rw [nats_congr h]
theorem grp_snoc (u : List Nat) (b : Nat) : (fun t => grpN (u ++ [b]) t) = fun t => if t = b / 16 then grpN u (b / 16) + 1 else grpN u t := by
  funext t
  unfold grpN
  rw [List.countP_append]
  by_cases e : t = b / 16
  · subst e; simp
  · simp [e, Ne.symm e]
/-- Only blocks g and h (and what is new) may have turned. -/
def Two (g h : Nat) (a w : World) : Prop := w.os = a.os ∧ w.tape = a.tape ∧ w.output = a.output ∧ a.heap.size ≤ w.heap.size ∧ ∀ i, i < a.heap.size → i ≠ g → i ≠ h → w.heap[i]? = a.heap[i]?
theorem Two.of {g h : Nat} {a b c : World} (h1 : a.grownBy b (some h)) (h2 : Only g b c) : Two g h a c :=
  ⟨h2.os.trans h1.os, h2.tape.trans h1.tape, h2.output.trans h1.output, Nat.le_trans h1.size h2.size, fun i hi hg hh => (h2.block i (Nat.lt_of_lt_of_le hi h1.size) (by simpa using hg)).trans (h1.block i hi (by simpa using hh))⟩
theorem Two.below {g h B : Nat} {a w : World} (k : Two g h a w) (hg : B ≤ g) (hh : B ≤ h) (hB : B ≤ a.heap.size) : Below B a w :=
  ⟨k.1, k.2.1, k.2.2.1, k.2.2.2.1, fun i hi => k.2.2.2.2 i (by omega) (by omega) (by omega)⟩
theorem Two.has {g h b : Nat} {a w : World} {T : TypeId} {cs : Array Value} (k : Two g h a w) (hb : Has a b T cs) (hg : b ≠ g) (hh : b ≠ h) : Has w b T cs := (k.2.2.2.2 b hb.lt hg hh).trans hb
theorem Two.own {g h base n S : Nat} {E : TypeId} {a w : World} {v : Value} {xs : List Value} (k : Two g h a w) (ho : a.ownsRow base E S v n xs) (hg : v.ownBlock ≠ some g) (hh : v.ownBlock ≠ some h) : w.ownsRow base E S v n xs := by
  refine ⟨ho.1, ?_⟩
  rcases ho.2 with h2 | ⟨b, cap, cur, hv, hb, hc, hr⟩
  · exact .inl h2
  · subst hv
    refine .inr ⟨b, cap, cur, rfl, hb, ?_, hr⟩
    rw [k.2.2.2.2 b (Array.getElem?_eq_some_iff.1 hc).1 (fun e => hg (by rw [e]; rfl)) (fun e => hh (by rw [e]; rfl))]
    exact hc
theorem grp_erase {u : List Nat} {b : Nat} (h : b ∈ u) (t : Nat) : grpN (u.erase b) t = if t = b / 16 then grpN u (b / 16) - 1 else grpN u t := by
  have hp : grpN u t = grpN (b :: u.erase b) t := (List.perm_cons_erase h).countP_eq _
  have hc : grpN (b :: u.erase b) t = grpN (u.erase b) t + (if b / 16 = t then 1 else 0) := by
    unfold grpN
    rw [List.countP_cons]
    simp
  rw [hc] at hp
  by_cases e : t = b / 16
  · subst e; rw [if_pos rfl]; rw [if_pos rfl] at hp; omega
  · rw [if_neg e]; rw [if_neg (Ne.symm e)] at hp; omega
theorem grp_pos {u : List Nat} {b : Nat} (h : b ∈ u) : 1 ≤ grpN u (b / 16) := List.countP_pos_iff.2 ⟨b, h, by simp⟩
theorem count_erase7 {u : List Nat} {b : Nat} (hn : u.Nodup) (h : b ∈ u) (t : Nat) : (u.erase b).count t = if t = b then 0 else u.count t := by
  rw [List.count_erase]
  by_cases e : t = b
  · subst e; rw [hn.count]; simp [h]
  · simp [e, Ne.symm e]
end Go.Proofs.YtpjgoikdfkaefaaGreat
