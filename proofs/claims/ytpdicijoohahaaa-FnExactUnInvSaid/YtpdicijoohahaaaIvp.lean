/- Chapter 8, plain: inversion frequencies. -/
import Derived.Test.YtpdicijoohahaaaRec
namespace Go.Proofs.Ytpdicijoohahaaa
set_option linter.unusedVariables false
set_option linter.unusedSimpArgs false

/-- The gaps of x: g greater ones have come since its last occurrence. -/
def gapsF (x : Nat) : Nat → List Nat → List Nat
  | _, [] => []
  | g, y :: ys => if x < y then gapsF x (g + 1) ys else if y = x then g :: gapsF x 0 ys else gapsF x g ys
def gapsL (L : List Nat) (x : Nat) : List Nat := gapsF x 0 L
/-- The gaps of all below k. -/
def gapsTo (L : List Nat) (k : Nat) : List Nat := (List.range k).flatMap (gapsL L)
theorem gapsTo_succ (L : List Nat) (k : Nat) : gapsTo L (k + 1) = gapsTo L k ++ gapsL L k := by simp [gapsTo, List.range_succ]
theorem gapsF_gt {x g y : Nat} (ys : List Nat) (h : x < y) : gapsF x g (y :: ys) = gapsF x (g + 1) ys := by rw [gapsF, if_pos h]
theorem gapsF_eq {x g : Nat} (ys : List Nat) : gapsF x g (x :: ys) = g :: gapsF x 0 ys := by rw [gapsF, if_neg (by omega), if_pos rfl]
theorem gapsF_lt {x g y : Nat} (ys : List Nat) (h : y < x) : gapsF x g (y :: ys) = gapsF x g ys := by rw [gapsF, if_neg (by omega), if_neg (by omega)]
theorem gapsF_len (x : Nat) : ∀ (L : List Nat) (g : Nat), (gapsF x g L).length = L.count x
  | [], _ => rfl
  | y :: ys, g => by
    by_cases h : x < y
    · rw [gapsF_gt _ h, gapsF_len x ys, List.count_cons_of_ne (by omega)]
    · by_cases e : y = x
      · subst e
        rw [gapsF_eq, List.length_cons, gapsF_len y ys, List.count_cons_self]
      · rw [gapsF_lt _ (by omega), gapsF_len x ys, List.count_cons_of_ne e]
theorem gapsF_le (x : Nat) : ∀ (L : List Nat) (g : Nat), ∀ y ∈ gapsF x g L, y ≤ g + L.length
  | [], _, y, h => by cases h
  | z :: zs, g, y, h => by
    by_cases hz : x < z
    · rw [gapsF_gt _ hz] at h
      have := gapsF_le x zs (g + 1) y h
      simp only [List.length_cons]; omega
    · by_cases e : z = x
      · subst e
        rw [gapsF_eq] at h
        rcases List.mem_cons.1 h with e | e
        · simp only [List.length_cons]; omega
        · have := gapsF_le z zs 0 y e
          simp only [List.length_cons]; omega
      · rw [gapsF_lt _ (by omega)] at h
        have := gapsF_le x zs g y h
        simp only [List.length_cons]; omega
theorem count_sum (m : Nat) : ∀ (L : List Nat), (∀ x ∈ L, x < m) → ((List.range m).map (fun x => L.count x)).sum = L.length
  | [], _ => by
    have : ((List.range m).map (fun x => List.count x ([] : List Nat))) = List.replicate m 0 := by
      apply List.ext_getElem <;> simp
    rw [this]; simp
  | y :: ys, h => by
    have ih := count_sum m ys (fun x hx => h x (List.mem_cons_of_mem _ hx))
    have hy := h y (List.mem_cons_self ..)
    have key : ∀ (n : Nat), ((List.range n).map (fun x => (y :: ys).count x)).sum = ((List.range n).map (fun x => ys.count x)).sum + if y < n then 1 else 0 := by
      intro n
      induction n with
      | zero => simp
      | succ n ihn =>
        rw [List.range_succ, List.map_append, List.map_append, List.sum_append, List.sum_append, ihn]
        simp only [List.map_cons, List.map_nil, List.sum_cons, List.sum_nil, Nat.add_zero]
        by_cases e : y = n
        · subst e
          rw [List.count_cons_self, if_neg (by omega), if_pos (by omega)]; omega
        · rw [List.count_cons_of_ne e]
          by_cases h2 : y < n
          · rw [if_pos h2, if_pos (by omega)]; omega
          · rw [if_neg h2, if_neg (by omega)]; omega
    rw [key m, ih, if_pos hy, List.length_cons]
theorem gapsTo_len (L : List Nat) (k : Nat) : (gapsTo L k).length = ((List.range k).map (fun x => L.count x)).sum := by
  unfold gapsTo
  rw [List.length_flatMap]
  congr 1
  apply List.map_congr_left
  intro x _
  exact gapsF_len x L 0
theorem sum_le_of_le (f : Nat → Nat) (k n : Nat) (h : k ≤ n) : ((List.range k).map f).sum ≤ ((List.range n).map f).sum := by
  induction n with
  | zero =>
    have h0 : k = 0 := by omega
    subst h0
    exact Nat.le_refl _
  | succ n ih =>
    rw [List.range_succ, List.map_append, List.sum_append]
    by_cases e : k = n + 1
    · subst e; rw [List.range_succ, List.map_append, List.sum_append]; exact Nat.le_refl _
    · have := ih (by omega); omega
theorem gapsTo_le {L : List Nat} {m : Nat} (h : ∀ x ∈ L, x < m) {k : Nat} (hk : k ≤ m) : (gapsTo L k).length ≤ L.length := by
  rw [gapsTo_len, ← count_sum m L h]
  exact sum_le_of_le _ k m hk
theorem gapsTo_mem {L : List Nat} {k y : Nat} (h : y ∈ gapsTo L k) : y ≤ L.length := by
  unfold gapsTo at h
  obtain ⟨x, _, hx⟩ := List.mem_flatMap.1 h
  have := gapsF_le x L 0 y hx
  omega
theorem count_take8 (L : List Nat) (i x : Nat) (h : i < L.length) : (L.take (i + 1)).count x = (L.take i).count x + if L.getD i 0 = x then 1 else 0 := by
  rw [List.take_succ_eq_append_getElem h, List.count_append]
  have e : L.getD i 0 = L[i] := by simp [List.getD_eq_getElem?_getD, h]
  rw [e]
  by_cases h2 : L[i] = x
  · rw [if_pos h2, h2]; simp
  · rw [if_neg h2, List.count_singleton, if_neg (by simpa using h2)]
/-- What Inv answers. -/
def invC (z : List Int) (n : Int) : List Int := if rOk z n = true then ints ((List.range n.toNat).map fun x => (z.map Int.toNat).count x) else []
def invG (z : List Int) (n : Int) : List Int := if rOk z n = true then ints (gapsTo (z.map Int.toNat) (n.toNat - 1)) else []
theorem invC_yes {L : List Nat} {m : Nat} (h : rOk (ints L) m = true) : invC (ints L) m = ints ((List.range m).map fun x => L.count x) := by unfold invC; rw [if_pos h, ints_toNat]; rfl
theorem invG_yes {L : List Nat} {m : Nat} (h : rOk (ints L) m = true) : invG (ints L) m = ints (gapsTo L (m - 1)) := by unfold invG; rw [if_pos h, ints_toNat]; rfl
theorem invC_no {z : List Int} {n : Int} (h : rOk z n = false) : invC z n = [] := by unfold invC; rw [h]; rfl
theorem invG_no {z : List Int} {n : Int} (h : rOk z n = false) : invG z n = [] := by unfold invG; rw [h]; rfl
end Go.Proofs.Ytpdicijoohahaaa
