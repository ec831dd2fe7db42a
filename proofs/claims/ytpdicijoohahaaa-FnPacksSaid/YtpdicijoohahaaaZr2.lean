/- Chapter 9, plain: unpacking, place by place (as the model goes). -/
import Derived.Test.YtpdicijoohahaaaZr
namespace Go.Proofs.Ytpdicijoohahaaa
set_option linter.unusedVariables false
set_option linter.unusedSimpArgs false

theorem dropZ_cons (z : List Int) (k : Nat) (h : k < z.length) : z.drop k = z.getD k 0 :: z.drop (k + 1) := by
  rw [List.drop_eq_getElem_cons h]
  congr 1
  simp [List.getD_eq_getElem?_getD, h]
/-- What is to come at place i: the digits from f on have come, D is unpacked. -/
def upT (n : Int) (z : List Int) (i f : Nat) (D : List Nat) : Option (List Nat) :=
  if i < z.length then (unF n ((z.take i).drop f) (z.dropLast.drop i)).map (D ++ ·) else some D
theorem upT_start {n : Int} {z : List Int} (h : z ≠ []) : unF n [] z.dropLast = upT n z 0 0 [] := by
  have h0 : 0 < z.length := List.length_pos_iff.2 h
  unfold upT
  rw [if_pos h0, List.drop_zero]
  simp
theorem last_drop {z : List Int} {i : Nat} (h : i + 1 < z.length) : z.dropLast.drop i = z.getD i 0 :: z.dropLast.drop (i + 1) := by
  have h2 : i < z.dropLast.length := by rw [List.length_dropLast]; omega
  rw [dropZ_cons _ i h2]
  congr 1
  rw [List.getD_eq_getElem?_getD, List.getD_eq_getElem?_getD, List.getElem?_dropLast, if_pos (by omega)]
theorem last_nil {z : List Int} {i : Nat} (h : i + 1 = z.length) : z.dropLast.drop i = [] := by
  apply List.drop_eq_nil_of_le
  rw [List.length_dropLast]; omega
theorem seg_snoc {z : List Int} {i f : Nat} (h : i < z.length) (hf : f ≤ i) : (z.take (i + 1)).drop f = (z.take i).drop f ++ [z.getD i 0] := by
  rw [List.take_succ_eq_append_getElem h, List.drop_append_of_le_length (by rw [List.length_take]; omega)]
  simp [List.getD_eq_getElem?_getD, h]
theorem seg_nil (z : List Int) (i : Nat) : (z.take i).drop i = [] := by
  apply List.drop_eq_nil_of_le
  rw [List.length_take]; omega
theorem seg_len {z : List Int} {i f : Nat} (h : i ≤ z.length) : ((z.take i).drop f).length = i - f := by
  rw [List.length_drop, List.length_take]; omega
theorem seg_get {z : List Int} {i f j : Nat} (h : i ≤ z.length) (hj : f + j < i) : ((z.take i).drop f).getD j 0 = z.getD (f + j) 0 := by
  have h2 : f + j < z.length := by omega
  simp [List.getD_eq_getElem?_getD, hj, h2]
theorem upT_digit {n : Int} {z : List Int} {i f : Nat} {D : List Nat} (h : i + 1 < z.length) (hf : f ≤ i) (hx : z.getD i 0 = 0 ∨ z.getD i 0 = 1) : upT n z i f D = upT n z (i + 1) f D := by
  unfold upT
  rw [if_pos (by omega), if_pos h, last_drop h, unF_digit _ hx, ← seg_snoc (by omega) hf]
theorem upT_none {n : Int} {z : List Int} {i f : Nat} {D : List Nat} (h : i < z.length) (hx : ¬ (z.getD i 0 = 0 ∨ z.getD i 0 = 1)) (hz : zerF ((z.take i).drop f) = none) : upT n z i f D = none := by
  unfold upT
  rw [if_pos h]
  by_cases h2 : i + 1 < z.length
  · rw [last_drop h2, unF_bad _ hx hz]; rfl
  · rw [last_nil (by omega), unF, hz]; rfl
theorem upT_bad {n : Int} {z : List Int} {i f : Nat} {D : List Nat} (h : i + 1 < z.length) (hx : ¬ (z.getD i 0 = 0 ∨ z.getD i 0 = 1)) (hn : ¬ (2 ≤ z.getD i 0 ∧ z.getD i 0 ≤ n)) : upT n z i f D = none := by
  unfold upT
  rw [if_pos (by omega), last_drop h, unF_no _ hx hn]; rfl
theorem upT_mid {n : Int} {z : List Int} {i f : Nat} {D a : List Nat} (h : i + 1 < z.length) (hn : 2 ≤ z.getD i 0 ∧ z.getD i 0 ≤ n) (hz : zerF ((z.take i).drop f) = some a) : upT n z i f D = upT n z (i + 1) (i + 1) (D ++ a ++ [(z.getD i 0 - 1).toNat]) := by
  unfold upT
  rw [if_pos (by omega), if_pos h, last_drop h, unF_yes _ hn hz, seg_nil]
  cases unF n [] (z.dropLast.drop (i + 1)) <;> simp
theorem upT_last {n : Int} {z : List Int} {i f : Nat} {D a : List Nat} (h : i + 1 = z.length) (hz : zerF ((z.take i).drop f) = some a) : upT n z i f D = upT n z (i + 1) (i + 1) (D ++ a) := by
  unfold upT
  rw [if_pos (by omega), if_neg (by omega), last_nil h, unF, hz]; rfl
theorem upT_long {n most : Int} {z : List Int} {i f : Nat} {D : List Nat} (hu : unF n [] z.dropLast = upT n z i f D) (h : ¬ ((D.length : Int) ≤ most ∧ D.length ≤ 600)) : upA z n most = none := by
  cases hv : unF n [] z.dropLast with
  | none => exact upA_none hv
  | some y =>
    rw [hv] at hu
    refine upA_long hv ?_
    unfold upT at hu
    by_cases hi : i < z.length
    · rw [if_pos hi] at hu
      cases hw : unF n ((z.take i).drop f) (z.dropLast.drop i) with
      | none => rw [hw] at hu; cases hu
      | some r =>
        rw [hw] at hu
        have e := Option.some.inj hu
        subst e
        rw [List.length_append]
        intro h2
        exact h ⟨by omega, by omega⟩
    · rw [if_neg hi] at hu
      have e := Option.some.inj hu
      subst e
      exact h
theorem upT_end {n : Int} {z : List Int} {f : Nat} {D : List Nat} : upT n z z.length f D = some D := by unfold upT; rw [if_neg (by omega)]
theorem up_none {z : List Int} {n most : Int} (h : upA z n most = none) : upOk z n most = false ∧ upL z n most = [] := by unfold upOk upL; rw [h]; exact ⟨rfl, rfl⟩
theorem up_some {z : List Int} {n most : Int} {y : List Nat} (h : upA z n most = some y) : upOk z n most = true ∧ upL z n most = ints y := by unfold upOk upL; rw [h]; exact ⟨rfl, rfl⟩
end Go.Proofs.Ytpdicijoohahaaa
