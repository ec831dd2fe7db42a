/- Chapter 8, plain: a list from its inversion frequencies, place by place (as the model goes). -/
import Derived.Test.YtpdicijoohahaaaUi
namespace Go.Proofs.Ytpdicijoohahaaa
set_option linter.unusedVariables false
set_option linter.unusedSimpArgs false

/-- x's are put from place t on by the gaps gs; then N goes on. -/
def mT (x : Nat) (O : List Nat) (t : Nat) (gs : List Int) (N : List Nat → Option (List Nat)) : Option (List Nat) := ((plc x (O.drop t) gs).map (O.take t ++ ·)).bind N
theorem mT_start (x : Nat) (O : List Nat) (gs : List Int) (N : List Nat → Option (List Nat)) : (plc x O gs).bind N = mT x O 0 gs N := by
  unfold mT
  rw [List.drop_zero, List.take_zero]
  cases plc x O gs <;> simp
theorem take_snoc8 (O : List Nat) (t : Nat) (h : t < O.length) : O.take (t + 1) = O.take t ++ [O.getD t 0] := by
  rw [List.take_succ_eq_append_getElem h]
  simp [List.getD_eq_getElem?_getD, h]
theorem mT_pass {x : Nat} {O : List Nat} {t : Nat} {s : Int} {gs : List Int} {N : List Nat → Option (List Nat)} (h : t < O.length) (ho : O.getD t 0 < x) : mT x O t (s :: gs) N = mT x O (t + 1) (s :: gs) N := by
  unfold mT
  rw [drop_cons O t h, plc_pass _ _ _ ho, take_snoc8 O t h]
  cases plc x (O.drop (t + 1)) (s :: gs) <;> simp
theorem mT_skip {x : Nat} {O : List Nat} {t : Nat} {s : Int} {gs : List Int} {N : List Nat → Option (List Nat)} (h : t < O.length) (ho : x ≤ O.getD t 0) (hs : 0 < s) : mT x O t (s :: gs) N = mT x O (t + 1) ((s - 1) :: gs) N := by
  unfold mT
  rw [drop_cons O t h, plc_skip _ _ ho hs, take_snoc8 O t h]
  cases plc x (O.drop (t + 1)) ((s - 1) :: gs) <;> simp
theorem mT_here {x : Nat} {O : List Nat} {t : Nat} {gs : List Int} {N : List Nat → Option (List Nat)} (h : t < O.length) (ho : x ≤ O.getD t 0) : mT x O t (0 :: gs) N = mT x (O.set t x) (t + 1) gs N := by
  unfold mT
  have e1 : (O.set t x).drop (t + 1) = O.drop (t + 1) := by rw [List.drop_set_of_lt (by omega)]
  have e2 : (O.set t x).take (t + 1) = O.take t ++ [x] := by
    rw [List.take_succ_eq_append_getElem (by rw [List.length_set]; exact h), List.take_set_of_le (Nat.le_refl _)]
    simp
  rw [drop_cons O t h, plc_here _ _ ho, e1, e2]
  cases plc x (O.drop (t + 1)) gs <;> simp
theorem mT_bad {x : Nat} {O : List Nat} {t : Nat} {s : Int} {gs : List Int} {N : List Nat → Option (List Nat)} (h : t < O.length) (ho : x ≤ O.getD t 0) (hs : s < 0) : mT x O t (s :: gs) N = none := by
  unfold mT
  rw [drop_cons O t h, plc_bad _ _ ho hs]
  rfl
theorem mT_end {x : Nat} {O : List Nat} {t : Nat} {s : Int} {gs : List Int} {N : List Nat → Option (List Nat)} (h : O.length ≤ t) : mT x O t (s :: gs) N = none := by
  unfold mT
  rw [List.drop_eq_nil_of_le h, plc_end]
  rfl
theorem mT_nil {x : Nat} {O : List Nat} {t : Nat} {N : List Nat → Option (List Nat)} : mT x O t [] N = N O := by
  unfold mT
  rw [plc_nil, Option.map_some, List.take_append_drop, Option.bind_some]
theorem gapZ_cons (gz : List Int) (i c : Nat) (h : i < gz.length) (hc : 0 < c) : (gz.drop i).take c = gz.getD i 0 :: (gz.drop (i + 1)).take (c - 1) := by
  obtain ⟨q, rfl⟩ : ∃ q, c = q + 1 := ⟨c - 1, by omega⟩
  rw [List.drop_eq_getElem_cons h, List.take_succ_cons]
  congr 1
  simp [List.getD_eq_getElem?_getD, h]
/-- Symbol x in the model's way. -/
theorem modR_at {cs : List Nat} {gz : List Int} {x g : Nat} {O : List Nat} (h : x + 1 < cs.length) : modR x (cs.drop x) (gz.drop g) O = mT x O 0 ((gz.drop g).take (cs.getD x 0)) (modR (x + 1) (cs.drop (x + 1)) (gz.drop (g + cs.getD x 0))) := by
  rw [drop_cons cs x (by omega), modR_more _ _ _ _ (by
    intro e
    have := congrArg List.length e
    rw [List.length_drop] at this
    simp at this; omega), mT_start, List.drop_drop]
theorem modR_last {cs : List Nat} {gs : List Int} {x : Nat} {O : List Nat} (h : x + 1 = cs.length) : modR x (cs.drop x) gs O = some O := by
  rw [drop_cons cs x (by omega), List.drop_eq_nil_of_le (by omega), modR_one]
theorem off8_le (cs : List Nat) (k : Nat) (h : k < cs.length) : off8 cs k + last8 cs ≤ cs.sum := by
  have h1 : off8 cs k ≤ off8 cs (cs.length - 1) := by
    have : ∀ d k, k + d < cs.length → off8 cs k ≤ off8 cs (k + d) := by
      intro d
      induction d with
      | zero => intro k _; exact Nat.le_refl _
      | succ d ih => intro k hk; have := ih k (by omega); rw [show k + (d + 1) = (k + d) + 1 by omega, off8_succ cs _ (by omega)]; omega
    have := this (cs.length - 1 - k) k (by omega)
    rwa [show k + (cs.length - 1 - k) = cs.length - 1 by omega] at this
  have h2 := off8_succ cs (cs.length - 1) (by omega)
  have h3 : off8 cs (cs.length - 1 + 1) = cs.sum := by unfold off8; rw [List.take_of_length_le (by omega)]
  unfold last8
  omega
theorem off8_last (cs : List Nat) (h : 0 < cs.length) : off8 cs (cs.length - 1) + last8 cs = cs.sum := by
  have h2 := off8_succ cs (cs.length - 1) (by omega)
  have h3 : off8 cs (cs.length - 1 + 1) = cs.sum := by unfold off8; rw [List.take_of_length_le (by omega)]
  unfold last8
  omega
theorem ui_none {z g : List Int} {n : Int} (h : uiA z g n = none) : uiOk z g n = false ∧ uiL z g n = [] := by unfold uiOk uiL; rw [h]; exact ⟨rfl, rfl⟩
theorem ui_some {z g : List Int} {n : Int} {y : List Nat} (h : uiA z g n = some y) : uiOk z g n = true ∧ uiL z g n = ints y := by unfold uiOk uiL; rw [h]; exact ⟨rfl, rfl⟩
end Go.Proofs.Ytpdicijoohahaaa
