/- Chapter 3: the symbols in order of weight (the model). -/
import Derived.Test.YteaohgipndmciaaC3
import Derived.Test.YteaohgipndmciaaItems
import Derived.Test.YteaohgipndmciaaNats
import Derived.WalkLawsBesides
import Derived.Maps.AppendAt
namespace Go.Proofs.Yteaohgipndmciaa
set_option linter.unusedVariables false
set_option linter.unusedSimpArgs false
open Go.RowKit

theorem news_two {w : World} {g : Nat} {T : TypeId} {x y : Value} (h : Has w g T #[x, y]) : ∀ (j : Nat) (u : Value), [x, y][j]? = some u → w.cell? ((⟨g, 0, none⟩ : Addr).add j) = some u := by
  intro j u hu
  have e : (⟨g, 0, none⟩ : Addr).add j = ⟨g, j, none⟩ := by unfold Addr.add; split <;> simp_all
  rw [e, h.cell j]
  simpa using hu
theorem two_one (x y : Int) : ∀ u ∈ [Value.int .i64 x, Value.int .i64 y], u.oneCell' = true := by
  intro u hu
  simp only [List.mem_cons, List.not_mem_nil, or_false] at hu
  rcases hu with rfl | rfl <;> rfl
theorem own_item {w : World} {base g n cap : Nat} {E : TypeId} {D : List Item} (h : w.ownsRow base E 2 (.slice (some ⟨g, 0, none⟩) n cap) n (icells D)) (nq q : Nat) (x : Item) :
    (((w.drewN nq).setCell ⟨g, q * 2, none⟩ (.int .i64 (x.1 : Int))).setCell ⟨g, q * 2 + 1, none⟩ (.int .i64 x.2)).ownsRow base E 2 (.slice (some ⟨g, 0, none⟩) n cap) n (icells (D.set q x)) := by
  rw [icells_set]
  have h' : (w.drewN nq).ownsRow base E 2 (.slice (some ⟨g, 0, none⟩) n cap) n (icells D) := h
  exact ((h'.stored _ _).1.stored _ _).1
theorem set_split {D L : List Item} {q : Nat} (x : Item) (hq : q < D.length) (h1 : D.take q = L.take q) (h2 : D.drop (q + 1) = L.drop q) : D.set q x = L.take q ++ x :: L.drop q := by
  rw [List.set_eq_take_append_cons_drop, if_pos hq, h1, h2]
theorem move_up {D L : List Item} {p W : Nat} (hq : p + 1 < D.length) (h1 : D.take (p + 1) = L.take (p + 1)) (h2 : D.drop (p + 1 + 1) = L.drop (p + 1)) (h3 : ∀ x ∈ L.drop (p + 1), W < x.1) (hpL : p < L.length) (hW : W < (D[p]'(by omega)).1) :
    (D.set (p + 1) (D[p]'(by omega))).take p = L.take p ∧ (D.set (p + 1) (D[p]'(by omega))).drop (p + 1) = L.drop p ∧ ∀ x ∈ L.drop p, W < x.1 := by
  have e : D[p]'(by omega) = L[p] := by
    have g1 : (D.take (p + 1))[p]'(by rw [List.length_take]; omega) = D[p]'(by omega) := List.getElem_take
    have g2 : (L.take (p + 1))[p]'(by rw [List.length_take]; omega) = L[p] := List.getElem_take
    rw [← g1, ← g2]; congr 1
  have e2 : L.drop p = L[p] :: L.drop (p + 1) := (List.getElem_cons_drop (h := hpL)).symm
  refine ⟨?_, ?_, ?_⟩
  · rw [List.take_set_of_le (by omega)]
    have := congrArg (List.take p) h1
    rwa [List.take_take, List.take_take, Nat.min_eq_left (by omega)] at this
  · rw [List.set_eq_take_append_cons_drop, if_pos hq, List.drop_append_of_le_length (by rw [List.length_take]; omega), List.drop_eq_nil_of_le (by rw [List.length_take]; omega), List.nil_append, h2, e, e2]
  · rw [e2]
    intro x hx
    rcases List.mem_cons.1 hx with rfl | hx
    · rw [← e]; exact hW
    · exact h3 x hx
theorem last_most (R : List Item) (hs : Sorted (wts R)) (h : 0 < R.length) : ∀ z ∈ R, z.1 ≤ (R[R.length - 1]'(by omega)).1 := by
  intro z hz
  obtain ⟨i, hi, rfl⟩ := List.getElem_of_mem hz
  rcases Nat.lt_or_ge i (R.length - 1) with hlt | hge
  · unfold Sorted wts at hs
    rw [List.pairwise_map] at hs
    exact List.pairwise_iff_getElem.1 hs i (R.length - 1) hi (by omega) hlt
  · have : i = R.length - 1 := by omega
    subst this; exact Nat.le_refl _
theorem wgt_le (x : Int) (h1 : x ≤ 1000000) : 1 ≤ wgt x ∧ wgt x ≤ 1000000 ∨ x < 0 := by
  unfold wgt
  by_cases h : x = 0
  · rw [if_pos h]; omega
  · rw [if_neg h]; omega
end Go.Proofs.Yteaohgipndmciaa
