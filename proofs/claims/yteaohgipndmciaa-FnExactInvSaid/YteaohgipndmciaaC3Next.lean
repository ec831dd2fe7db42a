/- Chapter 3: the next row of packages (the model). -/
import Derived.Test.YteaohgipndmciaaC3Leaves
namespace Go.Proofs.Yteaohgipndmciaa
set_option linter.unusedVariables false
set_option linter.unusedSimpArgs false
open Go.RowKit

theorem packs_get (R : List Item) (p : Nat) (h : 2 * p + 1 < R.length) : (packs R).drop p = (R[2 * p].1 + R[2 * p + 1].1) :: (packs R).drop (p + 1) := by
  induction R using packs.induct generalizing p with
  | case1 a b r ih =>
    cases p with
    | zero => simp [packs]
    | succ p =>
      have := ih p (by simp only [List.length_cons] at h; omega)
      simp only [packs, List.drop_succ_cons]
      rw [this]
      have e1 : (a :: b :: r)[2 * (p + 1)] = r[2 * p]'(by simp only [List.length_cons] at h; omega) := by
        simp only [show 2 * (p + 1) = 2 * p + 1 + 1 by omega, List.getElem_cons_succ]
      have e2 : (a :: b :: r)[2 * (p + 1) + 1] = r[2 * p + 1]'(by simp only [List.length_cons] at h; omega) := by
        simp only [show 2 * (p + 1) + 1 = 2 * p + 1 + 1 + 1 by omega, List.getElem_cons_succ]
      rw [e1, e2]
  | case2 r h2 => cases r with
    | nil => simp at h
    | cons a r => cases r with
      | nil => simp at h
      | cons b r => exact absurd rfl (h2 a b r)
theorem packs_end (R : List Item) (p : Nat) (h : R.length ≤ 2 * p + 1) : (packs R).drop p = [] := List.drop_eq_nil_of_le (by rw [packs_len]; omega)
theorem merge_leaf (L : List Item) (k p0 : Nat) (P : List Nat) (hk : k < L.length) (h : L[k].1 ≤ p0) : mergeM (L.drop k) (p0 :: P) = L[k] :: mergeM (L.drop (k + 1)) (p0 :: P) := by
  rw [← List.getElem_cons_drop (h := hk), mergeM, if_pos h]
theorem merge_pack (L : List Item) (k p0 : Nat) (P : List Nat) (h : ∀ hk : k < L.length, p0 < L[k].1) : mergeM (L.drop k) (p0 :: P) = (p0, -1) :: mergeM (L.drop k) P := by
  rcases Nat.lt_or_ge k L.length with hk | hk
  · rw [← List.getElem_cons_drop (h := hk), mergeM, if_neg (by have := h hk; omega)]
  · rw [List.drop_eq_nil_of_le hk, mergeM]
theorem merge_end (L : List Item) : mergeM L [] = L := by cases L <;> rw [mergeM]

theorem icells_drop (L : List Item) (k : Nat) : icells (L.drop k) = (icells L).drop (k * 2) := by
  induction k generalizing L with
  | zero => rfl
  | succ k ih => cases L with
    | nil => simp [icells]
    | cons x L => rw [show (k + 1) * 2 = k * 2 + 1 + 1 by omega]; simp only [List.drop_succ_cons, icells]; exact ih L
theorem news_from {w : World} {base g n c : Nat} {E : TypeId} {L : List Item} (h : w.ownsRow base E 2 (.slice (some ⟨g, 0, none⟩) n c) n (icells L)) (k : Nat) : ∀ (j : Nat) (u : Value), (icells (L.drop k))[j]? = some u → w.cell? ((⟨g, k * 2, none⟩ : Addr).add j) = some u := by
  intro j u hu
  have e : (⟨g, k * 2, none⟩ : Addr).add j = ⟨g, k * 2 + j, none⟩ := by unfold Addr.add; split <;> simp_all
  rw [icells_drop, List.getElem?_drop] at hu
  have hl := h.1
  have hj : k * 2 + j < n * 2 := by
    rw [← hl]; exact (List.getElem?_eq_some_iff.1 hu).1
  rw [e, h.cellAt _ hj, hu]
end Go.Proofs.Yteaohgipndmciaa
