/- Items (a weight and a symbol) in memory; the symbols in order of weight. No condition. -/
import Derived.Test.YteaohgipndmciaaPM
import Derived.Test.YteaohgipndmciaaRet
import Derived.Test.YteaohgipndmciaaMem
namespace Go.Proofs.Yteaohgipndmciaa
set_option linter.unusedVariables false
set_option linter.unusedSimpArgs false
open Go.RowKit

/-- The cells of a row of items. -/
def icells : List Item → List Value
  | [] => []
  | x :: r => .int .i64 (x.1 : Int) :: .int .i64 x.2 :: icells r
theorem icells_len (r : List Item) : (icells r).length = r.length * 2 := by
  induction r with
  | nil => rfl
  | cons x r ih => simp only [icells, List.length_cons, ih]; omega
theorem icells_append (r s : List Item) : icells (r ++ s) = icells r ++ icells s := by
  induction r with
  | nil => rfl
  | cons x r ih => simp [icells, ih]
theorem icells_one (x : Item) : icells [x] = [.int .i64 (x.1 : Int), .int .i64 x.2] := rfl
theorem icells_fst (r : List Item) (j : Nat) (h : j < r.length) : (icells r)[j * 2]? = some (.int .i64 (r[j].1 : Int)) := by
  induction r generalizing j with
  | nil => simp at h
  | cons x r ih =>
    cases j with
    | zero => rfl
    | succ j =>
      rw [show (j + 1) * 2 = j * 2 + 1 + 1 by omega]
      simp only [icells, List.getElem?_cons_succ, List.getElem_cons_succ]
      exact ih j (by simpa using h)
theorem icells_snd (r : List Item) (j : Nat) (h : j < r.length) : (icells r)[j * 2 + 1]? = some (.int .i64 r[j].2) := by
  induction r generalizing j with
  | nil => simp at h
  | cons x r ih =>
    cases j with
    | zero => rfl
    | succ j =>
      rw [show (j + 1) * 2 + 1 = j * 2 + 1 + 1 + 1 by omega]
      simp only [icells, List.getElem?_cons_succ, List.getElem_cons_succ]
      exact ih j (by simpa using h)
theorem icells_set (r : List Item) (j : Nat) (x : Item) : icells (r.set j x) = ((icells r).set (j * 2) (.int .i64 (x.1 : Int))).set (j * 2 + 1) (.int .i64 x.2) := by
  induction r generalizing j with
  | nil => rfl
  | cons y r ih =>
    cases j with
    | zero => rfl
    | succ j =>
      rw [show (j + 1) * 2 = j * 2 + 1 + 1 by omega]
      simp only [List.set_cons_succ, icells]
      rw [ih]
theorem icells_cell1 (r : List Item) : ∀ u ∈ icells r, u.oneCell' = true := by
  induction r with
  | nil => simp [icells]
  | cons x r ih =>
    intro u hu
    simp only [icells, List.mem_cons] at hu
    rcases hu with rfl | rfl | hu
    · rfl
    · rfl
    · exact ih u hu

/-- By weight, and for equal weights by symbol. -/
def lex (a b : Item) : Prop := a.1 < b.1 ∨ (a.1 = b.1 ∧ a.2 < b.2)
def LexS (L : List Item) : Prop := L.Pairwise lex
theorem LexS.sorted {L : List Item} (h : LexS L) : Sorted (wts L) := by
  unfold Sorted wts
  rw [List.pairwise_map]
  exact h.imp fun {a b} hab => by rcases hab with h | h <;> omega
theorem lex_unique {L M : List Item} (h : LexS L) (h' : LexS M) (hp : L.Perm M) : L = M :=
  List.Perm.eq_of_pairwise (le := lex) (fun a b _ _ h1 h2 => by
    rcases h1 with h1 | h1 <;> rcases h2 with h2 | h2 <;> first | omega | (exfalso; omega)) h h' hp
/-- A weight: 1 at least. -/
def wgt (x : Int) : Nat := if x = 0 then 1 else x.toNat
def items (zs : List Int) (k : Nat) : List Item := (List.range k).map fun i => (wgt (zs.getD i 0), (i : Int))
theorem items_succ (zs : List Int) (k : Nat) : items zs (k + 1) = items zs k ++ [(wgt (zs.getD k 0), (k : Int))] := by simp [items, List.range_succ]
theorem items_sym (zs : List Int) (k : Nat) : ∀ x ∈ items zs k, 0 ≤ x.2 ∧ x.2 < k := by
  intro x hx
  simp only [items, List.mem_map, List.mem_range] at hx
  obtain ⟨i, hi, rfl⟩ := hx
  simp; omega
theorem items_len (zs : List Int) (k : Nat) : (items zs k).length = k := by simp [items]
/-- One more symbol, at its place. -/
theorem leaf_in {zs : List Int} {k : Nat} {L : List Item} (hp : L.Perm (items zs k)) (hs : LexS L) (at0 : Nat) (hat : at0 ≤ L.length)
    (hl : ∀ x ∈ L.take at0, x.1 ≤ wgt (zs.getD k 0)) (hr : ∀ x ∈ L.drop at0, wgt (zs.getD k 0) < x.1) :
    (L.take at0 ++ (wgt (zs.getD k 0), (k : Int)) :: L.drop at0).Perm (items zs (k + 1)) ∧ LexS (L.take at0 ++ (wgt (zs.getD k 0), (k : Int)) :: L.drop at0) := by
  constructor
  · rw [items_succ]
    refine List.perm_middle.trans ((List.Perm.cons _ ?_).trans (List.perm_append_singleton _ _).symm)
    rw [List.take_append_drop]; exact hp
  · have hd : LexS (L.drop at0) := List.Pairwise.sublist (List.drop_sublist _ _) hs
    have ht : LexS (L.take at0) := List.Pairwise.sublist (List.take_sublist _ _) hs
    unfold LexS at *
    rw [List.pairwise_append]
    refine ⟨ht, ?_, ?_⟩
    · rw [List.pairwise_cons]
      exact ⟨fun y hy => .inl (hr y hy), hd⟩
    · intro x hx y hy
      have hxs := items_sym zs k x (hp.mem_iff.1 (List.mem_of_mem_take hx))
      rcases List.mem_cons.1 hy with rfl | hy
      · have := hl x hx
        rcases Nat.lt_or_ge x.1 (wgt (zs.getD k 0)) with h | h
        · exact .inl h
        · exact .inr ⟨by show x.1 = wgt _; omega, hxs.2⟩
      · have h1 := hl x hx
        have h2 := hr y hy
        exact .inl (by omega)
end Go.Proofs.Yteaohgipndmciaa
