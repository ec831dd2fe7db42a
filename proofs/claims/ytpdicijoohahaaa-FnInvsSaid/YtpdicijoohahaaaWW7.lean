/- Merged: Items, Ui2. -/
import Derived.Test.YtpdicijoohahaaaWW3
namespace Go.Proofs.Ytpdicijoohahaaa
set_option linter.unusedVariables false
set_option linter.unusedSimpArgs false
open Go.RowKit

/-- The cells of a row of items. -/
def icells : List Item → List Value
  | [] => []
  | x :: r => .int .i64 (x.1 : Int) :: .int .i64 x.2 :: icells r
theorem icells_len (r : List Item) : (icells r).length = r.length * 2 := by
  induction r with
  | nil => rfl
  | cons x r ih => simp only [icells, List.length_cons, ih]; omega
theorem icells_append (r s : List Item) : icells (r ++ s) = icells r ++ icells s := by
  induction r with
  | nil => rfl
  | cons x r ih => simp [icells, ih]
theorem icells_one (x : Item) : icells [x] = [.int .i64 (x.1 : Int), .int .i64 x.2] := rfl
theorem icells_fst (r : List Item) (j : Nat) (h : j < r.length) : (icells r)[j * 2]? = some (.int .i64 (r[j].1 : Int)) := by
  induction r generalizing j with
  | nil => simp at h
  | cons x r ih =>
    cases j with
    | zero => rfl
    | succ j =>
      rw [show (j + 1) * 2 = j * 2 + 1 + 1 by omega]
      simp only [icells, List.getElem?_cons_succ, List.getElem_cons_succ]
      exact ih j (by simpa using h)
theorem icells_snd (r : List Item) (j : Nat) (h : j < r.length) : (icells r)[j * 2 + 1]? = some (.int .i64 r[j].2) := by
  induction r generalizing j with
  | nil => simp at h
  | cons x r ih =>
    cases j with
    | zero => rfl
    | succ j =>
      rw [show (j + 1) * 2 + 1 = j * 2 + 1 + 1 + 1 by omega]
      simp only [icells, List.getElem?_cons_succ, List.getElem_cons_succ]
      exact ih j (by simpa using h)
theorem icells_set (r : List Item) (j : Nat) (x : Item) : icells (r.set j x) = ((icells r).set (j * 2) (.int .i64 (x.1 : Int))).set (j * 2 + 1) (.int .i64 x.2) := by
  induction r generalizing j with
  | nil => rfl
  | cons y r ih =>
    cases j with
    | zero => rfl
    | succ j =>
      rw [show (j + 1) * 2 = j * 2 + 1 + 1 by omega]
      simp only [List.set_cons_succ, icells]
      rw [ih]
theorem icells_cell1 (r : List Item) : ∀ u ∈ icells r, u.oneCell' = true := by
  induction r with
  | nil => simp [icells]
  | cons x r ih =>
    intro u hu
    simp only [icells, List.mem_cons] at hu
    rcases hu with rfl | rfl | hu
    · rfl
    · rfl
    · exact ih u hu

/-- By weight, and for equal weights by symbol. -/
def lex (a b : Item) : Prop := a.1 < b.1 ∨ (a.1 = b.1 ∧ a.2 < b.2)
def LexS (L : List Item) : Prop := L.Pairwise lex
theorem LexS.sorted {L : List Item} (h : LexS L) : Sorted (wts L) := by
  unfold Sorted wts
  rw [List.pairwise_map]
  exact h.imp fun {a b} hab => by rcases hab with h | h <;> omega
theorem lex_unique {L M : List Item} (h : LexS L) (h' : LexS M) (hp : L.Perm M) : L = M :=
  List.Perm.eq_of_pairwise (le := lex) (fun a b _ _ h1 h2 => by
    rcases h1 with h1 | h1 <;> rcases h2 with h2 | h2 <;> first | omega | (exfalso; omega)) h h' hp
/-- A weight: 1 at least. -/
def wgt (x : Int) : Nat := if x = 0 then 1 else x.toNat
def items (zs : List Int) (k : Nat) : List Item := (List.range k).map fun i => (wgt (zs.getD i 0), (i : Int))
theorem items_succ (zs : List Int) (k : Nat) : items zs (k + 1) = items zs k ++ [(wgt (zs.getD k 0), (k : Int))] := by simp [items, List.range_succ]
theorem items_sym (zs : List Int) (k : Nat) : ∀ x ∈ items zs k, 0 ≤ x.2 ∧ x.2 < k := by
  intro x hx
  simp only [items, List.mem_map, List.mem_range] at hx
  obtain ⟨i, hi, rfl⟩ := hx
  simp; omega
theorem items_len (zs : List Int) (k : Nat) : (items zs k).length = k := by simp [items]
/-- One more symbol, at its place. -/
theorem leaf_in {zs : List Int} {k : Nat} {L : List Item} (hp : L.Perm (items zs k)) (hs : LexS L) (at0 : Nat) (hat : at0 ≤ L.length)
    (hl : ∀ x ∈ L.take at0, x.1 ≤ wgt (zs.getD k 0)) (hr : ∀ x ∈ L.drop at0, wgt (zs.getD k 0) < x.1) :
    (L.take at0 ++ (wgt (zs.getD k 0), (k : Int)) :: L.drop at0).Perm (items zs (k + 1)) ∧ LexS (L.take at0 ++ (wgt (zs.getD k 0), (k : Int)) :: L.drop at0) := by
  constructor
  · rw [items_succ]
    refine List.perm_middle.trans ((List.Perm.cons _ ?_).trans (List.perm_append_singleton _ _).symm)
    rw [List.take_append_drop]; exact hp
  · have hd : LexS (L.drop at0) := List.Pairwise.sublist (List.drop_sublist _ _) hs
    have ht : LexS (L.take at0) := List.Pairwise.sublist (List.take_sublist _ _) hs
    unfold LexS at *
    rw [List.pairwise_append]
    refine ⟨ht, ?_, ?_⟩
    · rw [List.pairwise_cons]
      exact ⟨fun y hy => .inl (hr y hy), hd⟩
    · intro x hx y hy
      have hxs := items_sym zs k x (hp.mem_iff.1 (List.mem_of_mem_take hx))
      rcases List.mem_cons.1 hy with rfl | hy
      · have := hl x hx
        rcases Nat.lt_or_ge x.1 (wgt (zs.getD k 0)) with h | h
        · exact .inl h
        · exact .inr ⟨by show x.1 = wgt _; omega, hxs.2⟩
      · have h1 := hl x hx
        have h2 := hr y hy
        exact .inl (by omega)
end Go.Proofs.Ytpdicijoohahaaa
namespace Go.Proofs.Ytpdicijoohahaaa
set_option linter.unusedVariables false
set_option linter.unusedSimpArgs false

/-- x's are put from place t on by the gaps gs; then N goes on. -/
def mT (x : Nat) (O : List Nat) (t : Nat) (gs : List Int) (N : List Nat → Option (List Nat)) : Option (List Nat) := ((plc x (O.drop t) gs).map (O.take t ++ ·)).bind N
theorem mT_start (x : Nat) (O : List Nat) (gs : List Int) (N : List Nat → Option (List Nat)) : (plc x O gs).bind N = mT x O 0 gs N := by
  unfold mT
  rw [List.drop_zero, List.take_zero]
  cases plc x O gs <;> simp
theorem take_snoc8 (O : List Nat) (t : Nat) (h : t < O.length) : O.take (t + 1) = O.take t ++ [O.getD t 0] := by
  rw [List.take_succ_eq_append_getElem h]
  simp [List.getD_eq_getElem?_getD, h]
theorem mT_pass {x : Nat} {O : List Nat} {t : Nat} {s : Int} {gs : List Int} {N : List Nat → Option (List Nat)} (h : t < O.length) (ho : O.getD t 0 < x) : mT x O t (s :: gs) N = mT x O (t + 1) (s :: gs) N := by
  unfold mT
  rw [drop_cons O t h, plc_pass _ _ _ ho, take_snoc8 O t h]
  cases plc x (O.drop (t + 1)) (s :: gs) <;> simp
theorem mT_skip {x : Nat} {O : List Nat} {t : Nat} {s : Int} {gs : List Int} {N : List Nat → Option (List Nat)} (h : t < O.length) (ho : x ≤ O.getD t 0) (hs : 0 < s) : mT x O t (s :: gs) N = mT x O (t + 1) ((s - 1) :: gs) N := by
  unfold mT
  rw [drop_cons O t h, plc_skip _ _ ho hs, take_snoc8 O t h]
  cases plc x (O.drop (t + 1)) ((s - 1) :: gs) <;> simp
theorem mT_here {x : Nat} {O : List Nat} {t : Nat} {gs : List Int} {N : List Nat → Option (List Nat)} (h : t < O.length) (ho : x ≤ O.getD t 0) : mT x O t (0 :: gs) N = mT x (O.set t x) (t + 1) gs N := by
  unfold mT
  have e1 : (O.set t x).drop (t + 1) = O.drop (t + 1) := by rw [List.drop_set_of_lt (by omega)]
  have e2 : (O.set t x).take (t + 1) = O.take t ++ [x] := by
    rw [List.take_succ_eq_append_getElem (by rw [List.length_set]; exact h), List.take_set_of_le (Nat.le_refl _)]
    simp
  rw [drop_cons O t h, plc_here _ _ ho, e1, e2]
  cases plc x (O.drop (t + 1)) gs <;> simp
theorem mT_bad {x : Nat} {O : List Nat} {t : Nat} {s : Int} {gs : List Int} {N : List Nat → Option (List Nat)} (h : t < O.length) (ho : x ≤ O.getD t 0) (hs : s < 0) : mT x O t (s :: gs) N = none := by
  unfold mT
  rw [drop_cons O t h, plc_bad _ _ ho hs]
  rfl
theorem mT_end {x : Nat} {O : List Nat} {t : Nat} {s : Int} {gs : List Int} {N : List Nat → Option (List Nat)} (h : O.length ≤ t) : mT x O t (s :: gs) N = none := by
  unfold mT
  rw [List.drop_eq_nil_of_le h, plc_end]
  rfl
theorem mT_nil {x : Nat} {O : List Nat} {t : Nat} {N : List Nat → Option (List Nat)} : mT x O t [] N = N O := by
  unfold mT
  rw [plc_nil, Option.map_some, List.take_append_drop, Option.bind_some]
theorem gapZ_cons (gz : List Int) (i c : Nat) (h : i < gz.length) (hc : 0 < c) : (gz.drop i).take c = gz.getD i 0 :: (gz.drop (i + 1)).take (c - 1) := by
  obtain ⟨q, rfl⟩ : ∃ q, c = q + 1 := ⟨c - 1, by omega⟩
  rw [List.drop_eq_getElem_cons h, List.take_succ_cons]
  congr 1
  simp [List.getD_eq_getElem?_getD, h]
/-- Symbol x in the model's way. -/
theorem modR_at {cs : List Nat} {gz : List Int} {x g : Nat} {O : List Nat} (h : x + 1 < cs.length) : modR x (cs.drop x) (gz.drop g) O = mT x O 0 ((gz.drop g).take (cs.getD x 0)) (modR (x + 1) (cs.drop (x + 1)) (gz.drop (g + cs.getD x 0))) := by
  rw [drop_cons cs x (by omega), modR_more _ _ _ _ (by
    intro e
    have := congrArg List.length e
    rw [List.length_drop] at this
    simp at this; omega), mT_start, List.drop_drop]
theorem modR_last {cs : List Nat} {gs : List Int} {x : Nat} {O : List Nat} (h : x + 1 = cs.length) : modR x (cs.drop x) gs O = some O := by
  rw [drop_cons cs x (by omega), List.drop_eq_nil_of_le (by omega), modR_one]
theorem off8_le (cs : List Nat) (k : Nat) (h : k < cs.length) : off8 cs k + last8 cs ≤ cs.sum := by
  have h1 : off8 cs k ≤ off8 cs (cs.length - 1) := by
    have : ∀ d k, k + d < cs.length → off8 cs k ≤ off8 cs (k + d) := by
      intro d
      induction d with
      | zero => intro k _; exact Nat.le_refl _
      | succ d ih => intro k hk; have := ih k (by omega); rw [show k + (d + 1) = (k + d) + 1 by omega, off8_succ cs _ (by omega)]; omega
    have := this (cs.length - 1 - k) k (by omega)
    rwa [show k + (cs.length - 1 - k) = cs.length - 1 by omega] at this
  have h2 := off8_succ cs (cs.length - 1) (by omega)
  have h3 : off8 cs (cs.length - 1 + 1) = cs.sum := by unfold off8; rw [List.take_of_length_le (by omega)]
  unfold last8
  omega
theorem off8_last (cs : List Nat) (h : 0 < cs.length) : off8 cs (cs.length - 1) + last8 cs = cs.sum := by
  have h2 := off8_succ cs (cs.length - 1) (by omega)
  have h3 : off8 cs (cs.length - 1 + 1) = cs.sum := by unfold off8; rw [List.take_of_length_le (by omega)]
  unfold last8
  omega
theorem ui_none {z g : List Int} {n : Int} (h : uiA z g n = none) : uiOk z g n = false ∧ uiL z g n = [] := by unfold uiOk uiL; rw [h]; exact ⟨rfl, rfl⟩
theorem ui_some {z g : List Int} {n : Int} {y : List Nat} (h : uiA z g n = some y) : uiOk z g n = true ∧ uiL z g n = ints y := by unfold uiOk uiL; rw [h]; exact ⟨rfl, rfl⟩
end Go.Proofs.Ytpdicijoohahaaa
