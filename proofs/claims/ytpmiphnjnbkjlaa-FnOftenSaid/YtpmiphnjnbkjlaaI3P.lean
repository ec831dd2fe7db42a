/- Chapter 3, the program's own lists: merging and sorting, plain mathematics. No condition. -/
import Derived.Test.YtpmiphnjnbkjlaaC3Plain
namespace Go.Proofs.Ytpmiphnjnbkjlaa
set_option linter.unusedVariables false
set_option linter.unusedSimpArgs false

/-- Two lists merged; of equal ones the first list's come first. -/
def mrg {α : Type} (lt : α → α → Bool) : List α → List α → List α
  | [], M => M
  | x :: L, [] => x :: L
  | x :: L, y :: M => if lt y x = true then y :: mrg lt (x :: L) M else x :: mrg lt L (y :: M)
termination_by L M => L.length + M.length
theorem mrg_nil {α : Type} (lt : α → α → Bool) (M : List α) : mrg lt [] M = M := by rw [mrg]
theorem mrg_nil' {α : Type} (lt : α → α → Bool) (L : List α) : mrg lt L [] = L := by cases L <;> rw [mrg]
theorem mrg_perm {α : Type} (lt : α → α → Bool) (L M : List α) : (mrg lt L M).Perm (L ++ M) := by
  induction L, M using mrg.induct (lt := lt) with
  | case1 M => rw [mrg_nil]; exact List.Perm.refl _
  | case2 x L => rw [mrg_nil', List.append_nil]
  | case3 x L y M h ih => rw [mrg, if_pos h]; exact (ih.cons y).trans List.perm_middle.symm
  | case4 x L y M h ih => rw [mrg, if_neg h]; exact ih.cons x
theorem mrg_len {α : Type} (lt : α → α → Bool) (L M : List α) : (mrg lt L M).length = L.length + M.length := by rw [(mrg_perm lt L M).length_eq, List.length_append]
theorem mrg_b {α : Type} (lt : α → α → Bool) (L M : List α) (i j : Nat) (hi : i < L.length) (hj : j < M.length) (h : lt M[j] L[i] = true) : mrg lt (L.drop i) (M.drop j) = M[j] :: mrg lt (L.drop i) (M.drop (j + 1)) := by
  rw [← List.getElem_cons_drop (h := hi), ← List.getElem_cons_drop (h := hj), mrg, if_pos h]
theorem mrg_a {α : Type} (lt : α → α → Bool) (L M : List α) (i j : Nat) (hi : i < L.length) (hj : j < M.length) (h : lt M[j] L[i] = false) : mrg lt (L.drop i) (M.drop j) = L[i] :: mrg lt (L.drop (i + 1)) (M.drop j) := by
  rw [← List.getElem_cons_drop (h := hi), ← List.getElem_cons_drop (h := hj), mrg, if_neg (by rw [h]; decide)]
theorem mrg_end {α : Type} (lt : α → α → Bool) (L M : List α) (i j : Nat) (h : ¬ (i < L.length ∧ j < M.length)) : mrg lt (L.drop i) (M.drop j) = L.drop i ++ M.drop j := by
  rcases Nat.lt_or_ge i L.length with hi | hi
  · rw [List.drop_eq_nil_of_le (show M.length ≤ j by omega), mrg_nil', List.append_nil]
  · rw [List.drop_eq_nil_of_le hi, mrg_nil]; rfl
/-- Sorted by halves. -/
def srt {α : Type} (lt : α → α → Bool) (L : List α) : List α := if L.length < 2 then L else mrg lt (srt lt (L.take (L.length / 2))) (srt lt (L.drop (L.length / 2)))
termination_by L.length
decreasing_by all_goals simp only [List.length_take, List.length_drop]; omega
theorem srt_small {α : Type} (lt : α → α → Bool) (L : List α) (h : L.length < 2) : srt lt L = L := by rw [srt, if_pos h]
theorem srt_big {α : Type} (lt : α → α → Bool) (L : List α) (h : ¬ L.length < 2) : srt lt L = mrg lt (srt lt (L.take (L.length / 2))) (srt lt (L.drop (L.length / 2))) := by rw [srt, if_neg h]
theorem srt_perm {α : Type} (lt : α → α → Bool) (L : List α) : (srt lt L).Perm L := by
  induction L using srt.induct with
  | case1 L h => rw [srt_small lt L h]
  | case2 L h ih1 ih2 =>
    rw [srt_big lt L h]
    refine (mrg_perm _ _ _).trans ((ih1.append ih2).trans ?_)
    rw [List.take_append_drop]
theorem srt_len {α : Type} (lt : α → α → Bool) (L : List α) : (srt lt L).length = L.length := (srt_perm lt L).length_eq

/-! ### items -/
def ltI (a b : Item) : Bool := decide (a.1 < b.1)
theorem mrg_lex (L M : List Item) (hL : LexS L) (hM : LexS M) (h : ∀ x ∈ L, ∀ y ∈ M, x.2 < y.2) : LexS (mrg ltI L M) := by
  induction L, M using mrg.induct (lt := ltI) with
  | case1 M => rw [mrg_nil]; exact hM
  | case2 x L => rw [mrg_nil']; exact hL
  | case3 x L y M hc ih =>
    rw [mrg, if_pos hc]
    have hM' := List.pairwise_cons.1 hM
    unfold LexS at *
    refine List.pairwise_cons.2 ⟨fun z hz => ?_, ih hL hM'.2 (fun a ha b hb => h a ha b (List.mem_cons_of_mem _ hb))⟩
    rcases List.mem_append.1 ((mrg_perm _ _ _).mem_iff.1 hz) with hz | hz
    · have hy : y.1 < x.1 := by simpa [ltI] using hc
      rcases List.mem_cons.1 hz with rfl | hz
      · exact .inl hy
      · rcases (List.pairwise_cons.1 hL).1 z hz with h1 | h1 <;> exact .inl (by omega)
    · exact hM'.1 z hz
  | case4 x L y M hc ih =>
    rw [mrg, if_neg hc]
    have hL' := List.pairwise_cons.1 hL
    unfold LexS at *
    refine List.pairwise_cons.2 ⟨fun z hz => ?_, ih hL'.2 hM (fun a ha b hb => h a (List.mem_cons_of_mem _ ha) b hb)⟩
    rcases List.mem_append.1 ((mrg_perm _ _ _).mem_iff.1 hz) with hz | hz
    · exact hL'.1 z hz
    · have hx : x.1 ≤ y.1 := by simpa [ltI] using hc
      have hs := h x (by simp) z hz
      rcases List.mem_cons.1 hz with rfl | hz
      · rcases Nat.lt_or_ge x.1 z.1 with h1 | h1
        · exact .inl h1
        · exact .inr ⟨by omega, hs⟩
      · rcases (List.pairwise_cons.1 hM).1 z hz with h1 | h1
        · exact .inl (by omega)
        · rcases Nat.lt_or_ge x.1 z.1 with h2 | h2
          · exact .inl h2
          · exact .inr ⟨by omega, hs⟩
theorem srt_lex (L : List Item) (h : L.Pairwise (fun a b => a.2 < b.2)) : LexS (srt ltI L) := by
  induction L using srt.induct with
  | case1 L h2 =>
    rw [srt_small ltI L h2]
    match L, h2 with
    | [], _ => exact List.Pairwise.nil
    | [x], _ => exact List.pairwise_singleton _ _
  | case2 L h2 ih1 ih2 =>
    rw [srt_big ltI L h2]
    rw [← List.take_append_drop (L.length / 2) L, List.pairwise_append] at h
    refine mrg_lex _ _ (ih1 h.1) (ih2 h.2.1) ?_
    intro x hx y hy
    exact h.2.2 x ((srt_perm _ _).mem_iff.1 hx) y ((srt_perm _ _).mem_iff.1 hy)
theorem items_asc (zs : List Int) (k : Nat) : (items zs k).Pairwise (fun a b => a.2 < b.2) := by
  unfold items
  rw [List.pairwise_map]
  exact List.pairwise_lt_range.imp fun {a b} h => by show (a : Int) < b; omega
theorem srt_items (zs : List Int) : srt ltI (items zs zs.length) = leafL zs := leafL_eq (srt_perm _ _) (srt_lex _ (items_asc zs _))
/-- The packages of a row, as items. -/
def pks (R : List Item) : List Item := (packs R).map fun p => (p, (-1 : Int))
theorem pks_len (R : List Item) : (pks R).length = R.length / 2 := by simp [pks, packs_len]
theorem mrg_packs (L : List Item) (P : List Nat) : mrg ltI L (P.map fun p => (p, (-1 : Int))) = mergeM L P := by
  induction L, P using mergeM.induct with
  | case1 L => rw [mergeM]; exact mrg_nil' _ _
  | case2 p P ih => rw [mergeM, mrg_nil]; rw [mrg_nil] at ih; rw [← ih]; rfl
  | case3 x L p P h ih =>
    rw [mergeM, if_pos h, List.map_cons, mrg, if_neg (by simp [ltI]; omega), ← ih]; rfl
  | case4 x L p P h ih =>
    rw [mergeM, if_neg h, List.map_cons, mrg, if_pos (by simp [ltI]; omega), ← ih]
theorem mrg_pks (L R : List Item) : mrg ltI L (pks R) = mergeM L (packs R) := mrg_packs L _
theorem pks_get (R : List Item) (p : Nat) (h : 2 * p + 1 < R.length) : (pks R)[p]'(by rw [pks_len]; omega) = (R[2 * p].1 + R[2 * p + 1].1, -1) := by
  have h1 := packs_get R p h
  have hp : p < (packs R).length := by rw [packs_len]; omega
  rw [← List.getElem_cons_drop (h := hp)] at h1
  injection h1 with h1 h2
  unfold pks
  rw [List.getElem_map, h1]

/-! ### numbers -/
def ltN (a b : Nat) : Bool := decide (a < b)
theorem mrg_nat (L M : List Nat) (hL : Sorted L) (hM : Sorted M) : Sorted (mrg ltN L M) := by
  induction L, M using mrg.induct (lt := ltN) with
  | case1 M => rw [mrg_nil]; exact hM
  | case2 x L => rw [mrg_nil']; exact hL
  | case3 x L y M hc ih =>
    rw [mrg, if_pos hc]
    have hM' := List.pairwise_cons.1 hM
    unfold Sorted at *
    refine List.pairwise_cons.2 ⟨fun z hz => ?_, ih hL hM'.2⟩
    have hy : y < x := by simpa [ltN] using hc
    rcases List.mem_append.1 ((mrg_perm _ _ _).mem_iff.1 hz) with hz | hz
    · rcases List.mem_cons.1 hz with rfl | hz
      · omega
      · have := (List.pairwise_cons.1 hL).1 z hz; omega
    · exact hM'.1 z hz
  | case4 x L y M hc ih =>
    rw [mrg, if_neg hc]
    have hL' := List.pairwise_cons.1 hL
    unfold Sorted at *
    refine List.pairwise_cons.2 ⟨fun z hz => ?_, ih hL'.2 hM⟩
    have hx : x ≤ y := by simpa [ltN] using hc
    rcases List.mem_append.1 ((mrg_perm _ _ _).mem_iff.1 hz) with hz | hz
    · exact hL'.1 z hz
    · rcases List.mem_cons.1 hz with rfl | hz
      · exact hx
      · have := (List.pairwise_cons.1 hM).1 z hz; omega
theorem srt_nat (L : List Nat) : Sorted (srt ltN L) := by
  induction L using srt.induct with
  | case1 L h2 =>
    rw [srt_small ltN L h2]
    match L, h2 with
    | [], _ => exact List.Pairwise.nil
    | [x], _ => exact List.pairwise_singleton _ _
  | case2 L h2 ih1 ih2 => rw [srt_big ltN L h2]; exact mrg_nat _ _ ih1 ih2
/-- A round of Huffman's: the two first of a sorted list. -/
theorem huff_sorted {x y c : Nat} {R : List Nat} (hs : Sorted (x :: y :: R)) (h : Huff (mrg ltN R [x + y]) c) : Huff (x :: y :: R) (x + y + c) := by
  have h1 := List.pairwise_cons.1 hs
  have h2 := List.pairwise_cons.1 h1.2
  exact Huff.two _ x y R _ c (List.Perm.refl _) h1.1 h2.1 ((mrg_perm _ _ _).trans List.perm_append_comm) h
theorem huff_perm {l l' : List Nat} {c : Nat} (h : Huff l c) (hp : l'.Perm l) : Huff l' c := by
  cases h with
  | one x => rw [List.perm_singleton.1 hp]; exact Huff.one x
  | two l x y r r' c hl hx hy hr h => exact Huff.two l' x y r r' c (hp.trans hl) hx hy hr h
theorem sorted_next {x y : Nat} {R : List Nat} (hs : Sorted (x :: y :: R)) : Sorted (mrg ltN R [x + y]) :=
  mrg_nat _ _ (List.pairwise_cons.1 (List.pairwise_cons.1 hs).2).2 (List.pairwise_singleton _ _)
end Go.Proofs.Ytpmiphnjnbkjlaa
