/- Code lengths by packages, plain mathematics: within their limit they use all codes, and none need less. No condition. -/
import Derived.Test.YteaohgipndmciaaBase
namespace Go.Proofs.Yteaohgipndmciaa
set_option linter.unusedVariables false
set_option linter.unusedSimpArgs false

/-! ### sums over the first n numbers -/
def rsum : Nat → (Nat → Nat) → Nat
  | 0, _ => 0
  | n + 1, f => rsum n f + f n
theorem rsum_congr {n : Nat} {f g : Nat → Nat} (h : ∀ j, j < n → f j = g j) : rsum n f = rsum n g := by
  induction n with
  | zero => rfl
  | succ n ih => show rsum n f + f n = rsum n g + g n; rw [ih fun j hj => h j (by omega), h n (by omega)]
theorem rsum_add (n : Nat) (f g : Nat → Nat) : rsum n (fun j => f j + g j) = rsum n f + rsum n g := by
  induction n with
  | zero => rfl
  | succ n ih => show rsum n _ + (f n + g n) = rsum n f + f n + (rsum n g + g n); rw [ih]; omega
theorem rsum_mul (n c : Nat) (f : Nat → Nat) : rsum n (fun j => c * f j) = c * rsum n f := by
  induction n with
  | zero => rfl
  | succ n ih => show rsum n _ + c * f n = c * (rsum n f + f n); rw [ih, Nat.mul_add]
theorem rsum_le {n : Nat} {f g : Nat → Nat} (h : ∀ j, j < n → f j ≤ g j) : rsum n f ≤ rsum n g := by
  induction n with
  | zero => exact Nat.le_refl _
  | succ n ih => exact Nat.add_le_add (ih fun j hj => h j (by omega)) (h n (by omega))
theorem rsum_one (n : Nat) : rsum n (fun _ => 1) = n := by
  induction n with
  | zero => rfl
  | succ n ih => show rsum n _ + 1 = _; rw [ih]
theorem rsum_zero (n : Nat) : rsum n (fun _ => 0) = 0 := by
  induction n with
  | zero => rfl
  | succ n ih => show rsum n _ + 0 = _; rw [ih]
theorem rsum_split (a b : Nat) (f : Nat → Nat) : rsum (a + b) f = rsum a f + rsum b (fun j => f (a + j)) := by
  induction b with
  | zero => rfl
  | succ b ih => show rsum (a + b) f + f (a + b) = rsum a f + (rsum b _ + f (a + b)); rw [ih]; omega
theorem rsum_if (n a : Nat) (f : Nat → Nat) (h : a ≤ n) : rsum n (fun j => if j < a then f j else 0) = rsum a f := by
  obtain ⟨b, rfl⟩ : ∃ b, n = a + b := ⟨n - a, by omega⟩
  rw [rsum_split, rsum_congr (f := fun j => if j < a then f j else 0) (g := f) (n := a) fun j hj => by simp [hj]]
  rw [rsum_congr (n := b) (g := fun _ => 0) fun j _ => if_neg (by omega), rsum_zero, Nat.add_zero]
theorem rsum_map (n : Nat) (f : Nat → Nat) : ((List.range n).map f).sum = rsum n f := by
  induction n with
  | zero => rfl
  | succ n ih => rw [List.range_succ, List.map_append, List.sum_append, ih]; simp [rsum]
theorem take_rsum (l : List Nat) (a : Nat) (h : a ≤ l.length) : (l.take a).sum = rsum a (fun j => l.getD j 0) := by
  induction a with
  | zero => rfl
  | succ a ih =>
    have hl : a < l.length := by omega
    rw [List.take_succ_eq_append_getElem hl, List.sum_append, ih (by omega)]
    simp [rsum, List.getD_eq_getElem?_getD, hl]
theorem filter_rsum (n : Nat) (p : Nat → Bool) (f : Nat → Nat) : (((List.range n).filter p).map f).sum = rsum n (fun j => if p j = true then f j else 0) := by
  induction n with
  | zero => rfl
  | succ n ih =>
    rw [List.range_succ, List.filter_append, List.map_append, List.sum_append, ih]
    show _ = rsum n _ + _
    by_cases h : p n = true
    · simp [List.filter_cons, h]
    · simp [List.filter_cons, h]
theorem filter_count (n : Nat) (p : Nat → Bool) : ((List.range n).filter p).length = rsum n (fun j => if p j = true then 1 else 0) := by
  induction n with
  | zero => rfl
  | succ n ih =>
    rw [List.range_succ, List.filter_append, List.length_append, ih]
    show _ = rsum n _ + _
    by_cases h : p n = true
    · simp [List.filter_cons, h]
    · simp [List.filter_cons, h]

/-! ### rows -/
def Sorted (l : List Nat) : Prop := l.Pairwise (· ≤ ·)
abbrev Item := Nat × Int
def wts (r : List Item) : List Nat := r.map Prod.fst
def isLeaf (x : Item) : Bool := decide (0 ≤ x.2)
/-- The packages of a row: its items in pairs. -/
def packs : List Item → List Nat
  | a :: b :: r => (a.1 + b.1) :: packs r
  | _ => []
/-- Leaves and packages, a leaf ahead of a package of its weight. -/
def mergeM : List Item → List Nat → List Item
  | L, [] => L
  | [], p :: P => (p, -1) :: mergeM [] P
  | x :: L, p :: P => if x.1 ≤ p then x :: mergeM L (p :: P) else (p, -1) :: mergeM (x :: L) P
termination_by L P => L.length + P.length
def rowM (L : List Item) : Nat → List Item
  | 0 => L
  | k + 1 => mergeM L (packs (rowM L k))

theorem packs_len (r : List Item) : (packs r).length = r.length / 2 := by
  induction r using packs.induct with
  | case1 a b r ih => simp only [packs, List.length_cons, ih]; omega
  | case2 r h => cases r with
    | nil => simp [packs]
    | cons a r => cases r with
      | nil => simp [packs]
      | cons b r => exact absurd rfl (h a b r)
theorem packs_take (r : List Item) (p : Nat) (h : 2 * p ≤ r.length) : ((packs r).take p).sum = (wts (r.take (2 * p))).sum := by
  induction r using packs.induct generalizing p with
  | case1 a b r ih =>
    cases p with
    | zero => rfl
    | succ p =>
      simp only [List.length_cons] at h
      rw [show 2 * (p + 1) = 2 * p + 1 + 1 by omega]
      simp only [packs, List.take_succ_cons, List.sum_cons, wts, List.map_cons]
      rw [ih p (by omega)]
      simp only [wts]; omega
  | case2 r h2 => cases r with
    | nil => simp [packs, wts]
    | cons a r => cases r with
      | nil => simp at h; have : p = 0 := by omega
               subst this; rfl
      | cons b r => exact absurd rfl (h2 a b r)
theorem packs_sorted (r : List Item) (h : Sorted (wts r)) : Sorted (packs r) ∧ ∀ c, (∀ x ∈ wts r, c ≤ x) → ∀ p ∈ packs r, c ≤ p := by
  induction r using packs.induct with
  | case1 a b r ih =>
    simp only [wts, List.map_cons, Sorted, List.pairwise_cons] at h
    obtain ⟨h1, h2, h3⟩ := h
    obtain ⟨i1, i2⟩ := ih h3
    refine ⟨?_, ?_⟩
    · simp only [packs, Sorted, List.pairwise_cons]
      refine ⟨fun p hp => ?_, i1⟩
      have : ∀ (r : List Item) (c : Nat), (∀ x ∈ wts r, c ≤ x) → ∀ p ∈ packs r, c + c ≤ p := by
        intro r
        induction r using packs.induct with
        | case1 a b r ih =>
          intro c hc p hp
          simp only [packs, List.mem_cons] at hp
          simp only [wts, List.map_cons, List.mem_cons] at hc
          have e1 := hc a.1 (.inl rfl)
          have e2 := hc b.1 (.inr (.inl rfl))
          rcases hp with rfl | hp
          · omega
          · exact ih c (fun x hx => hc x (.inr (.inr hx))) p hp
        | case2 r h => intro c _ p hp; cases r with
          | nil => simp [packs] at hp
          | cons a r => cases r with
            | nil => simp [packs] at hp
            | cons b r => exact absurd rfl (h a b r)
      have e := this r b.1 h2 p hp
      have e1 := h1 b.1 (by simp)
      omega
    · intro c hc p hp
      simp only [packs, List.mem_cons] at hp
      rcases hp with rfl | hp
      · have := hc a.1 (by simp [wts]); omega
      · exact i2 c (fun x hx => hc x (by simp [wts] at hx ⊢; exact .inr (.inr hx))) p hp
  | case2 r h2 => cases r with
    | nil => exact ⟨by simp [packs, Sorted], by simp [packs]⟩
    | cons a r => cases r with
      | nil => exact ⟨by simp [packs, Sorted], by simp [packs]⟩
      | cons b r => exact absurd rfl (h2 a b r)

theorem mergeM_len (L : List Item) (P : List Nat) : (mergeM L P).length = L.length + P.length := by
  induction L, P using mergeM.induct with
  | case1 L => simp [mergeM]
  | case2 p P ih => rw [mergeM, List.length_cons, ih]; simp
  | case3 x L p P h ih => rw [mergeM, if_pos h, List.length_cons, ih]; simp; omega
  | case4 x L p P h ih => rw [mergeM, if_neg h, List.length_cons, ih]; simp; omega
theorem mergeM_mem (L : List Item) (P : List Nat) : ∀ y ∈ wts (mergeM L P), y ∈ wts L ∨ y ∈ P := by
  induction L, P using mergeM.induct with
  | case1 L => intro y hy; rw [mergeM] at hy; exact .inl hy
  | case2 p P ih => intro y hy; rw [mergeM] at hy; simp only [wts, List.map_cons, List.mem_cons] at hy ⊢; rcases hy with rfl | hy
                    · exact .inr (.inl rfl)
                    · rcases ih y hy with h | h
                      · exact .inl h
                      · exact .inr (.inr h)
  | case3 x L p P h ih => intro y hy; rw [mergeM, if_pos h] at hy; simp only [wts, List.map_cons, List.mem_cons] at hy ⊢; rcases hy with rfl | hy
                          · exact .inl (.inl rfl)
                          · rcases ih y hy with h | h
                            · exact .inl (.inr h)
                            · exact .inr (by simpa using h)
  | case4 x L p P h ih => intro y hy; rw [mergeM, if_neg h] at hy; simp only [wts, List.map_cons, List.mem_cons] at hy ⊢; rcases hy with rfl | hy
                          · exact .inr (.inl rfl)
                          · rcases ih y hy with h | h
                            · exact .inl (by simpa [wts] using h)
                            · exact .inr (.inr h)
theorem mergeM_sorted (L : List Item) (P : List Nat) (hL : Sorted (wts L)) (hP : Sorted P) : Sorted (wts (mergeM L P)) := by
  induction L, P using mergeM.induct with
  | case1 L => rw [mergeM]; exact hL
  | case2 p P ih =>
    rw [mergeM]
    simp only [Sorted, List.pairwise_cons] at hP
    simp only [wts, List.map_cons, Sorted, List.pairwise_cons]
    refine ⟨fun y hy => ?_, ih hL hP.2⟩
    rcases mergeM_mem [] P y hy with h | h
    · simp [wts] at h
    · exact hP.1 y h
  | case3 x L p P h ih =>
    rw [mergeM, if_pos h]
    have hL' := hL
    simp only [wts, List.map_cons, Sorted, List.pairwise_cons] at hL
    simp only [wts, List.map_cons, Sorted, List.pairwise_cons]
    refine ⟨fun y hy => ?_, ih hL.2 hP⟩
    rcases mergeM_mem L (p :: P) y hy with h1 | h1
    · exact hL.1 y h1
    · simp only [Sorted, List.pairwise_cons] at hP
      rcases List.mem_cons.1 h1 with rfl | h1
      · exact h
      · exact Nat.le_trans h (hP.1 y h1)
  | case4 x L p P h ih =>
    rw [mergeM, if_neg h]
    have hP' := hP
    simp only [Sorted, List.pairwise_cons] at hP
    simp only [wts, List.map_cons, Sorted, List.pairwise_cons]
    refine ⟨fun y hy => ?_, ih hL hP.2⟩
    rcases mergeM_mem (x :: L) P y hy with h1 | h1
    · simp only [wts, List.map_cons, Sorted, List.pairwise_cons] at hL h1
      rcases List.mem_cons.1 h1 with rfl | h1
      · omega
      · have := hL.1 y h1; omega
    · exact hP.1 y h1
theorem rowM_sorted (L : List Item) (hL : Sorted (wts L)) (k : Nat) : Sorted (wts (rowM L k)) := by
  induction k with
  | zero => exact hL
  | succ k ih => exact mergeM_sorted _ _ hL (packs_sorted _ ih).1
theorem rowM_len (L : List Item) (k : Nat) : (rowM L (k + 1)).length = L.length + (rowM L k).length / 2 := by
  show (mergeM L (packs (rowM L k))).length = _
  rw [mergeM_len, packs_len]

/-- How many of the first m items are leaves. -/
def cntL (r : List Item) (m : Nat) : Nat := (r.take m).countP isLeaf
theorem cntL_cons (x : Item) (r : List Item) (m : Nat) : cntL (x :: r) (m + 1) = cntL r m + if isLeaf x = true then 1 else 0 := by
  unfold cntL; rw [List.take_succ_cons, List.countP_cons]
theorem cntL_le (r : List Item) (m : Nat) : cntL r m ≤ m := by
  unfold cntL
  exact Nat.le_trans List.countP_le_length (by rw [List.length_take]; omega)
theorem cntL_all (L : List Item) (hL : ∀ x ∈ L, isLeaf x = true) (m : Nat) (h : m ≤ L.length) : cntL L m = m := by
  unfold cntL
  rw [List.countP_eq_length.2 fun x hx => hL x (List.mem_of_mem_take hx), List.length_take]; omega
theorem pack_leaf (p : Nat) : isLeaf (p, -1) = false := rfl
theorem cntL_leaf {x : Item} (h : isLeaf x = true) (r : List Item) (m : Nat) : cntL (x :: r) (m + 1) = cntL r m + 1 := by rw [cntL_cons, if_pos h]
theorem cntL_pack (p : Nat) (r : List Item) (m : Nat) : cntL ((p, -1) :: r) (m + 1) = cntL r m := by rw [cntL_cons, if_neg (by simp [pack_leaf])]; rfl
theorem filter_pack (p : Nat) (r : List Item) : ((p, (-1 : Int)) :: r).filter isLeaf = r.filter isLeaf := List.filter_cons_of_neg (by simp [pack_leaf])
/-- The first m items of a merged row: the first leaves, and the first packages. -/
theorem mergeM_take (L : List Item) (P : List Nat) (hL : ∀ x ∈ L, isLeaf x = true) (m : Nat) (hm : m ≤ (mergeM L P).length) :
    cntL (mergeM L P) m ≤ L.length ∧ m - cntL (mergeM L P) m ≤ P.length ∧ ((mergeM L P).take m).filter isLeaf = L.take (cntL (mergeM L P) m) ∧
    (wts ((mergeM L P).take m)).sum = (wts (L.take (cntL (mergeM L P) m))).sum + (P.take (m - cntL (mergeM L P) m)).sum := by
  induction L, P using mergeM.induct generalizing m with
  | case1 L =>
    simp only [mergeM] at hm ⊢
    rw [cntL_all L hL m hm]
    refine ⟨hm, by omega, List.filter_eq_self.2 fun x hx => hL x (List.mem_of_mem_take hx), by simp⟩
  | case2 p P ih =>
    cases m with
    | zero => simp [cntL, wts]
    | succ m =>
      rw [mergeM] at hm ⊢
      obtain ⟨i1, i2, i3, i4⟩ := ih hL m (by simpa using hm)
      have hle := cntL_le (mergeM [] P) m
      rw [cntL_pack, List.take_succ_cons, filter_pack, show m + 1 - cntL (mergeM [] P) m = m - cntL (mergeM [] P) m + 1 by omega]
      simp only [wts, List.map_cons, List.take_succ_cons, List.sum_cons, List.length_cons] at i4 ⊢
      exact ⟨i1, by omega, i3, by omega⟩
  | case3 x L p P h ih =>
    cases m with
    | zero => simp [cntL, wts]
    | succ m =>
      rw [mergeM, if_pos h] at hm ⊢
      obtain ⟨i1, i2, i3, i4⟩ := ih (fun y hy => hL y (by simp [hy])) m (by simpa using hm)
      have hx := hL x (by simp)
      rw [cntL_leaf hx, List.take_succ_cons, List.filter_cons_of_pos hx, i3, show m + 1 - (cntL (mergeM L (p :: P)) m + 1) = m - cntL (mergeM L (p :: P)) m by omega]
      simp only [wts, List.map_cons, List.take_succ_cons, List.sum_cons, List.length_cons] at i2 i4 ⊢
      exact ⟨by omega, by omega, trivial, by omega⟩
  | case4 x L p P h ih =>
    cases m with
    | zero => simp [cntL, wts]
    | succ m =>
      rw [mergeM, if_neg h] at hm ⊢
      obtain ⟨i1, i2, i3, i4⟩ := ih hL m (by simpa using hm)
      have hle := cntL_le (mergeM (x :: L) P) m
      rw [cntL_pack, List.take_succ_cons, filter_pack, i3, show m + 1 - cntL (mergeM (x :: L) P) m = m - cntL (mergeM (x :: L) P) m + 1 by omega]
      simp only [wts, List.map_cons, List.take_succ_cons, List.sum_cons, List.length_cons] at i4 ⊢
      exact ⟨i1, by omega, trivial, by omega⟩
/-- A leaf that is not taken is heavier than the last package that is. -/
theorem mergeM_rest (L : List Item) (P : List Nat) (hL : ∀ x ∈ L, isLeaf x = true) (hs : Sorted (wts L)) (m : Nat) (hm : m ≤ (mergeM L P).length) (hp : 0 < m - cntL (mergeM L P) m) :
    ∀ y ∈ wts (L.drop (cntL (mergeM L P) m)), P.getD (m - cntL (mergeM L P) m - 1) 0 < y := by
  induction L, P using mergeM.induct generalizing m with
  | case1 L =>
    simp only [mergeM] at hm hp
    rw [cntL_all L hL m hm] at hp; omega
  | case2 p P ih => intro y hy; simp [wts] at hy
  | case3 x L p P h ih =>
    cases m with
    | zero => simp at hp
    | succ m =>
      rw [mergeM, if_pos h] at hm hp ⊢
      have hx := hL x (by simp)
      rw [cntL_leaf hx] at hp ⊢
      rw [show m + 1 - (cntL (mergeM L (p :: P)) m + 1) = m - cntL (mergeM L (p :: P)) m by omega] at hp ⊢
      simp only [wts, List.map_cons, Sorted, List.pairwise_cons] at hs
      exact ih (fun y hy => hL y (by simp [hy])) hs.2 m (by simpa using hm) hp
  | case4 x L p P h ih =>
    cases m with
    | zero => simp at hp
    | succ m =>
      rw [mergeM, if_neg h] at hm hp ⊢
      have hle := cntL_le (mergeM (x :: L) P) m
      rw [cntL_pack] at hp ⊢
      by_cases h0 : 0 < m - cntL (mergeM (x :: L) P) m
      · have := ih hL hs m (by simpa using hm) h0
        rw [show m + 1 - cntL (mergeM (x :: L) P) m - 1 = (m - cntL (mergeM (x :: L) P) m - 1) + 1 by omega]
        simpa using this
      · rw [show m + 1 - cntL (mergeM (x :: L) P) m - 1 = 0 by omega]
        intro y hy
        have hy2 : y ∈ wts (x :: L) := by
          simp only [wts, List.mem_map] at hy ⊢
          obtain ⟨z, hz, rfl⟩ := hy
          exact ⟨z, List.mem_of_mem_drop hz, rfl⟩
        simp only [wts, List.map_cons, Sorted, List.pairwise_cons, List.mem_cons] at hs hy2
        show p < y
        rcases hy2 with rfl | hy2
        · omega
        · have := hs.1 y hy2; omega

/-! ### the least sum -/
theorem sublist_min (S : List Nat) (hs : Sorted S) : ∀ T : List Nat, T.Sublist S → (S.take T.length).sum ≤ T.sum := by
  induction S with
  | nil => intro T h; rw [List.sublist_nil.1 h]; exact Nat.le_refl _
  | cons x S ih =>
    simp only [Sorted, List.pairwise_cons] at hs
    intro T h
    rcases List.sublist_cons_iff.1 h with h | ⟨T', rfl, h2⟩
    · cases T with
      | nil => simp
      | cons t T' =>
        have i := ih hs.2 T' ((List.sublist_cons_self t T').trans h)
        have := hs.1 t (h.subset (by simp))
        simp only [List.length_cons, List.take_succ_cons, List.sum_cons]
        omega
    · have i := ih hs.2 T' h2
      simp only [List.length_cons, List.take_succ_cons, List.sum_cons]
      omega
theorem take_last (x : Nat) (P : List Nat) (h : Sorted P) (hx : ∀ y ∈ P, x ≤ y) (q : Nat) (hq : q < P.length) : x + (P.take q).sum ≤ (P.take (q + 1)).sum := by
  rw [List.take_succ_eq_append_getElem hq, List.sum_append]
  have := hx P[q] (List.getElem_mem hq)
  simp; omega
theorem merge_min (L : List Item) (P : List Nat) (hL : Sorted (wts L)) (hP : Sorted P) : ∀ T : List Nat, T.Sublist (wts L) → ∀ p, p ≤ P.length → ((wts (mergeM L P)).take (T.length + p)).sum ≤ T.sum + (P.take p).sum := by
  induction L, P using mergeM.induct with
  | case1 L =>
    intro T h p hp
    have : p = 0 := by simpa using hp
    subst this
    rw [mergeM]
    simpa using sublist_min _ hL T h
  | case2 p0 P ih =>
    intro T h p hp
    have hT : T = [] := List.sublist_nil.1 (by simpa [wts] using h)
    subst hT
    simp only [Sorted, List.pairwise_cons] at hP
    cases p with
    | zero => simp
    | succ p =>
      have := ih hL hP.2 [] (List.nil_sublist _) p (by simpa using hp)
      rw [mergeM]
      simp only [List.length_nil, Nat.zero_add, wts, List.map_cons, List.take_succ_cons, List.sum_cons, List.sum_nil] at this ⊢
      omega
  | case3 x L p0 P hx ih =>
    intro T h p hp
    have hL0 := hL
    simp only [wts, List.map_cons, Sorted, List.pairwise_cons] at hL
    have IH := ih hL.2 hP
    rw [mergeM, if_pos hx]
    simp only [wts, List.map_cons] at h
    have hxP : ∀ y ∈ p0 :: P, x.1 ≤ y := by
      simp only [Sorted, List.pairwise_cons] at hP
      intro y hy
      rcases List.mem_cons.1 hy with rfl | hy
      · exact hx
      · exact Nat.le_trans hx (hP.1 y hy)
    rcases List.sublist_cons_iff.1 h with h | ⟨T', rfl, h2⟩
    · cases T with
      | nil =>
        cases p with
        | zero => simp
        | succ q =>
          have i := IH [] (List.nil_sublist _) q (by omega)
          have t := take_last x.1 (p0 :: P) hP hxP q (by omega)
          simp only [List.length_nil, Nat.zero_add, wts, List.map_cons, List.take_succ_cons, List.sum_cons, List.sum_nil] at i t ⊢
          omega
      | cons t T' =>
        have i := IH T' ((List.sublist_cons_self t T').trans h) p hp
        have := hL.1 t (h.subset (by simp))
        rw [show (t :: T').length + p = T'.length + p + 1 by simp; omega]
        simp only [wts, List.map_cons, List.take_succ_cons, List.sum_cons] at i ⊢
        omega
    · have i := IH T' h2 p hp
      rw [show (x.1 :: T').length + p = T'.length + p + 1 by simp; omega]
      simp only [wts, List.map_cons, List.take_succ_cons, List.sum_cons] at i ⊢
      omega
  | case4 x L p0 P hx ih =>
    intro T h p hp
    have hL0 := hL
    simp only [wts, List.map_cons, Sorted, List.pairwise_cons] at hL
    have hP0 := hP
    simp only [Sorted, List.pairwise_cons] at hP
    have IH := ih hL0 hP.2
    rw [mergeM, if_neg hx]
    cases p with
    | zero =>
      cases T with
      | nil => simp
      | cons t T' =>
        have i := IH T' ((List.sublist_cons_self t T').trans h) 0 (Nat.zero_le _)
        have ht : x.1 ≤ t := by
          have := h.subset (show t ∈ t :: T' by simp)
          simp only [wts, List.map_cons, List.mem_cons] at this
          rcases this with rfl | this
          · exact Nat.le_refl _
          · exact hL.1 t this
        simp only [List.length_cons, Nat.add_zero, wts, List.map_cons, List.take_succ_cons, List.sum_cons, List.take_zero, List.sum_nil] at i ⊢
        omega
    | succ q =>
      have i := IH T h q (by simpa using hp)
      rw [← Nat.add_assoc]
      simp only [wts, List.map_cons, List.take_succ_cons, List.sum_cons] at i ⊢
      omega
theorem wts_take (r : List Item) (m : Nat) : wts (r.take m) = (wts r).take m := by simp [wts, List.map_take]
theorem sum_take_mono (l : List Nat) {a b : Nat} (h : a ≤ b) : (l.take a).sum ≤ (l.take b).sum := by
  obtain ⟨c, rfl⟩ : ∃ c, b = a + c := ⟨b - a, by omega⟩
  rw [List.take_add, List.sum_append]; omega

/-! ### what the descent takes -/
theorem rowM_filter (L : List Item) (hL : ∀ x ∈ L, isLeaf x = true) (k m : Nat) (hm : m ≤ (rowM L k).length) : cntL (rowM L k) m ≤ L.length ∧ ((rowM L k).take m).filter isLeaf = L.take (cntL (rowM L k) m) := by
  cases k with
  | zero =>
    show cntL L m ≤ _ ∧ (L.take m).filter isLeaf = L.take (cntL L m)
    rw [cntL_all L hL m hm]
    exact ⟨hm, List.filter_eq_self.2 fun x hx => hL x (List.mem_of_mem_take hx)⟩
  | succ k => have := mergeM_take L (packs (rowM L k)) hL m hm; exact ⟨this.1, this.2.2.1⟩
theorem packs_top (r : List Item) (hs : Sorted (wts r)) (p : Nat) (hp : 0 < p) (h : 2 * p ≤ r.length) : ∀ y ∈ wts (r.take (2 * p)), y ≤ (packs r).getD (p - 1) 0 := by
  induction r using packs.induct generalizing p with
  | case1 a b r ih =>
    simp only [wts, List.map_cons, Sorted, List.pairwise_cons] at hs
    simp only [List.length_cons] at h
    intro y hy
    obtain ⟨q, rfl⟩ : ∃ q, p = q + 1 := ⟨p - 1, by omega⟩
    rw [show 2 * (q + 1) = 2 * q + 1 + 1 by omega] at hy
    simp only [wts, List.take_succ_cons, List.map_cons, List.mem_cons] at hy
    cases q with
    | zero =>
      simp only [Nat.mul_zero, List.take_zero, List.map_nil, List.not_mem_nil, or_false] at hy
      show y ≤ a.1 + b.1
      omega
    | succ q =>
      have hq : q < (packs r).length := by rw [packs_len]; omega
      have hmem : (packs r).getD q 0 ∈ packs r := by
        rw [List.getD_eq_getElem?_getD, List.getElem?_eq_getElem hq]; exact List.getElem_mem hq
      have hb := (packs_sorted r hs.2.2).2 b.1 hs.2.1 _ hmem
      have hab := hs.1 b.1 (by simp)
      have i := ih hs.2.2 (q + 1) (by omega) (by omega)
      show y ≤ (packs r).getD q 0
      rcases hy with rfl | rfl | hy
      · omega
      · exact hb
      · exact i y hy
  | case2 r h2 => cases r with
    | nil => simp at h; omega
    | cons a r => cases r with
      | nil => simp at h; omega
      | cons b r => exact absurd rfl (h2 a b r)
theorem pm_room (L : List Item) (hL : ∀ x ∈ L, isLeaf x = true) (k m : Nat) (hm : m ≤ (rowM L (k + 1)).length) : 2 * (m - cntL (rowM L (k + 1)) m) ≤ (rowM L k).length := by
  have := (mergeM_take L (packs (rowM L k)) hL m hm).2.1
  rw [packs_len] at this
  show 2 * (m - cntL (mergeM L (packs (rowM L k))) m) ≤ _
  omega
theorem pm_nest (L : List Item) (hL : ∀ x ∈ L, isLeaf x = true) (hs : Sorted (wts L)) (k m : Nat) (hm : m ≤ (rowM L (k + 1)).length) :
    cntL (rowM L k) (2 * (m - cntL (rowM L (k + 1)) m)) ≤ cntL (rowM L (k + 1)) m := by
  have hroom := pm_room L hL k m hm
  obtain ⟨a, ha⟩ : ∃ a, a = cntL (rowM L (k + 1)) m := ⟨_, rfl⟩
  rw [← ha] at hroom ⊢
  by_cases hp : 0 < m - a
  · have hrest := mergeM_rest L (packs (rowM L k)) hL hs m hm (by show 0 < m - cntL (rowM L (k + 1)) m; rw [← ha]; exact hp)
    have hrest' : ∀ y ∈ wts (L.drop a), (packs (rowM L k)).getD (m - a - 1) 0 < y := by rw [ha]; exact hrest
    have htop := packs_top (rowM L k) (rowM_sorted L hs k) (m - a) hp hroom
    have hf := rowM_filter L hL k (2 * (m - a)) hroom
    rcases Nat.lt_or_ge a (cntL (rowM L k) (2 * (m - a))) with hlt | hge
    · exfalso
      have haL : a < L.length := by omega
      have hin : L[a] ∈ L.take (cntL (rowM L k) (2 * (m - a))) := List.mem_take_iff_getElem.2 ⟨a, by omega, rfl⟩
      rw [← hf.2, List.mem_filter] at hin
      have h1 := htop L[a].1 (List.mem_map_of_mem hin.1)
      have h2 := hrest' L[a].1 (List.mem_map_of_mem (List.mem_drop_iff_getElem.2 ⟨0, by omega, by simp⟩))
      omega
    · exact hge
  · have : m - a = 0 := by omega
    rw [this]; simp [cntL]

/-- How many of the rows k .. 0 take the leaf at place j, where m items of row k are taken. -/
def lenJ (L : List Item) : Nat → Nat → Nat → Nat
  | 0, m, j => if j < cntL (rowM L 0) m then 1 else 0
  | k + 1, m, j => (if j < cntL (rowM L (k + 1)) m then 1 else 0) + lenJ L k (2 * (m - cntL (rowM L (k + 1)) m)) j
theorem lenJ_le (L : List Item) (k m j : Nat) : lenJ L k m j ≤ k + 1 := by
  induction k generalizing m with
  | zero => unfold lenJ; split <;> omega
  | succ k ih => unfold lenJ; have := ih (2 * (m - cntL (rowM L (k + 1)) m)); split <;> omega
theorem lenJ_zero (L : List Item) (hL : ∀ x ∈ L, isLeaf x = true) (hs : Sorted (wts L)) (k m j : Nat) (hm : m ≤ (rowM L k).length) (hj : cntL (rowM L k) m ≤ j) : lenJ L k m j = 0 := by
  induction k generalizing m with
  | zero => unfold lenJ; rw [if_neg (by omega)]
  | succ k ih =>
    unfold lenJ
    rw [if_neg (by omega), ih _ (pm_room L hL k m hm) (Nat.le_trans (pm_nest L hL hs k m hm) hj)]
theorem lenJ_pos (L : List Item) (k m j : Nat) (hj : j < cntL (rowM L k) m) : 1 ≤ lenJ L k m j := by
  cases k with
  | zero => unfold lenJ; rw [if_pos hj]; omega
  | succ k => unfold lenJ; rw [if_pos hj]; omega
/-- A leaf further ahead is taken by no fewer rows. -/
theorem lenJ_mono (L : List Item) (k m i j : Nat) (h : i ≤ j) : lenJ L k m j ≤ lenJ L k m i := by
  induction k generalizing m with
  | zero => unfold lenJ; split <;> split <;> omega
  | succ k ih => unfold lenJ; have := ih (2 * (m - cntL (rowM L (k + 1)) m)); split <;> split <;> omega
theorem pm_cost (L : List Item) (hL : ∀ x ∈ L, isLeaf x = true) (k m : Nat) (hm : m ≤ (rowM L k).length) :
    rsum L.length (fun j => (wts L).getD j 0 * lenJ L k m j) = (wts ((rowM L k).take m)).sum := by
  have hw : (wts L).length = L.length := by simp [wts]
  have base : ∀ a, a ≤ L.length → rsum L.length (fun j => (wts L).getD j 0 * if j < a then 1 else 0) = (wts (L.take a)).sum := by
    intro a ha
    rw [wts_take, take_rsum _ _ (by omega), ← rsum_if L.length a _ ha]
    exact rsum_congr fun j _ => by split <;> simp
  induction k generalizing m with
  | zero =>
    have hc : cntL (rowM L 0) m = m := cntL_all L hL m hm
    rw [rsum_congr (g := fun j => (wts L).getD j 0 * if j < m then 1 else 0) fun j _ => by unfold lenJ; rw [hc]]
    exact base m hm
  | succ k ih =>
    have ht := mergeM_take L (packs (rowM L k)) hL m hm
    have hroom := pm_room L hL k m hm
    have i := ih _ hroom
    obtain ⟨a, ha⟩ : ∃ a, a = cntL (rowM L (k + 1)) m := ⟨_, rfl⟩
    have e1 : (wts ((rowM L (k + 1)).take m)).sum = (wts (L.take a)).sum + ((packs (rowM L k)).take (m - a)).sum := by rw [ha]; exact ht.2.2.2
    rw [← ha] at hroom i
    rw [e1, packs_take _ _ hroom, ← i, ← base a (by rw [ha]; exact ht.1), ← rsum_add]
    exact rsum_congr fun j _ => by
      show _ * lenJ L (k + 1) m j = _
      rw [lenJ, ← ha, Nat.mul_add]
theorem pm_kraft (L : List Item) (hL : ∀ x ∈ L, isLeaf x = true) (hs : Sorted (wts L)) (k m : Nat) (hm : m ≤ (rowM L k).length) :
    rsum (cntL (rowM L k) m) (fun j => 2 ^ (k + 1 - lenJ L k m j)) + m * 2 ^ k = 2 * cntL (rowM L k) m * 2 ^ k := by
  induction k generalizing m with
  | zero =>
    have hc : cntL (rowM L 0) m = m := cntL_all L hL m hm
    rw [hc, rsum_congr (g := fun _ => 1) fun j hj => by rw [lenJ, hc, if_pos hj], rsum_one]
    omega
  | succ k ih =>
    have hroom := pm_room L hL k m hm
    have hn := pm_nest L hL hs k m hm
    have i := ih _ hroom
    have hle := cntL_le (rowM L (k + 1)) m
    obtain ⟨a, ha⟩ : ∃ a, a = cntL (rowM L (k + 1)) m := ⟨_, rfl⟩
    obtain ⟨c, hc⟩ : ∃ c, c = cntL (rowM L k) (2 * (m - a)) := ⟨_, rfl⟩
    rw [← ha] at hroom hn i hle ⊢
    rw [← hc] at hn i
    obtain ⟨d, rfl⟩ : ∃ d, a = c + d := ⟨a - c, by omega⟩
    rw [rsum_split]
    have e1 : rsum c (fun j => 2 ^ (k + 1 + 1 - lenJ L (k + 1) m j)) = rsum c (fun j => 2 ^ (k + 1 - lenJ L k (2 * (m - (c + d))) j)) :=
      rsum_congr fun j hj => by
        rw [lenJ, ← ha, if_pos (by omega)]
        congr 1; omega
    have e2 : rsum d (fun j => 2 ^ (k + 1 + 1 - lenJ L (k + 1) m (c + j))) = rsum d (fun _ => 2 ^ (k + 1) * 1) :=
      rsum_congr fun j hj => by
        rw [lenJ, ← ha, if_pos (by omega), lenJ_zero L hL hs k _ (c + j) hroom (by omega)]
        simp
    rw [e1, e2, rsum_mul, rsum_one]
    obtain ⟨p, hp⟩ : ∃ p, m = c + d + p := ⟨m - (c + d), by omega⟩
    rw [show m - (c + d) = p by omega] at i ⊢
    rw [hp, Nat.pow_succ]
    generalize 2 ^ k = q at i ⊢
    generalize rsum c (fun j => 2 ^ (k + 1 - lenJ L k (2 * p) j)) = R at i ⊢
    have h1 : (c + d + p) * (q * 2) = c * q * 2 + d * q * 2 + p * q * 2 := by rw [← Nat.mul_assoc, Nat.add_mul, Nat.add_mul, Nat.add_mul, Nat.add_mul]
    have h2 : 2 * (c + d) * (q * 2) = c * q * 4 + d * q * 4 := by
      rw [show 2 * (c + d) * (q * 2) = (c + d) * q * 4 by rw [Nat.mul_comm 2, Nat.mul_assoc, ← Nat.mul_assoc 2 q 2, Nat.mul_comm 2 q, Nat.mul_assoc q 2 2, ← Nat.mul_assoc], Nat.add_mul, Nat.add_mul]
    have h3 : 2 * p * q = p * q * 2 := by rw [Nat.mul_assoc, Nat.mul_comm]
    have h4 : 2 * c * q = c * q * 2 := by rw [Nat.mul_assoc, Nat.mul_comm]
    have h5 : q * 2 * d = d * q * 2 := by rw [Nat.mul_comm, ← Nat.mul_assoc]
    rw [h3, h4] at i
    rw [h1, h2, h5]
    omega
theorem row_most (L : List Item) (k : Nat) : (rowM L k).length ≤ 2 * L.length := by
  induction k with
  | zero => show L.length ≤ _; omega
  | succ k ih => rw [rowM_len]; omega
theorem row_big (L : List Item) (k : Nat) (h : L.length ≤ 2 ^ (k + 1)) : 2 * L.length - 2 ≤ (rowM L k).length := by
  have key : ∀ k, 2 ^ k * (2 * L.length - (rowM L k).length) < L.length + 2 ^ k := by
    intro k
    induction k with
    | zero => show 1 * (2 * L.length - L.length) < _; simp; omega
    | succ k ih =>
      have hm := row_most L k
      have hl := rowM_len L k
      obtain ⟨c, hc⟩ : ∃ c, c = 2 * L.length - (rowM L k).length := ⟨_, rfl⟩
      rw [← hc] at ih
      have e : 2 * L.length - (rowM L (k + 1)).length ≤ (c + 1) / 2 := by omega
      have h1 : 2 ^ (k + 1) * (2 * L.length - (rowM L (k + 1)).length) ≤ 2 ^ (k + 1) * ((c + 1) / 2) := Nat.mul_le_mul_left _ e
      have h2 : 2 ^ (k + 1) * ((c + 1) / 2) ≤ 2 ^ k * (c + 1) := by
        rw [Nat.pow_succ, Nat.mul_assoc]; exact Nat.mul_le_mul_left _ (by omega)
      rw [Nat.mul_add] at h2
      rw [Nat.pow_succ] at h1 h2 ⊢
      omega
  have h0 := key k
  rw [Nat.pow_succ] at h
  rcases Nat.lt_or_ge (2 * L.length - (rowM L k).length) 3 with h3 | h3
  · omega
  · have := Nat.mul_le_mul_left (2 ^ k) h3
    omega
theorem pm_top (L : List Item) (hL : ∀ x ∈ L, isLeaf x = true) (hs : Sorted (wts L)) (h2 : 2 ≤ L.length) (k m : Nat) (hm : m ≤ (rowM L k).length) (h : 2 * L.length - 2 ≤ m) : cntL (rowM L k) m = L.length := by
  have hle := (rowM_filter L hL k m hm).1
  induction k generalizing m with
  | zero =>
    have hc : cntL (rowM L 0) m = m := cntL_all L hL m hm
    have : m ≤ L.length := hm
    rw [hc] at hle ⊢; omega
  | succ k ih =>
    rcases Nat.lt_or_ge (cntL (rowM L (k + 1)) m) L.length with hlt | hge
    · exfalso
      have hroom := pm_room L hL k m hm
      have := ih _ hroom (by omega) (rowM_filter L hL k _ hroom).1
      have hn := pm_nest L hL hs k m hm
      omega
    · omega
/-- The lengths use all codes: their Kraft sum is whole. -/
theorem pm_whole (L : List Item) (hL : ∀ x ∈ L, isLeaf x = true) (hs : Sorted (wts L)) (h2 : 2 ≤ L.length) (k : Nat) (hk : L.length ≤ 2 ^ (k + 1)) :
    rsum L.length (fun j => 2 ^ (k + 1 - lenJ L k (2 * L.length - 2) j)) = 2 ^ (k + 1) := by
  have hm := row_big L k hk
  have ht := pm_top L hL hs h2 k _ hm (Nat.le_refl _)
  have := pm_kraft L hL hs k _ hm
  rw [ht] at this
  rw [Nat.pow_succ]
  have e : 2 * L.length * 2 ^ k = (2 * L.length - 2) * 2 ^ k + 2 * 2 ^ k := by rw [← Nat.add_mul]; congr 1; omega
  omega

/-! ### none need less -/
theorem pm_best (L : List Item) (hL : ∀ x ∈ L, isLeaf x = true) (hs : Sorted (wts L)) (k : Nat) (l : Nat → Nat) (h1 : ∀ j, j < L.length → 1 ≤ l j ∧ l j ≤ k + 1)
    (hK : rsum L.length (fun j => 2 ^ (k + 1 - l j)) ≤ 2 ^ (k + 1)) :
    (wts ((rowM L k).take (2 * L.length - 2))).sum ≤ rsum L.length (fun j => (wts L).getD j 0 * l j) := by
  have hw : (wts L).length = L.length := by simp [wts]
  have hwr : wts L = (List.range L.length).map fun j => (wts L).getD j 0 := by
    apply List.ext_getElem (by simp [hw])
    intro j g1 g2
    simp [List.getD_eq_getElem?_getD, g1]
  -- the leaves that code lengths l take in row i
  let T : Nat → List Nat := fun i => ((List.range L.length).filter fun j => decide (k + 1 ≤ l j + i)).map fun j => (wts L).getD j 0
  have hsub : ∀ i, (T i).Sublist (wts L) := by
    intro i
    rw [hwr]
    exact List.Sublist.map _ List.filter_sublist
  have hTs : ∀ i, (T i).sum = rsum L.length (fun j => if k + 1 ≤ l j + i then (wts L).getD j 0 else 0) := fun i => by
    show (List.map _ _).sum = _
    rw [filter_rsum]; exact rsum_congr fun j _ => by simp
  have hTl : ∀ i, (T i).length = rsum L.length (fun j => if k + 1 ≤ l j + i then 1 else 0) := fun i => by
    show (List.map _ _).length = _
    rw [List.length_map, filter_count]; exact rsum_congr fun j _ => by simp
  have hTn : ∀ i, (T i).length ≤ L.length := fun i => by have := (hsub i).length_le; omega
  -- by rows
  have key : ∀ i, i ≤ k → ∃ M, M ≤ (rowM L i).length ∧ (wts ((rowM L i).take M)).sum ≤ rsum (i + 1) (fun q => (T q).sum) ∧
      2 * (T i).length * 2 ^ i < M * 2 ^ i + rsum L.length (fun j => if k + 1 ≤ l j + i then 2 ^ (k + 1 - l j) else 0) + 2 ^ i := by
    intro i hi
    induction i with
    | zero =>
      refine ⟨(T 0).length, hTn 0, ?_, ?_⟩
      · have := sublist_min (wts L) hs (T 0) (hsub 0)
        show (wts (L.take _)).sum ≤ 0 + (T 0).sum
        rw [wts_take]; omega
      · have e : rsum L.length (fun j => if k + 1 ≤ l j + 0 then 2 ^ (k + 1 - l j) else 0) = (T 0).length := by
          rw [hTl]
          exact rsum_congr fun j hj => by
            have := h1 j hj
            split
            · rw [show k + 1 - l j = 0 by omega]
            · rfl
        rw [e]; simp; omega
    | succ i ih =>
      obtain ⟨M, hM1, hM2, hM3⟩ := ih (by omega)
      refine ⟨(T (i + 1)).length + M / 2, ?_, ?_, ?_⟩
      · rw [rowM_len]; have := hTn (i + 1); omega
      · have hmm := merge_min L (packs (rowM L i)) hs (packs_sorted _ (rowM_sorted L hs i)).1 (T (i + 1)) (hsub _) (M / 2) (by rw [packs_len]; omega)
        rw [packs_take _ _ (by omega)] at hmm
        have hmono := sum_take_mono (wts (rowM L i)) (show 2 * (M / 2) ≤ M by omega)
        rw [wts_take] at hM2 hmm
        show (wts ((mergeM L (packs (rowM L i))).take _)).sum ≤ rsum (i + 1) _ + (T (i + 1)).sum
        rw [wts_take]
        omega
      · have e : rsum L.length (fun j => if k + 1 ≤ l j + (i + 1) then 2 ^ (k + 1 - l j) else 0) + (T i).length * 2 ^ (i + 1) = rsum L.length (fun j => if k + 1 ≤ l j + i then 2 ^ (k + 1 - l j) else 0) + (T (i + 1)).length * 2 ^ (i + 1) := by
          rw [hTl, hTl, Nat.mul_comm _ (2 ^ (i + 1)), Nat.mul_comm _ (2 ^ (i + 1)), ← rsum_mul, ← rsum_mul, ← rsum_add, ← rsum_add]
          refine rsum_congr fun j hj => ?_
          have := h1 j hj
          by_cases c1 : k + 1 ≤ l j + i
          · rw [if_pos c1, if_pos c1, if_pos (show k + 1 ≤ l j + (i + 1) by omega), if_pos (show k + 1 ≤ l j + (i + 1) by omega)]
          · rw [if_neg c1, if_neg c1]
            by_cases c2 : k + 1 ≤ l j + (i + 1)
            · rw [if_pos c2, if_pos c2, show k + 1 - l j = i + 1 by omega]; omega
            · rw [if_neg c2, if_neg c2]
        have hd : M ≤ 2 * (M / 2) + 1 := by omega
        have hd2 := Nat.mul_le_mul_right (2 ^ i) hd
        generalize rsum L.length (fun j => if k + 1 ≤ l j + (i + 1) then 2 ^ (k + 1 - l j) else 0) = A at e ⊢
        generalize rsum L.length (fun j => if k + 1 ≤ l j + i then 2 ^ (k + 1 - l j) else 0) = B at e hM3
        generalize (T i).length = x at e hM3
        generalize (T (i + 1)).length = y at e ⊢
        generalize M / 2 = h at hd hd2 ⊢
        rw [Nat.pow_succ] at e ⊢
        generalize 2 ^ i = q at e hM3 hd2 ⊢
        have g1 : 2 * x * q = x * (q * 2) := by rw [Nat.mul_comm 2 x, Nat.mul_assoc, Nat.mul_comm 2 q]
        have g2 : (2 * h + 1) * q = h * (q * 2) + q := by rw [Nat.add_mul, Nat.mul_comm 2 h, Nat.mul_assoc, Nat.mul_comm 2 q, Nat.one_mul]
        have g3 : 2 * y * (q * 2) = y * (q * 2) + y * (q * 2) := by rw [Nat.mul_assoc, Nat.two_mul]
        have g4 : (y + h) * (q * 2) = y * (q * 2) + h * (q * 2) := Nat.add_mul _ _ _
        rw [g1] at hM3
        rw [g2] at hd2
        rw [g3, g4]
        omega
  obtain ⟨M, hM1, hM2, hM3⟩ := key k (Nat.le_refl _)
  have eall : rsum L.length (fun j => if k + 1 ≤ l j + k then 2 ^ (k + 1 - l j) else 0) = rsum L.length (fun j => 2 ^ (k + 1 - l j)) :=
    rsum_congr fun j hj => by rw [if_pos (by have := h1 j hj; omega)]
  have elen : (T k).length = L.length := by
    rw [hTl, rsum_congr (g := fun _ => 1) fun j hj => by rw [if_pos (by have := h1 j hj; omega)], rsum_one]
  rw [eall, elen] at hM3
  rw [Nat.pow_succ] at hK
  have hMbig : 2 * L.length - 2 ≤ M := by
    rcases Nat.lt_or_ge M (2 * L.length - 2) with hlt | hge
    · exfalso
      have := Nat.mul_le_mul_right (2 ^ k) (show M + 3 ≤ 2 * L.length by omega)
      rw [Nat.add_mul] at this
      omega
    · exact hge
  have hmono := sum_take_mono (wts (rowM L k)) hMbig
  have htot : ∀ i, rsum i (fun q => (T q).sum) = rsum L.length (fun j => (wts L).getD j 0 * (i - (k + 1 - l j))) := by
    intro i
    induction i with
    | zero =>
      have : rsum L.length (fun j => (wts L).getD j 0 * (0 - (k + 1 - l j))) = rsum L.length (fun _ => 0) := rsum_congr fun j _ => by rw [Nat.zero_sub, Nat.mul_zero]
      rw [this, rsum_zero]; rfl
    | succ i ih =>
      show rsum i _ + (T i).sum = _
      rw [ih, hTs, ← rsum_add]
      refine rsum_congr fun j hj => ?_
      have := h1 j hj
      by_cases c : k + 1 ≤ l j + i
      · rw [if_pos c, show i + 1 - (k + 1 - l j) = i - (k + 1 - l j) + 1 by omega, Nat.mul_add, Nat.mul_one]
      · rw [if_neg c, show i + 1 - (k + 1 - l j) = 0 by omega, show i - (k + 1 - l j) = 0 by omega]; simp
  rw [htot] at hM2
  rw [rsum_congr (g := fun j => (wts L).getD j 0 * l j) fun j hj => by have := h1 j hj; rw [show k + 1 - (k + 1 - l j) = l j by omega]] at hM2
  rw [wts_take] at hM2 ⊢
  omega
end Go.Proofs.Yteaohgipndmciaa
