/- Huffman's sum, plain mathematics: no lengths of a whole code need less, and some need no more. No condition. -/
import Derived.Test.YtpmiphnjnbkjlaaPM
namespace Go.Proofs.Ytpmiphnjnbkjlaa
set_option linter.unusedVariables false
set_option linter.unusedSimpArgs false

theorem perm_sum {l m : List Nat} (h : l.Perm m) : l.sum = m.sum := by
  induction h with
  | nil => rfl
  | cons x _ ih => simp [ih]
  | swap x y l => simp; omega
  | trans _ _ a b => exact a.trans b
/-- Weights with their lengths. -/
abbrev WL := Nat × Nat
def costP (P : List WL) : Nat := (P.map fun z => z.1 * z.2).sum
def krP (D : Nat) (P : List WL) : Nat := (P.map fun z => 2 ^ (D - z.2)).sum
theorem costP_perm {P Q : List WL} (h : P.Perm Q) : costP P = costP Q := perm_sum (h.map _)
theorem krP_perm {D : Nat} {P Q : List WL} (h : P.Perm Q) : krP D P = krP D Q := perm_sum (h.map _)
theorem krP_snd (D : Nat) {P Q : List WL} (h : (P.map Prod.snd).Perm (Q.map Prod.snd)) : krP D P = krP D Q := by
  have := perm_sum (h.map fun l => 2 ^ (D - l))
  simpa [krP, Function.comp_def] using this
/-- Pairs by their weights: one is taken out. -/
theorem take_out {P : List WL} {x : Nat} {l : List Nat} (h : (P.map Prod.fst).Perm (x :: l)) : ∃ a R, P.Perm ((x, a) :: R) ∧ (R.map Prod.fst).Perm l := by
  have hx : x ∈ P.map Prod.fst := h.mem_iff.2 (by simp)
  rw [List.mem_map] at hx
  obtain ⟨⟨x', a⟩, hm, rfl⟩ := hx
  obtain ⟨P1, P2, rfl⟩ := List.append_of_mem hm
  refine ⟨a, P1 ++ P2, List.perm_middle, ?_⟩
  have h2 : (((x', a) :: (P1 ++ P2)).map Prod.fst).Perm (x' :: l) := (List.perm_middle.symm.map Prod.fst).trans h
  rw [List.map_cons] at h2
  exact List.Perm.cons_inv h2
/-- .. and all brought into the order of the weights. -/
theorem line_up {l : List Nat} : ∀ {P : List WL}, (P.map Prod.fst).Perm l → ∃ Q : List WL, Q.Perm P ∧ Q.map Prod.fst = l := by
  induction l with
  | nil => intro P h; exact ⟨[], by have := h.eq_nil; rw [List.map_eq_nil_iff] at this; rw [this], rfl⟩
  | cons x l ih =>
    intro P h
    obtain ⟨a, R, hP, hR⟩ := take_out h
    obtain ⟨Q, hQ, e⟩ := ih hR
    exact ⟨(x, a) :: Q, (hQ.cons _).trans hP.symm, by simp [e]⟩

/-- The sums of two least weights, till one is left. -/
inductive Huff : List Nat → Nat → Prop
  | one (x : Nat) : Huff [x] 0
  | two (l : List Nat) (x y : Nat) (r r' : List Nat) (c : Nat) (hl : l.Perm (x :: y :: r)) (hx : ∀ z ∈ y :: r, x ≤ z) (hy : ∀ z ∈ r, y ≤ z) (hr : r'.Perm ((x + y) :: r)) (h : Huff r' c) : Huff l (x + y + c)

theorem swap_in (x a M : Nat) (Q : List WL) (hx : ∀ z ∈ Q, x ≤ z.1) (hM : ∀ z ∈ (x, a) :: Q, z.2 ≤ M) (hin : ∃ z ∈ (x, a) :: Q, z.2 = M) :
    ∃ Q', Q'.map Prod.fst = Q.map Prod.fst ∧ costP ((x, M) :: Q') ≤ costP ((x, a) :: Q) ∧ (M :: Q'.map Prod.snd).Perm (a :: Q.map Prod.snd) := by
  by_cases ha : a = M
  · subst ha; exact ⟨Q, rfl, Nat.le_refl _, List.Perm.refl _⟩
  · obtain ⟨z, hz, hzM⟩ := hin
    rcases List.mem_cons.1 hz with rfl | hz
    · exact absurd hzM ha
    · obtain ⟨w, m⟩ := z
      simp only at hzM
      subst hzM
      have hxw := hx _ hz
      have ham := hM (x, a) (by simp)
      simp only at hxw ham
      obtain ⟨Q1, Q2, rfl⟩ := List.append_of_mem hz
      refine ⟨Q1 ++ (w, a) :: Q2, by simp, ?_, ?_⟩
      · simp only [costP, List.map_cons, List.map_append, List.sum_cons, List.sum_append]
        obtain ⟨d, rfl⟩ : ∃ d, w = x + d := ⟨w - x, by omega⟩
        obtain ⟨e, rfl⟩ : ∃ e, m = a + e := ⟨m - a, by omega⟩
        have h1 : x * (a + e) = x * a + x * e := Nat.mul_add _ _ _
        have h2 : (x + d) * a = x * a + d * a := Nat.add_mul _ _ _
        have h3 : (x + d) * (a + e) = x * a + x * e + (d * a + d * e) := by rw [Nat.add_mul, Nat.mul_add, Nat.mul_add]
        rw [h1, h2, h3]; omega
      · simp only [List.map_append, List.map_cons]
        have e1 : (m :: (Q1.map Prod.snd ++ a :: Q2.map Prod.snd)).Perm (m :: a :: (Q1.map Prod.snd ++ Q2.map Prod.snd)) := List.perm_middle.cons _
        have e2 : (a :: (Q1.map Prod.snd ++ m :: Q2.map Prod.snd)).Perm (a :: m :: (Q1.map Prod.snd ++ Q2.map Prod.snd)) := List.perm_middle.cons _
        exact e1.trans ((List.Perm.swap a m _).trans e2.symm)
theorem kr_dvd (D M : Nat) (hM : M ≤ D) (Q : List WL) (h : ∀ z ∈ Q, z.2 < M) : 2 ^ (D - M + 1) ∣ krP D Q := by
  induction Q with
  | nil => exact Nat.dvd_zero _
  | cons z Q ih =>
    have hz := h z (by simp)
    have : krP D (z :: Q) = 2 ^ (D - z.2) + krP D Q := by simp [krP]
    rw [this]
    exact Nat.dvd_add (Nat.pow_dvd_pow 2 (by omega)) (ih fun y hy => h y (by simp [hy]))
theorem max_in (P : List WL) (h : P ≠ []) : ∃ M, (∀ z ∈ P, z.2 ≤ M) ∧ ∃ z ∈ P, z.2 = M := by
  induction P with
  | nil => exact absurd rfl h
  | cons z P ih =>
    by_cases hP : P = []
    · subst hP; exact ⟨z.2, by simp, z, by simp, rfl⟩
    · obtain ⟨M, h1, y, hy, he⟩ := ih hP
      by_cases hc : z.2 ≤ M
      · refine ⟨M, fun u hu => ?_, y, by simp [hy], he⟩
        rcases List.mem_cons.1 hu with rfl | hu
        · exact hc
        · exact h1 u hu
      · refine ⟨z.2, fun u hu => ?_, z, by simp, rfl⟩
        rcases List.mem_cons.1 hu with rfl | hu
        · exact Nat.le_refl _
        · have := h1 u hu; omega
theorem huff_low {l : List Nat} {c : Nat} (hh : Huff l c) : ∀ (P : List WL) (D : Nat), (P.map Prod.fst).Perm l → (∀ z ∈ P, z.2 ≤ D) → krP D P = 2 ^ D → c ≤ costP P := by
  induction hh with
  | one x => intro P D _ _ _; exact Nat.zero_le _
  | two l x y r r' c hl hx hy hr h ih =>
    intro P D hP hD hK
    obtain ⟨a, R1, h1, hR1⟩ := take_out (hP.trans hl)
    obtain ⟨b, R, h2, hR⟩ := take_out hR1
    have hp : P.Perm ((x, a) :: (y, b) :: R) := h1.trans (h2.cons _)
    rw [costP_perm hp]
    rw [krP_perm hp] at hK
    have hD2 : ∀ z ∈ (x, a) :: (y, b) :: R, z.2 ≤ D := fun z hz => hD z (hp.mem_iff.2 hz)
    have hRw : ∀ z ∈ R, z.1 ∈ r := fun z hz => hR.mem_iff.1 (List.mem_map_of_mem hz)
    have hxQ : ∀ z ∈ (y, b) :: R, x ≤ z.1 := by
      intro z hz
      rcases List.mem_cons.1 hz with rfl | hz
      · exact hx y (by simp)
      · exact hx z.1 (by simp [hRw z hz])
    have hyQ : ∀ z ∈ R, y ≤ z.1 := fun z hz => hy z.1 (hRw z hz)
    clear hP hl h1 h2 hR1 hp hD
    obtain ⟨M, hM, hMin⟩ := max_in ((x, a) :: (y, b) :: R) (by simp)
    have hMD : M ≤ D := by obtain ⟨z, hz, rfl⟩ := hMin; exact hD2 z hz
    obtain ⟨Q', e1, c1, p1⟩ := swap_in x a M _ hxQ hM hMin
    obtain ⟨b', R', rfl⟩ : ∃ b' R', Q' = (y, b') :: R' := by
      cases Q' with
      | nil => simp at e1
      | cons q Q' => obtain ⟨q1, q2⟩ := q; simp only [List.map_cons, List.cons.injEq] at e1; exact ⟨q2, Q', by rw [e1.1]⟩
    simp only [List.map_cons, List.cons.injEq, true_and] at e1
    have hlen : ∀ u ∈ M :: b' :: R'.map Prod.snd, u ≤ M := by
      intro u hu
      have hu2 := (p1.mem_iff (a := u)).1 (by simpa using hu)
      have : u ∈ ((x, a) :: (y, b) :: R).map Prod.snd := by simpa using hu2
      rw [List.mem_map] at this
      obtain ⟨z, hz, rfl⟩ := this
      exact hM z hz
    have hK1 : krP D ((x, M) :: (y, b') :: R') = 2 ^ D := by rw [← hK]; exact krP_snd D (by simpa using p1)
    -- a second one of the greatest length
    have hM1 : 1 ≤ M := by
      rcases Nat.eq_zero_or_pos M with h0 | h0
      · exfalso
        have hb := hlen b' (by simp)
        have : krP D ((x, M) :: (y, b') :: R') = 2 ^ (D - M) + (2 ^ (D - b') + krP D R') := by simp [krP]
        rw [this, show b' = 0 by omega, h0] at hK1
        have := Nat.two_pow_pos (D - 0)
        simp only [Nat.sub_zero] at hK1 this
        omega
      · exact h0
    have hin2 : ∃ z ∈ (y, b') :: R', z.2 = M := by
      apply Classical.byContradiction
      intro hno
      have hlt : ∀ z ∈ (y, b') :: R', z.2 < M := by
        intro z hz
        have h3 : z.2 ≤ M := hlen z.2 (by
          have : z.2 ∈ ((y, b') :: R').map Prod.snd := List.mem_map_of_mem hz
          simp only [List.map_cons] at this
          exact List.mem_cons_of_mem _ this)
        have h4 : z.2 ≠ M := fun e => hno ⟨z, hz, e⟩
        omega
      have hd := kr_dvd D M hMD _ hlt
      have hd2 : 2 ^ (D - M + 1) ∣ 2 ^ D := Nat.pow_dvd_pow 2 (by omega)
      have e : krP D ((x, M) :: (y, b') :: R') = 2 ^ (D - M) + krP D ((y, b') :: R') := by simp [krP]
      rw [e] at hK1
      have hd3 : 2 ^ (D - M + 1) ∣ 2 ^ (D - M) := by
        rw [← hK1] at hd2
        exact (Nat.dvd_add_left hd).1 hd2
      have := Nat.le_of_dvd (Nat.two_pow_pos _) hd3
      rw [Nat.pow_succ] at this
      have := Nat.two_pow_pos (D - M)
      omega
    have hyR' : ∀ z ∈ R', y ≤ z.1 := by
      intro z hz
      have : z.1 ∈ R.map Prod.fst := by rw [← e1]; exact List.mem_map_of_mem hz
      rw [List.mem_map] at this
      obtain ⟨u, hu, he⟩ := this
      rw [← he]; exact hyQ u hu
    have hM2 : ∀ z ∈ (y, b') :: R', z.2 ≤ M := by
      intro z hz
      refine hlen z.2 ?_
      have : z.2 ∈ ((y, b') :: R').map Prod.snd := List.mem_map_of_mem hz
      simp only [List.map_cons] at this
      exact List.mem_cons_of_mem _ this
    obtain ⟨R'', e2, c2, p2⟩ := swap_in y b' M R' hyR' hM2 hin2
    have hK2 : krP D ((x, M) :: (y, M) :: R'') = 2 ^ D := by
      rw [← hK1]
      exact krP_snd D (by simpa using p2)
    have e3 : krP D ((x + y, M - 1) :: R'') = 2 ^ D := by
      rw [← hK2]
      simp only [krP, List.map_cons, List.sum_cons]
      rw [show D - (M - 1) = D - M + 1 by omega, Nat.pow_succ]
      omega
    have hfst : (((x + y, M - 1) :: R'').map Prod.fst).Perm r' := by
      simp only [List.map_cons]
      rw [e2, e1]
      exact (hR.cons _).trans hr.symm
    have hDD : ∀ z ∈ (x + y, M - 1) :: R'', z.2 ≤ D := by
      intro z hz
      rcases List.mem_cons.1 hz with rfl | hz
      · show M - 1 ≤ D; omega
      · have h5 : z.2 ∈ M :: R''.map Prod.snd := List.mem_cons_of_mem _ (List.mem_map_of_mem hz)
        have h6 : z.2 ∈ b' :: R'.map Prod.snd := p2.mem_iff.1 h5
        have := hlen z.2 (List.mem_cons_of_mem _ h6)
        omega
    have i := ih _ D hfst hDD e3
    have f1 : costP ((x, M) :: (y, b') :: R') = x * M + costP ((y, b') :: R') := by simp [costP]
    have f2 : costP ((y, M) :: R'') = y * M + costP R'' := by simp [costP]
    have f3 : costP ((x + y, M - 1) :: R'') = (x + y) * (M - 1) + costP R'' := by simp [costP]
    rw [f3] at i
    rw [f1] at c1
    rw [f2] at c2
    obtain ⟨N, rfl⟩ : ∃ N, M = N + 1 := ⟨M - 1, by omega⟩
    have g1 : x * (N + 1) = x * N + x := Nat.mul_succ _ _
    have g2 : y * (N + 1) = y * N + y := Nat.mul_succ _ _
    have g3 : (x + y) * (N + 1 - 1) = x * N + y * N := by rw [Nat.add_sub_cancel, Nat.add_mul]
    rw [g3] at i
    rw [g1] at c1
    rw [g2] at c2
    omega
theorem huff_len {l : List Nat} {c : Nat} (hh : Huff l c) : 1 ≤ l.length := by
  induction hh with
  | one x => simp
  | two l x y r r' c hl hx hy hr h ih => rw [hl.length_eq]; simp
theorem kr_double (D : Nat) (Q : List WL) (h : ∀ z ∈ Q, z.2 ≤ D) : krP (D + 1) Q = 2 * krP D Q := by
  induction Q with
  | nil => rfl
  | cons z Q ih =>
    have hz := h z (by simp)
    simp only [krP, List.map_cons, List.sum_cons] at ih ⊢
    rw [ih fun y hy => h y (by simp [hy]), show D + 1 - z.2 = D - z.2 + 1 by omega, Nat.pow_succ]
    omega
theorem huff_up {l : List Nat} {c : Nat} (hh : Huff l c) : ∃ P : List WL, P.map Prod.fst = l ∧ (∀ z ∈ P, z.2 ≤ l.length - 1) ∧ (2 ≤ l.length → ∀ z ∈ P, 1 ≤ z.2) ∧ krP (l.length - 1) P = 2 ^ (l.length - 1) ∧ costP P = c := by
  induction hh with
  | one x => exact ⟨[(x, 0)], by simp, by simp, by simp, by simp [krP], by simp [costP]⟩
  | two l x y r r' c hl hx hy hr h ih =>
    obtain ⟨P, e, hb, h1, hk, hc⟩ := ih
    obtain ⟨Q, hQ, eQ⟩ := line_up (P := P) (l := (x + y) :: r) (by rw [e]; exact hr)
    obtain ⟨d, R, rfl⟩ : ∃ d R, Q = (x + y, d) :: R := by
      cases Q with
      | nil => simp at eQ
      | cons q Q => obtain ⟨q1, q2⟩ := q; simp only [List.map_cons, List.cons.injEq] at eQ; exact ⟨q2, Q, by rw [eQ.1]⟩
    simp only [List.map_cons, List.cons.injEq, true_and] at eQ
    have hlen : r'.length = r.length + 1 := by rw [hr.length_eq]; simp
    have hlen2 : l.length = r.length + 2 := by rw [hl.length_eq]; simp
    rw [hlen, Nat.add_sub_cancel] at hb hk
    have hbQ : ∀ z ∈ (x + y, d) :: R, z.2 ≤ r.length := fun z hz => hb z (hQ.mem_iff.1 hz)
    have hkQ : krP r.length ((x + y, d) :: R) = 2 ^ r.length := by rw [krP_perm hQ]; exact hk
    have hcQ : costP ((x + y, d) :: R) = c := by rw [costP_perm hQ]; exact hc
    obtain ⟨S, hS, eS⟩ := line_up (P := (x, d + 1) :: (y, d + 1) :: R) (l := l) (by simp only [List.map_cons]; rw [eQ]; exact hl.symm)
    have hd := hbQ (x + y, d) (by simp)
    simp only at hd
    refine ⟨S, eS, ?_, ?_, ?_, ?_⟩
    · intro z hz
      have := hS.mem_iff.1 hz
      simp only [List.mem_cons] at this
      rw [hlen2]
      rcases this with rfl | rfl | h3
      · show d + 1 ≤ _; omega
      · show d + 1 ≤ _; omega
      · have := hbQ z (by simp [h3]); omega
    · intro _ z hz
      have := hS.mem_iff.1 hz
      simp only [List.mem_cons] at this
      rcases this with rfl | rfl | h3
      · show 1 ≤ d + 1; omega
      · show 1 ≤ d + 1; omega
      · have hR : 1 ≤ R.length := by cases R with
          | nil => simp at h3
          | cons _ _ => simp
        have : 1 ≤ r.length := by rw [← eQ]; simpa using hR
        exact h1 (by omega) z (hQ.mem_iff.1 (by simp [h3]))
    · rw [krP_perm hS, hlen2, show r.length + 2 - 1 = r.length + 1 by omega]
      have e1 : krP (r.length + 1) ((x, d + 1) :: (y, d + 1) :: R) = 2 ^ (r.length + 1 - (d + 1)) + (2 ^ (r.length + 1 - (d + 1)) + krP (r.length + 1) R) := by simp [krP]
      have e2 : krP r.length ((x + y, d) :: R) = 2 ^ (r.length - d) + krP r.length R := by simp [krP]
      rw [e1, kr_double _ _ fun z hz => hbQ z (by simp [hz]), show r.length + 1 - (d + 1) = r.length - d by omega, Nat.pow_succ]
      rw [e2] at hkQ
      omega
    · rw [costP_perm hS]
      have e1 : costP ((x, d + 1) :: (y, d + 1) :: R) = x * (d + 1) + (y * (d + 1) + costP R) := by simp [costP]
      have e2 : costP ((x + y, d) :: R) = (x + y) * d + costP R := by simp [costP]
      rw [e1]
      rw [e2, Nat.add_mul] at hcQ
      rw [Nat.mul_succ, Nat.mul_succ]
      omega
/-- Whichever way the two least are chosen, the sum is one. -/
theorem huff_same {l l' : List Nat} {c c' : Nat} (h : Huff l c) (h' : Huff l' c') (hp : l.Perm l') : c = c' := by
  obtain ⟨P, e, hb, _, hk, hc⟩ := huff_up h
  obtain ⟨P', e', hb', _, hk', hc'⟩ := huff_up h'
  have a := huff_low h P' _ (by rw [e']; exact hp.symm) hb' hk'
  have b := huff_low h' P _ (by rw [e]; exact hp) hb hk
  omega
end Go.Proofs.Ytpmiphnjnbkjlaa
