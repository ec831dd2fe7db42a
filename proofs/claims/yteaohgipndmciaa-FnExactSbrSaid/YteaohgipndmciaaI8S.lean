/- Chapter 8, the program: symbols sorted by the sums of their times. -/
import Derived.Test.YteaohgipndmciaaI8H
import Derived.Test.YteaohgipndmciaaC8U
namespace Go.Proofs.Yteaohgipndmciaa
set_option linter.unusedVariables false
set_option linter.unusedSimpArgs false
open Go.RowKit

/-- The times of m symbols, two cells each. -/
def tmC (m : Nat) (a b : Nat → Nat) : Array Value := ((List.range m).flatMap fun i => [Value.int .i64 (a i : Int), Value.int .i64 (b i : Int)]).toArray
theorem tmL_get (m : Nat) (a b : Nat → Nat) : ∀ (x : Nat), x < m → ((List.range m).flatMap fun i => [Value.int .i64 (a i : Int), Value.int .i64 (b i : Int)])[x * 2]? = some (.int .i64 (a x : Int)) ∧ ((List.range m).flatMap fun i => [Value.int .i64 (a i : Int), Value.int .i64 (b i : Int)])[x * 2 + 1]? = some (.int .i64 (b x : Int)) := by
  induction m with
  | zero => intro x h; omega
  | succ m ih =>
    intro x h
    have hl : ((List.range m).flatMap fun i => [Value.int .i64 (a i : Int), Value.int .i64 (b i : Int)]).length = m * 2 := by
      clear ih h
      induction m with
      | zero => rfl
      | succ m ih => rw [List.range_succ, List.flatMap_append, List.length_append, ih]; simp; omega
    rw [List.range_succ, List.flatMap_append]
    by_cases hx : x < m
    · obtain ⟨h1, h2⟩ := ih x hx
      rw [List.getElem?_append_left (by omega), List.getElem?_append_left (by omega)]
      exact ⟨h1, h2⟩
    · obtain rfl : x = m := by omega
      rw [List.getElem?_append_right (by omega), List.getElem?_append_right (by omega), hl]
      simp
theorem tmC_len (m : Nat) (a b : Nat → Nat) : (tmC m a b).size = m * 2 := by
  unfold tmC
  simp only [List.size_toArray]
  induction m with
  | zero => rfl
  | succ m ih => rw [List.range_succ, List.flatMap_append, List.length_append, ih]; simp; omega
theorem tmC_a (m : Nat) (a b : Nat → Nat) (x : Nat) (h : x < m) : (tmC m a b)[x * 2]? = some (.int .i64 (a x : Int)) := by unfold tmC; rw [List.getElem?_toArray]; exact (tmL_get m a b x h).1
theorem tmC_b (m : Nat) (a b : Nat → Nat) (x : Nat) (h : x < m) : (tmC m a b)[x * 2 + 1]? = some (.int .i64 (b x : Int)) := by unfold tmC; rw [List.getElem?_toArray]; exact (tmL_get m a b x h).2
theorem tmC_set (m : Nat) (a b : Nat → Nat) (x u v : Nat) (h : x < m) : ((tmC m a b).setIfInBounds (x * 2) (.int .i64 (u : Int))).setIfInBounds (x * 2 + 1) (.int .i64 (v : Int)) = tmC m (fun y => if y = x then u else a y) (fun y => if y = x then v else b y) := by
  apply Array.ext_getElem?
  intro i
  rw [Array.getElem?_setIfInBounds, Array.getElem?_setIfInBounds, Array.size_setIfInBounds, tmC_len]
  by_cases hi : i < m * 2
  · obtain ⟨y, hy | hy⟩ : ∃ y, i = y * 2 ∨ i = y * 2 + 1 := ⟨i / 2, by omega⟩
    · subst hy
      rw [if_neg (by omega), tmC_a _ _ _ _ (by omega)]
      by_cases e : y = x
      · subst e; rw [tmC_a _ _ _ _ h]; simp [hi]
      · rw [if_neg (by omega), tmC_a _ _ _ _ (by omega), if_neg e]
    · subst hy
      rw [tmC_b _ _ _ _ (by omega)]
      by_cases e : y = x
      · subst e; rw [tmC_b _ _ _ _ h]; simp [hi]
      · rw [if_neg (by omega), if_neg (by omega), tmC_b _ _ _ _ (by omega), if_neg e]
  · have e1 : (tmC m a b)[i]? = none := by rw [Array.getElem?_eq_none_iff, tmC_len]; omega
    have e2 : (tmC m (fun y => if y = x then u else a y) (fun y => if y = x then v else b y))[i]? = none := by rw [Array.getElem?_eq_none_iff, tmC_len]; omega
    rw [e1, e2, if_neg (by omega), if_neg (by omega)]
def syC (S : List Nat) : Array Value := (natsL S).toArray
theorem syC_get (S : List Nat) (k : Nat) (h : k < S.length) : (syC S)[k]? = some (.int .i64 ((S.getD k 0 : Nat) : Int)) := by
  unfold syC
  rw [List.getElem?_toArray, natsL_nats, nats_get _ _ _ h]
theorem syC_set (S : List Nat) (k x : Nat) : (syC S).setIfInBounds k (.int .i64 (x : Int)) = syC (S.set k x) := by unfold syC; rw [List.setIfInBounds_toArray, natsL_set]
theorem Has.neT {W : World} {a b : Nat} {T T' : TypeId} {c c' : Array Value} (h : Has W a T c) (h' : Has W b T' c') (hT : T ≠ T') : a ≠ b := fun e => by
  subst e
  have := h.symm.trans h'
  simp at this
  exact hT this.2
/-- What the struct of times and symbols holds. -/
structure TOw (W : World) (ob tb sb m : Nat) (s : SB) (S : List Nat) : Prop where
  o : Has W ob 175 #[.slice (some ⟨tb, 0, none⟩) m m, .slice (some ⟨sb, 0, none⟩) m m, .int .i64 (s.t : Int)]
  t : Has W tb 178 (tmC m s.a s.b)
  y : Has W sb 3 (syC S)
theorem TOw.keep {W W' : World} {ob tb sb m : Nat} {s : SB} {S : List Nat} (h : TOw W ob tb sb m s S) (hk : W'.heap[ob]? = W.heap[ob]? ∧ W'.heap[tb]? = W.heap[tb]? ∧ W'.heap[sb]? = W.heap[sb]?) : TOw W' ob tb sb m s S :=
  ⟨hk.1.trans h.o, hk.2.1.trans h.t, hk.2.2.trans h.y⟩
theorem TOw.drewN {W : World} {ob tb sb m : Nat} {s : SB} {S : List Nat} (h : TOw W ob tb sb m s S) (n : Nat) : TOw (W.drewN n) ob tb sb m s S := ⟨h.o, h.t, h.y⟩
set_option maxHeartbeats 1000000 in
set_option maxRecDepth 100000 in
theorem sum_any (ob tb sb m x : Nat) (s : SB) (S : List Nat) (w : World) (h : TOw w ob tb sb m s S) (hx : x < m) (hm : m ≤ 256) (hok : s.ok) (ht : s.t ≤ 1000) :
    Calls Try.prog 160 #[.pointer (some ⟨ob, 0, none⟩), .int .i64 x] w fun e w' => e = .returned (.int .i64 ((s.sm x : Nat) : Int)) ∧ ∃ n, w' = w.drewN n := by
  have c0 := h.o.cell 0
  simp at c0
  have c1 := h.t.cell (x * 2)
  rw [tmC_a _ _ _ _ hx] at c1
  have c2 := h.t.cell (x * 2 + 1)
  rw [tmC_b _ _ _ _ hx] at c2
  have hb := hok x
  have HS : Hid (s.sm x = s.a x + s.b x) := hidden rfl
  obtain ⟨p, hp⟩ : ∃ p, s.a x = p := ⟨_, rfl⟩
  obtain ⟨q, hq⟩ : ∃ q, s.b x = q := ⟨_, rfl⟩
  rw [hp] at c1 hb HS
  rw [hq] at c2 hb HS
  have hxI : (x : Int) < m := by omega
  have hx0 : (0 : Int) ≤ x := by omega
  have hmm : (m : Int) ≤ (m : Int) := Int.le_refl _
  clear h hp hq hok
  go_enter Try.func160, Try.ntmps160
  go_wp2
  go_big_quiet (fail)
  go_wp2
  go_ret
  exact ⟨ret_i8 (by rw [HS.out]; omega), nq, rfl⟩
def bfB (f : Nat → Nat) (x y : Nat) : Bool := decide (f y < f x ∨ (f x = f y ∧ x < y))
theorem bfB_iff (f : Nat → Nat) (x y : Nat) : bfB f x y = true ↔ bfS f x y := by unfold bfB bfS; simp
set_option maxHeartbeats 1000000 in
set_option maxRecDepth 100000 in
theorem before_any (ob tb sb m x y : Nat) (s : SB) (S : List Nat) (w : World) (h : TOw w ob tb sb m s S) (hx : x < m) (hy : y < m) (hm : m ≤ 256) (hok : s.ok) (ht : s.t ≤ 1000) :
    Calls Try.prog 159 #[.pointer (some ⟨ob, 0, none⟩), .int .i64 x, .int .i64 y] w fun e w' => e = .returned (.bool (bfB s.sm x y)) ∧ ∃ n, w' = w.drewN n := by
  have KX := hidden (fun (W : World) (h : TOw W ob tb sb m s S) => sum_any ob tb sb m x s S W h hx hm hok ht)
  have KY := hidden (fun (W : World) (h : TOw W ob tb sb m s S) => sum_any ob tb sb m y s S W h hy hm hok ht)
  have HH := hidden h
  obtain ⟨f, hf⟩ : ∃ f, s.sm = f := ⟨_, rfl⟩
  rw [hf] at KX KY ⊢
  have HB : Hid (bfB f x y = decide (f y < f x ∨ (f x = f y ∧ x < y))) := hidden rfl
  obtain ⟨p, hp⟩ : ∃ p, f x = p := ⟨_, rfl⟩
  obtain ⟨q, hq⟩ : ∃ q, f y = q := ⟨_, rfl⟩
  rw [hp] at KX HB
  rw [hq] at KY HB
  clear h hf hp hq hok
  by_cases he : p = q
  · have hbe : ((p : Int) == (q : Int)) = true := by rw [beq_iff_eq]; omega
    have hbi : (p : Int) = q := by omega
    have HB2 : Hid (decide (x < y) = bfB f x y) := hidden (by
      rw [HB.out]
      by_cases h2 : x < y
      · rw [decide_eq_true h2, decide_eq_true (by omega)]
      · rw [decide_eq_false h2, decide_eq_false (by omega)])
    go_enter Try.func159, Try.ntmps159
    go_wp2_with fail
    refine (KX.out _ HH.out).mono ?_
    rintro e w1 ⟨rfl, n1, rfl⟩
    go_wp2_with fail
    refine (KY.out (w.drewN n1) (HH.out.drewN n1)).mono ?_
    rintro e w1 ⟨rfl, n2, rfl⟩
    subst he
    go_wp2
    go_ret
    exact ⟨ret_bool HB2.out, n1 + n2, by first | rfl | simp [World.drewN_drewN]⟩
  · have hbe : ((p : Int) == (q : Int)) = false := by rw [beq_eq_false_iff_ne]; omega
    have hbi : ¬ (p : Int) = q := by omega
    have HB2 : Hid (decide (q < p) = bfB f x y) := hidden (by
      rw [HB.out]
      by_cases h2 : q < p
      · rw [decide_eq_true h2, decide_eq_true (by omega)]
      · rw [decide_eq_false h2, decide_eq_false (by omega)])
    go_enter Try.func159, Try.ntmps159
    go_wp2_with fail
    refine (KX.out _ HH.out).mono ?_
    rintro e w1 ⟨rfl, n1, rfl⟩
    go_wp2_with fail
    refine (KY.out (w.drewN n1) (HH.out.drewN n1)).mono ?_
    rintro e w1 ⟨rfl, n2, rfl⟩
    go_wp2_with fail
    refine (KX.out (w.drewN (n1 + n2)) (HH.out.drewN (n1 + n2))).mono ?_
    rintro e w1 ⟨rfl, n3, rfl⟩
    go_wp2_with fail
    refine (KY.out (w.drewN (n1 + n2 + n3)) (HH.out.drewN (n1 + n2 + n3))).mono ?_
    rintro e w1 ⟨rfl, n4, rfl⟩
    go_wp2
    go_ret
    exact ⟨ret_bool HB2.out, n1 + n2 + n3 + n4, by first | rfl | simp [World.drewN_drewN]⟩
set_option maxHeartbeats 2000000 in
set_option maxRecDepth 100000 in
theorem update_any (base E ob tb sb m k : Nat) (s : SB) (w : World) (h : TOw w ob tb sb m s (byL s.sm m)) (hk : k < m) (hm : m ≤ 256) (hok : s.ok) (ht : s.t ≤ 900) (hl : ∀ b, b = ob ∨ b = tb ∨ b = sb → base ≤ b ∧ b < E) :
    Calls Try.prog 157 #[.pointer (some ⟨ob, 0, none⟩), .int .i64 k] w fun e w' => e = .returned (.tuple #[]) ∧ TOw w' ob tb sb m (s.up ((byL s.sm m).getD k 0)) (byL (s.up ((byL s.sm m).getD k 0)).sm m) ∧ Mid base E w w' := by
  have hBy := byL_by s.sm m
  have hLn := byL_len s.sm m
  have hxm := hBy.1.at hk
  have hot : ob ≠ tb := h.o.neT h.t (by decide)
  have hos : ob ≠ sb := h.o.neT h.y (by decide)
  have hts : tb ≠ sb := h.t.neT h.y (by decide)
  obtain ⟨x, hx⟩ : ∃ x, (byL s.sm m).getD k 0 = x := ⟨_, rfl⟩
  have HSP : Hid (byL s.sm m = (byL s.sm m).take k ++ x :: (byL s.sm m).drop (k + 1)) := hidden (by rw [← hx]; exact split_at _ k (by rw [hLn]; exact hk))
  have hPl : ((byL s.sm m).take k).length = k := by rw [List.length_take, hLn]; omega
  obtain ⟨P, hP⟩ : ∃ P, (byL s.sm m).take k = P := ⟨_, rfl⟩
  obtain ⟨Q, hQ⟩ : ∃ Q, (byL s.sm m).drop (k + 1) = Q := ⟨_, rfl⟩
  rw [hP, hQ] at HSP
  rw [hP] at hPl
  have HMV := hidden (fun p hp h1 h2 => by_move (s := s) (n := m) (x := x) (P := P) (Q := Q) (by rw [← HSP.out]; exact hBy) hok p hp h1 h2)
  have HBW : Hid (P.Pairwise (bfS s.sm) ∧ x ∉ P) := hidden (by
    have h1 := hBy.2
    have h2 := hBy.1.nodup
    rw [HSP.out] at h1 h2
    exact ⟨(List.pairwise_append.1 h1).1, fun hm => (List.nodup_append.1 h2).2.2 x hm x (List.mem_cons_self ..) rfl⟩)
  have HPm : Hid (∀ y ∈ P, y < m) := hidden (fun y hy => (hBy.1.mem y).1 (by rw [HSP.out]; exact List.mem_append_left _ hy))
  have c0 := h.o.cell 0
  have c1 := h.o.cell 1
  have c2 := h.o.cell 2
  simp at c0 c1 c2
  have d0 := h.y.cell k
  rw [syC_get _ _ (by rw [hLn]; exact hk), hx] at d0
  have a0 := h.t.cell (x * 2)
  rw [hx] at hxm
  rw [tmC_a _ _ _ _ hxm] at a0
  have a1 := h.t.cell (x * 2 + 1)
  rw [tmC_b _ _ _ _ hxm] at a1
  have f0 := h.o.free 2
  have f1 := h.t.free (x * 2)
  have f2 := h.t.free (x * 2 + 1)
  rw [hx]
  have HH := hidden h
  have hxI : (x : Int) < m := by omega
  have hx0 : (0 : Int) ≤ x := by omega
  have hkI : (k : Int) < m := by omega
  have hU := sm_up s x
  have HU : Hid ((s.up x).t = s.t + 1 ∧ (s.up x).ok) := hidden ⟨rfl, hok.up x⟩
  obtain ⟨T, hT⟩ : ∃ T, s.t = T := ⟨_, rfl⟩
  obtain ⟨av, hav⟩ : ∃ av, s.a x = av := ⟨_, rfl⟩
  have HAV := hidden hav
  rw [hT] at c2 ht HU
  rw [hav] at a0
  have HA : Hid (tmC m (s.up x).a (s.up x).b = ((tmC m s.a s.b).setIfInBounds (x * 2) (.int .i64 ((T : Int) + 1))).setIfInBounds (x * 2 + 1) (.int .i64 (av : Int))) := hidden (by
    rw [show ((T : Int) + 1) = ((T + 1 : Nat) : Int) by omega, tmC_set _ _ _ _ _ _ hxm]
    show tmC m (fun y => if y = x then s.t + 1 else s.a y) (fun y => if y = x then s.a x else s.b y) = _
    rw [hT, hav])
  obtain ⟨s2, hs2⟩ : ∃ s2, s.up x = s2 := ⟨_, rfl⟩
  rw [hs2] at hU HU HA HMV ⊢
  have HSU := hidden hU
  have l1 := hl ob (.inl rfl)
  have l2 := hl tb (.inr (.inl rfl))
  have l3 := hl sb (.inr (.inr rfl))
  have hto : ¬ tb = ob := fun e => hot e.symm
  have hso : ¬ sb = ob := fun e => hos e.symm
  have hst : ¬ sb = tb := fun e => hts e.symm
  clear h hBy hLn hx hP hQ hok hT hav hU hl hs2
  go_enter Try.func157, Try.ntmps157
  go_wp2
  obtain ⟨wa, hwa⟩ : ∃ wa, w.setCell ⟨ob, 2, none⟩ (.int .i64 ((T : Int) + 1)) = wa := ⟨_, rfl⟩
  have oa : Has wa ob 175 #[.slice (some ⟨tb, 0, none⟩) m m, .slice (some ⟨sb, 0, none⟩) m m, .int .i64 ((T : Int) + 1)] := by
    rw [← hwa]
    have := HH.out.o.store 2 (.int .i64 ((T : Int) + 1))
    simpa using this
  have ta : Has wa tb 178 (tmC m s.a s.b) := by rw [← hwa]; exact HH.out.t.storeAway (by simpa using hto) _
  have ya : Has wa sb 3 (syC (byL s.sm m)) := by rw [← hwa]; exact HH.out.y.storeAway (by simpa using hso) _
  have ma : Mid base E w wa := by rw [← hwa]; exact (Mid.refl base E w).store l1.1 l1.2 _
  have e0 := oa.cell 0
  have e1 := oa.cell 1
  have e2 := oa.cell 2
  simp at e0 e1 e2
  have b0 : wa.cell? ⟨tb, x * 2, none⟩ = some (.int .i64 (av : Int)) := by
    have := ta.cell (x * 2)
    rwa [tmC_a _ _ _ _ hxm, HAV.out] at this
  have b1 := ta.cell (x * 2 + 1)
  rw [tmC_b _ _ _ _ hxm] at b1
  have g1 := ta.free (x * 2)
  have g2 := ta.free (x * 2 + 1)
  rw [hwa]
  clear hwa c0 c1 c2 d0 a0 a1 f0 f1 f2
  go_still_tail 19, (by kernel_rfl)
  have ob0 : Has wa.drew ob 175 #[.slice (some ⟨tb, 0, none⟩) m m, .slice (some ⟨sb, 0, none⟩) m m, .int .i64 ((T : Int) + 1)] := oa
  have tb0 : Has wa.drew tb 178 (tmC m s.a s.b) := ta
  have yb0 : Has wa.drew sb 3 (syC (byL s.sm m)) := ya
  have mb0 : Mid base E w wa.drew := ma
  change wpList _ _ _ _ _ wa.drew
  obtain ⟨wb, hwb⟩ : ∃ wb, wa.drew = wb := ⟨_, rfl⟩
  rw [hwb] at ob0 tb0 yb0 mb0 ⊢
  clear hwb oa ta ya ma e0 e1 e2 b0 b1 g1 g2
  have b0 := tb0.cell (x * 2)
  rw [tmC_a _ _ _ _ hxm] at b0
  have b1 := tb0.cell (x * 2 + 1)
  rw [tmC_b _ _ _ _ hxm] at b1
  have g1 := tb0.free (x * 2)
  have g2 := tb0.free (x * 2 + 1)
  have oc := (ob0.storeAway (p := ⟨tb, x * 2, none⟩) (by simpa using hot) (.int .i64 ((T : Int) + 1))).storeAway (p := ⟨tb, x * 2 + 1, none⟩) (by simpa using hot) (.int .i64 (av : Int))
  have tc := (tb0.store (x * 2) (.int .i64 ((T : Int) + 1))).store (x * 2 + 1) (.int .i64 (av : Int))
  rw [← HA.out] at tc
  have yc := (yb0.storeAway (p := ⟨tb, x * 2, none⟩) (by simpa using hst) (.int .i64 ((T : Int) + 1))).storeAway (p := ⟨tb, x * 2 + 1, none⟩) (by simpa using hst) (.int .i64 (av : Int))
  have mc := (mb0.store (p := ⟨tb, x * 2, none⟩) l2.1 l2.2 (.int .i64 ((T : Int) + 1))).store (p := ⟨tb, x * 2 + 1, none⟩) l2.1 l2.2 (.int .i64 (av : Int))
  clear ob0 tb0 yb0 mb0
  go_wp2
  have hTO : TOw ((wb.setCell ⟨tb, x * 2, none⟩ (.int .i64 ((T : Int) + 1))).setCell ⟨tb, x * 2 + 1, none⟩ (.int .i64 (av : Int))) ob tb sb m s2 (byL s.sm m) := ⟨by rw [HU.out.1]; exact oc, tc, yc⟩
  clear oc tc yc b0 b1 g1 g2
  have HX0 : Hid (Sh (byL s.sm m) (P ++ Q) k) := hidden (by rw [HSP.out, ← hPl]; exact Sh.mid P Q x)
  have HPQ : Hid ((P ++ Q).length + 1 = m) := hidden (by
    have := byL_len s.sm m
    rw [HSP.out] at this
    simp only [List.length_append, List.length_cons] at this ⊢
    omega)
  have HGP : Hid (∀ q, q < k → (P ++ Q).getD q 0 = P.getD q 0 ∧ P.getD q 0 < m) := hidden (fun q hq => ⟨by
    simp [List.getD_eq_getElem?_getD, List.getElem?_append_left (show q < P.length by omega)], HPm.out _ (getD_mem7 P q (by omega))⟩)
  have HOK2 := HU.out.2
  have HT2 : Hid (s2.t ≤ 1000) := hidden (by rw [HU.out.1]; omega)
  have HSM : Hid (∀ y, y ∈ P → s2.sm y = s.sm y) := hidden (fun y hy => by
    rw [HSU.out, if_neg (fun e => HBW.out.2 (by rw [← e]; exact hy))])
  have HOK := hidden HOK2
  have HDN : Hid (P.Pairwise (bfS s2.sm)) := hidden (by
    refine List.Pairwise.imp_of_mem ?_ HBW.out.1
    intro y z hy hz hb
    unfold bfS at hb ⊢
    rw [HSM.out y hy, HSM.out z hz]
    exact hb)
  -- the end: what stands where x is put
  have HEND : Hid (∀ (X : List Nat) (p : Nat), p ≤ k → Sh X (P ++ Q) p → (∀ y ∈ P.drop p, bfS s2.sm x y) → (∀ y ∈ P.take p, bfS s2.sm y x) → X.set p x = byL s2.sm m) := hidden (by
    intro X p hp hX h1 h2
    have hpP : p ≤ P.length := by omega
    rw [hX.put (by rw [List.length_append]; omega) x, List.take_append_of_le_length hpP, List.drop_append_of_le_length hpP]
    exact byS_unique (HMV.out p hpP h1 h2) (byL_by s2.sm m))
  clear HOK2
  go_loopg [1] k (fun p sp wr => ∃ X : List Nat, p ≤ k ∧ sp = .int .i64 p ∧ Hid (Sh X (P ++ Q) p) ∧ Hid (∀ y ∈ P.drop p, bfS s2.sm x y) ∧ TOw wr ob tb sb m s2 X ∧ Mid base E w wr)
  case atStart => exact ⟨byL s.sm m, Nat.le_refl _, rfl, HX0, hidden (by rw [List.drop_eq_nil_of_le (by omega)]; simp), hTO, mc⟩
  case round =>
    obtain ⟨X, hp, rfl, HX, HD, hT, hM⟩ := hrel
    clear hTO mc
    have HXl : Hid (X.length = m) := hidden (by rw [HX.out.1]; exact HPQ.out)
    have c0 := hT.o.cell 0
    have c1 := hT.o.cell 1
    simp at c0 c1
    cases gk with
    | zero =>
      have hE := HEND.out X 0 hp HX.out HD.out (by intro y hy; simp at hy)
      have d0 := hT.y.cell 0
      rw [syC_get _ _ (by rw [HXl.out]; omega)] at d0
      have f0 := hT.y.free 0
      have o2 := hT.o.storeAway (p := ⟨sb, 0, none⟩) (by simpa using hos) (.int .i64 (x : Int))
      have t2 := hT.t.storeAway (p := ⟨sb, 0, none⟩) (by simpa using hts) (.int .i64 (x : Int))
      have y2 := hT.y.store 0 (.int .i64 (x : Int))
      rw [syC_set, hE] at y2
      have m2 := hM.store (p := ⟨sb, 0, none⟩) l3.1 l3.2 (.int .i64 (x : Int))
      have hm0 : (0 : Int) < (m : Int) := by omega
      clear hE hT hM
      go_wp2
      go_end0
      exact ⟨rfl, ⟨o2, t2, y2⟩, m2⟩
    | succ q =>
      obtain ⟨hg1, hg2⟩ := HGP.out q (by omega)
      have d0 := hT.y.cell q
      rw [syC_get _ _ (by rw [HXl.out]; omega), HX.out.get, hg1] at d0
      have HST := hidden (HX.out.step (by have := HPQ.out; omega))
      rw [hg1] at HST
      have HPd : Hid (P.drop q = P.getD q 0 :: P.drop (q + 1)) := hidden (drop_cons P q (by omega))
      have HNT := hidden (fun h => not_take (x := x) (q := q) HDN.out (by omega) h)
      obtain ⟨y, hy⟩ : ∃ y, P.getD q 0 = y := ⟨_, rfl⟩
      rw [hy] at d0 hg2 HST HPd HNT
      have KB := hidden (before_any ob tb sb m x y s2 X wr hT hxm hg2 hm HOK.out HT2.out)
      have HY := hidden hy
      have HTT := hidden hT
      have HMM := hidden hM
      have hq0 : (0 : Int) < (q : Int) + 1 := by omega
      have hqm : (q : Int) < (m : Int) := by omega
      have hqm1 : (q : Int) + 1 < (m : Int) := by omega
      have hqn : (0 : Int) ≤ (q : Int) := by omega
      clear hy hg1 hT hM
      by_cases hbf : bfB s2.sm x y = true
      · rw [hbf] at KB
        have HD2 : Hid (∀ z ∈ P.drop q, bfS s2.sm x z) := hidden (by
          intro z hz
          rw [HPd.out] at hz
          rcases List.mem_cons.1 hz with e | e
          · rw [e]; exact (bfB_iff _ _ _).1 hbf
          · exact HD.out z e)
        go_wp2_with fail
        refine KB.out.mono ?_
        rintro e w3 ⟨rfl, n1, rfl⟩
        obtain ⟨wd, hwd⟩ : ∃ wd, wr.drewN n1 = wd := ⟨_, rfl⟩
        have hT2 : TOw wd ob tb sb m s2 X := by rw [← hwd]; exact HTT.out.drewN n1
        have hM2 : Mid base E w wd := by rw [← hwd]; exact HMM.out
        rw [hwd]
        clear hwd c0 c1 d0
        have c1 := hT2.o.cell 1
        simp at c1
        have d0 := hT2.y.cell q
        rw [syC_get _ _ (by rw [HXl.out]; omega), HX.out.get, HGP.out q (by omega) |>.1, HY.out] at d0
        have d1 := hT2.y.cell (q + 1)
        rw [syC_get _ _ (by rw [HXl.out]; omega)] at d1
        have f1 := hT2.y.free (q + 1)
        have hw1 : (q : Int) + 1 - 1 = q := by omega
        have hw2 : IntKind.i64.wrap (q : Int) = q := IntWalk.i64_in _ (by omega)
        have hw3 : IntKind.i64.wrap ((q : Int) + 1 - 1) = q := by rw [hw1]; exact hw2
        have hq1 : (0 : Int) ≤ (q : Int) + 1 := by omega
        have hqt : ((q : Int) + 1).toNat = q + 1 := by omega
        go_wp2
        go_still_tail 14, (by kernel_rfl)
        have o3 : Has wd.drew ob _ _ := hT2.o
        have t3 : Has wd.drew tb _ _ := hT2.t
        have y3 : Has wd.drew sb _ _ := hT2.y
        have m3 : Mid base E w wd.drew := hM2
        have d3 : wd.drew.cell? ⟨sb, q + 1, none⟩ = _ := d1
        have f3 : wd.drew.frozen? ⟨sb, q + 1, none⟩ = false := f1
        change wpList _ _ _ _ _ wd.drew
        obtain ⟨we, hwe⟩ : ∃ we, wd.drew = we := ⟨_, rfl⟩
        rw [hwe] at o3 t3 y3 m3 d3 f3 ⊢
        clear hwe hT2 hM2 c1 d0 d1 f1
        have o4 := o3.storeAway (p := ⟨sb, q + 1, none⟩) (by simpa using hos) (.int .i64 (y : Int))
        have t4 := t3.storeAway (p := ⟨sb, q + 1, none⟩) (by simpa using hts) (.int .i64 (y : Int))
        have y4 := y3.store (q + 1) (.int .i64 (y : Int))
        rw [syC_set] at y4
        have m4 := m3.store (p := ⟨sb, q + 1, none⟩) l3.1 l3.2 (.int .i64 (y : Int))
        clear o3 t3 y3 m3
        go_wp2
        go_roundg q
        case measure => omega
        case rel => exact ⟨X.set (q + 1) y, by omega, by go_num, HST, HD2, ⟨o4, t4, y4⟩, m4⟩
      · have hbf2 : bfB s2.sm x y = false := bool_false hbf
        rw [hbf2] at KB
        have hE := HEND.out X (q + 1) hp HX.out HD.out (by
          intro z hz
          have hnb := HNT.out (fun h => hbf ((bfB_iff _ _ _).2 h)) z hz
          rcases bfS_total s2.sm (x := z) (y := x) (fun e => HBW.out.2 (by rw [← e]; exact List.mem_of_mem_take hz)) with h | h
          · exact h
          · exact absurd h hnb)
        go_wp2_with fail
        refine KB.out.mono ?_
        rintro e w3 ⟨rfl, n1, rfl⟩
        obtain ⟨wd, hwd⟩ : ∃ wd, wr.drewN n1 = wd := ⟨_, rfl⟩
        have hT2 : TOw wd ob tb sb m s2 X := by rw [← hwd]; exact HTT.out.drewN n1
        have hM2 : Mid base E w wd := by rw [← hwd]; exact HMM.out
        rw [hwd]
        clear hwd c0 c1 d0
        have c1 := hT2.o.cell 1
        simp at c1
        have d1 := hT2.y.cell (q + 1)
        rw [syC_get _ _ (by rw [HXl.out]; omega)] at d1
        have f1 := hT2.y.free (q + 1)
        have o4 := hT2.o.storeAway (p := ⟨sb, q + 1, none⟩) (by simpa using hos) (.int .i64 (x : Int))
        have t4 := hT2.t.storeAway (p := ⟨sb, q + 1, none⟩) (by simpa using hts) (.int .i64 (x : Int))
        have y4 := hT2.y.store (q + 1) (.int .i64 (x : Int))
        rw [syC_set, hE] at y4
        have m4 := hM2.store (p := ⟨sb, q + 1, none⟩) l3.1 l3.2 (.int .i64 (x : Int))
        clear hT2 hM2 hE
        go_wp2
        go_end0
        exact ⟨rfl, ⟨o4, t4, y4⟩, m4⟩
end Go.Proofs.Yteaohgipndmciaa
