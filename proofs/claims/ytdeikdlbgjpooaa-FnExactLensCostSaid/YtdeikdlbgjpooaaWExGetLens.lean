/- The walk of the exact law of GetLens (what is asked: MeetsF). -/
import Derived.Test.YtdeikdlbgjpooaaExA
import Derived.Test.YtdeikdlbgjpooaaC5P
namespace Go.Proofs.Ytdeikdlbgjpooaa
set_option linter.unusedVariables false
set_option linter.unusedSimpArgs false
open Go.RowKit Go.ChangeShapes Go.WideShapes Go.ChangeAt

/-- For all arguments in bounds the model and the program answer the same. -/
def MeetsGetLens : Prop := ∀ (s0 : ByteArray) (a0 : Int) (a1 : Int), s0.size ≤ 1048576 → -9223372036854775808 ≤ a0 → a0 ≤ 9223372036854775807 → -9223372036854775808 ≤ a1 → a1 ≤ 9223372036854775807 → ∃ (y0 : List Int) (t1 : ByteArray) (r1 : Int) (r2 : Bool), (y0.length ≤ 1048576 ∧ ∀ x ∈ y0, -9223372036854775808 ≤ x ∧ x ≤ 9223372036854775807) ∧ (∀ (W : World), Calls Try.prog 14 #[.agg #[.string s0, .int .i64 a0], .int .i64 a1] W fun e w' => ∃ v0, e = .returned (.tuple #[v0, .agg #[.string t1, .int .i64 r1], .bool r2]) ∧ w'.ownsRow W.heap.size 3 1 v0 y0.length (intsV y0) ∧ Below W.heap.size W w') ∧ (∀ (W : World), Calls Try.prog 16 #[.agg #[.string s0, .int .i64 a0], .int .i64 a1] W fun e w' => ∃ v0, e = .returned (.tuple #[v0, .agg #[.string t1, .int .i64 r1], .bool r2]) ∧ w'.ownsRow W.heap.size 3 1 v0 y0.length (intsV y0) ∧ Below W.heap.size W w')
set_option maxHeartbeats 4000000 in
set_option maxRecDepth 100000 in
theorem in_FnExactGetLens (w : World) (s0 : ByteArray) (a0 : Int) (hb0 : s0.size ≤ 1048576) (b0 : -9223372036854775808 ≤ a0) (d0 : a0 ≤ 9223372036854775807) (a1 : Int) (b1 : -9223372036854775808 ≤ a1) (d1 : a1 ≤ 9223372036854775807) (y0 : List Int) (t1 : ByteArray) (r1 : Int) (r2 : Bool)
    (m0 : Nat) (HY0 : Hid (y0.length = m0)) (hm0 : m0 ≤ 1048576) (HR0 : Hid (∀ x ∈ y0, -9223372036854775808 ≤ x ∧ x ≤ 9223372036854775807))
    (KS : Hid (∀ (W : World), Calls Try.prog 14 #[.agg #[.string s0, .int .i64 a0], .int .i64 a1] W fun e w' => ∃ v0, e = .returned (.tuple #[v0, .agg #[.string t1, .int .i64 r1], .bool r2]) ∧ w'.ownsRow W.heap.size 3 1 v0 m0 (intsV y0) ∧ Below W.heap.size W w'))
    (KI : Hid (∀ (W : World), Calls Try.prog 16 #[.agg #[.string s0, .int .i64 a0], .int .i64 a1] W fun e w' => ∃ v0, e = .returned (.tuple #[v0, .agg #[.string t1, .int .i64 r1], .bool r2]) ∧ w'.ownsRow W.heap.size 3 1 v0 m0 (intsV y0) ∧ Below W.heap.size W w')) :
    Calls Try.prog 5 #[.agg #[.string s0, .int .i64 a0], .int .i64 a1] w fun e w' => e = .returned (.bool true) ∧ Below w.heap.size w w' := by
  have hn0 : ¬ (1 : Int) + (m0 : Int) < 0 := by omega
  have hq0 : (1 : Int) + (m0 : Int) ≠ (1 : Int) + (m0 : Int) → False := fun h => h rfl
  go_enter Try.func5, Try.ntmps5
  obtain ⟨N1, hN1⟩ : ∃ N, N = (w.alloc (.cells #[.string s0, .int .i64 a0] 33)) := ⟨_, rfl⟩
  have hb1_ : Below w.heap.size w N1 := by rw [hN1]; exact (Below.refl _ _).alloc (Nat.le_refl _) _
  have HA : Hid (Has N1 w.heap.size 33 #[.string s0, .int .i64 a0]) := hidden (by rw [hN1]; exact Has.fresh _ _ _)
  have lHA := HA.out.lt
  go_wp2_with fail
  rw [← hN1]
  refine (szRd_ok s0 a0 1048576 N1 hb0 (Nat.le_refl _)).mono ?_
  rintro e W2 ⟨rfl, b2⟩
  clear hN1
  have B2 : Below w.heap.size w W2 := bel_then b2 hb1_.size hb1_
  have sB2 := b2.size
  have HA_2 := hidden (HA.out.below b2 HA.out.lt)
  clear HA
  clear b2
  have e2_HAa := HA_2.out.cell 0
  have e2_HAb := HA_2.out.cell 1
  simp at e2_HAa e2_HAb
  go_wp2_with fail
  refine (toRd_e s0 a0 W2).mono ?_
  rintro e W3 ⟨rfl, b3⟩
  clear e2_HAa e2_HAb
  have B3 : Below w.heap.size w W3 := bel_then b3 B2.size B2
  have sB3 := b3.size
  have HA_3 := hidden (HA_2.out.below b3 HA_2.out.lt)
  clear HA_2
  clear b3
  go_wp2_with fail
  refine (KS.out W3  ).mono ?_
  rintro e W4 ⟨v0_4, rfl, o0_4, b4⟩
  obtain ⟨gw0, cw0, rfl⟩ := own_form o0_4
  have B4 : Below w.heap.size w W4 := bel_then b4 B3.size B3
  have sB4 := b4.size
  have HA_4 := hidden (HA_3.out.below b4 HA_3.out.lt)
  clear HA_3
  have Yw0 := hidden o0_4
  have Qw0 := own_ranged o0_4
  clear o0_4
  clear b4
  have q5_HAa := HA_4.out.cell 0
  have q5_HAb := HA_4.out.cell 1
  have q5_HAl := HA_4.out.lt
  simp at q5_HAa q5_HAb
  have q5_HAn : ¬ w.heap.size = W4.heap.size := by omega
  obtain ⟨N5, hN5⟩ : ∃ N, N = (W4.alloc (.cells #[.string t1, .int .i64 r1] 35)) := ⟨_, rfl⟩
  have hb5_ : Below W4.heap.size W4 N5 := by rw [hN5]; exact (Below.refl _ _).alloc (Nat.le_refl _) _
  have Hw1 : Hid (Has N5 W4.heap.size 35 #[.string t1, .int .i64 r1]) := hidden (by rw [hN5]; exact Has.fresh _ _ _)
  have lHw1 := Hw1.out.lt
  have B5 : Below w.heap.size w N5 := bel_then hb5_ B4.size B4
  have sB5 := hb5_.size
  have HA_5 := hidden (HA_4.out.below hb5_ HA_4.out.lt)
  clear HA_4
  have Yw0_5 := hidden (own_bel Yw0.out hb5_)
  clear Yw0
  clear hb5_
  have e5_HAa := HA_5.out.cell 0
  have e5_HAb := HA_5.out.cell 1
  simp at e5_HAa e5_HAb
  go_wp2_with fail
  rw [← hN5]
  refine (toRd_e s0 a0 N5).mono ?_
  rintro e W6 ⟨rfl, b6⟩
  clear e5_HAa e5_HAb hN5 q5_HAa q5_HAb q5_HAl q5_HAn
  have B6 : Below w.heap.size w W6 := bel_then b6 B5.size B5
  have sB6 := b6.size
  have HA_6 := hidden (HA_5.out.below b6 HA_5.out.lt)
  clear HA_5
  have Yw0_6 := hidden (own_bel Yw0_5.out b6)
  clear Yw0_5
  have Hw1_6 := hidden (Hw1.out.below b6 Hw1.out.lt)
  clear Hw1
  clear b6
  go_wp2_with fail
  refine (KI.out W6  ).mono ?_
  rintro e W7 ⟨v0_7, rfl, o0_7, b7⟩
  obtain ⟨gg0, cg0, rfl⟩ := own_form o0_7
  have B7 : Below w.heap.size w W7 := bel_then b7 B6.size B6
  have sB7 := b7.size
  have HA_7 := hidden (HA_6.out.below b7 HA_6.out.lt)
  clear HA_6
  have Yw0_7 := hidden (own_bel Yw0_6.out b7)
  clear Yw0_6
  have Hw1_7 := hidden (Hw1_6.out.below b7 Hw1_6.out.lt)
  clear Hw1_6
  have Yg0 := hidden o0_7
  have Qg0 := own_ranged o0_7
  clear o0_7
  clear b7
  have q8_HAa := HA_7.out.cell 0
  have q8_HAb := HA_7.out.cell 1
  have q8_HAl := HA_7.out.lt
  simp at q8_HAa q8_HAb
  have q8_HAn : ¬ w.heap.size = W7.heap.size := by omega
  have q8_Hw1a := Hw1_7.out.cell 0
  have q8_Hw1b := Hw1_7.out.cell 1
  have q8_Hw1l := Hw1_7.out.lt
  simp at q8_Hw1a q8_Hw1b
  have q8_Hw1n : ¬ W4.heap.size = W7.heap.size := by omega
  obtain ⟨N8, hN8⟩ : ∃ N, N = (W7.alloc (.cells #[.string t1, .int .i64 r1] 35)) := ⟨_, rfl⟩
  have hb8_ : Below W7.heap.size W7 N8 := by rw [hN8]; exact (Below.refl _ _).alloc (Nat.le_refl _) _
  have Hg1 : Hid (Has N8 W7.heap.size 35 #[.string t1, .int .i64 r1]) := hidden (by rw [hN8]; exact Has.fresh _ _ _)
  have lHg1 := Hg1.out.lt
  have B8 : Below w.heap.size w N8 := bel_then hb8_ B7.size B7
  have sB8 := hb8_.size
  have HA_8 := hidden (HA_7.out.below hb8_ HA_7.out.lt)
  clear HA_7
  have Yw0_8 := hidden (own_bel Yw0_7.out hb8_)
  clear Yw0_7
  have Hw1_8 := hidden (Hw1_7.out.below hb8_ Hw1_7.out.lt)
  clear Hw1_7
  have Yg0_8 := hidden (own_bel Yg0.out hb8_)
  clear Yg0
  clear hb8_
  go_wp2_with fail
  rw [← hN8]
  refine (eq_e _ _ _ _ y0 N8 HY0.out (own_ints Yg0_8.out HR0.out hm0) (own_ints Yw0_8.out HR0.out hm0)).mono ?_
  rintro e W9 ⟨rfl, b9⟩
  clear hN8 q8_HAa q8_HAb q8_HAl q8_HAn q8_Hw1a q8_Hw1b q8_Hw1l q8_Hw1n
  have B9 : Below w.heap.size w W9 := bel_then b9 B8.size B8
  have sB9 := b9.size
  have HA_9 := hidden (HA_8.out.below b9 HA_8.out.lt)
  clear HA_8
  have Yw0_9 := hidden (own_bel Yw0_8.out b9)
  clear Yw0_8
  have Hw1_9 := hidden (Hw1_8.out.below b9 Hw1_8.out.lt)
  clear Hw1_8
  have Yg0_9 := hidden (own_bel Yg0_8.out b9)
  clear Yg0_8
  have Hg1_9 := hidden (Hg1.out.below b9 Hg1.out.lt)
  clear Hg1
  clear b9
  have e9_Hg1a := Hg1_9.out.cell 0
  have e9_Hg1b := Hg1_9.out.cell 1
  simp at e9_Hg1a e9_Hg1b
  have e9_Hw1a := Hw1_9.out.cell 0
  have e9_Hw1b := Hw1_9.out.cell 1
  simp at e9_Hw1a e9_Hw1b
  go_wp2_with fail
  refine (eqRd_e t1 r1 W9).mono ?_
  rintro e W10 ⟨rfl, b10⟩
  clear e9_Hg1a e9_Hg1b e9_Hw1a e9_Hw1b
  have B10 : Below w.heap.size w W10 := bel_then b10 B9.size B9
  have sB10 := b10.size
  have HA_10 := hidden (HA_9.out.below b10 HA_9.out.lt)
  clear HA_9
  have Yw0_10 := hidden (own_bel Yw0_9.out b10)
  clear Yw0_9
  have Hw1_10 := hidden (Hw1_9.out.below b10 Hw1_9.out.lt)
  clear Hw1_9
  have Yg0_10 := hidden (own_bel Yg0_9.out b10)
  clear Yg0_9
  have Hg1_10 := hidden (Hg1_9.out.below b10 Hg1_9.out.lt)
  clear Hg1_9
  clear b10
  go_wp2_with fail
  refine (mark_e (k := 1) _ y0 W10 Yg0_10.out hm0 (by omega) _ (by simp)).mono ?_
  rintro e W11 ⟨rfl, o11, gr11⟩
  have B11 : Below w.heap.size w W11 := bel_grown B10 gr11 Qg0 (by omega)
  have sB11 := gr11.size
  have HA_11 := hidden (HA_10.out.grown gr11 (ranged_box Qg0 (by omega)))
  clear HA_10
  have Yw0_11 := hidden (Yw0_10.out.kept gr11 (ranged_ne Qw0 Qg0 (by omega)))
  clear Yw0_10
  have Hw1_11 := hidden (Hw1_10.out.grown gr11 (ranged_box Qg0 (by omega)))
  clear Hw1_10
  have Yg0_11 := hidden o11
  clear Yg0_10
  have Hg1_11 := hidden (Hg1_10.out.grown gr11 (ranged_box Qg0 (by omega)))
  clear Hg1_10
  clear o11 gr11
  go_wp2_with fail
  refine (held_e _ W11 Yg0_11.out hm0).mono ?_
  rintro e _ ⟨rfl, rfl⟩
  have e11_HAa := HA_11.out.cell 0
  have e11_HAb := HA_11.out.cell 1
  simp at e11_HAa e11_HAb
  go_wp2_with fail
  refine (toRd_e s0 a0 W11).mono ?_
  rintro e W12 ⟨rfl, b12⟩
  clear e11_HAa e11_HAb
  have B12 : Below w.heap.size w W12 := bel_then b12 B11.size B11
  have sB12 := b12.size
  have HA_12 := hidden (HA_11.out.below b12 HA_11.out.lt)
  clear HA_11
  have Yw0_12 := hidden (own_bel Yw0_11.out b12)
  clear Yw0_11
  have Hw1_12 := hidden (Hw1_11.out.below b12 Hw1_11.out.lt)
  clear Hw1_11
  have Yg0_12 := hidden (own_bel Yg0_11.out b12)
  clear Yg0_11
  have Hg1_12 := hidden (Hg1_11.out.below b12 Hg1_11.out.lt)
  clear Hg1_11
  clear b12
  go_wp2_with fail
  refine (KI.out W12  ).mono ?_
  rintro e W13 ⟨v0_13, rfl, o0_13, b13⟩
  obtain ⟨gh0, ch0, rfl⟩ := own_form o0_13
  have B13 : Below w.heap.size w W13 := bel_then b13 B12.size B12
  have sB13 := b13.size
  have HA_13 := hidden (HA_12.out.below b13 HA_12.out.lt)
  clear HA_12
  have Yw0_13 := hidden (own_bel Yw0_12.out b13)
  clear Yw0_12
  have Hw1_13 := hidden (Hw1_12.out.below b13 Hw1_12.out.lt)
  clear Hw1_12
  have Yg0_13 := hidden (own_bel Yg0_12.out b13)
  clear Yg0_12
  have Hg1_13 := hidden (Hg1_12.out.below b13 Hg1_12.out.lt)
  clear Hg1_12
  have Yh0 := hidden o0_13
  have Qh0 := own_ranged o0_13
  clear o0_13
  clear b13
  have q14_HAa := HA_13.out.cell 0
  have q14_HAb := HA_13.out.cell 1
  have q14_HAl := HA_13.out.lt
  simp at q14_HAa q14_HAb
  have q14_HAn : ¬ w.heap.size = W13.heap.size := by omega
  have q14_Hw1a := Hw1_13.out.cell 0
  have q14_Hw1b := Hw1_13.out.cell 1
  have q14_Hw1l := Hw1_13.out.lt
  simp at q14_Hw1a q14_Hw1b
  have q14_Hw1n : ¬ W4.heap.size = W13.heap.size := by omega
  have q14_Hg1a := Hg1_13.out.cell 0
  have q14_Hg1b := Hg1_13.out.cell 1
  have q14_Hg1l := Hg1_13.out.lt
  simp at q14_Hg1a q14_Hg1b
  have q14_Hg1n : ¬ W7.heap.size = W13.heap.size := by omega
  obtain ⟨N14, hN14⟩ : ∃ N, N = (W13.alloc (.cells #[.string t1, .int .i64 r1] 35)) := ⟨_, rfl⟩
  have hb14_ : Below W13.heap.size W13 N14 := by rw [hN14]; exact (Below.refl _ _).alloc (Nat.le_refl _) _
  have Hh1 : Hid (Has N14 W13.heap.size 35 #[.string t1, .int .i64 r1]) := hidden (by rw [hN14]; exact Has.fresh _ _ _)
  have lHh1 := Hh1.out.lt
  have B14 : Below w.heap.size w N14 := bel_then hb14_ B13.size B13
  have sB14 := hb14_.size
  have HA_14 := hidden (HA_13.out.below hb14_ HA_13.out.lt)
  clear HA_13
  have Yw0_14 := hidden (own_bel Yw0_13.out hb14_)
  clear Yw0_13
  have Hw1_14 := hidden (Hw1_13.out.below hb14_ Hw1_13.out.lt)
  clear Hw1_13
  have Yg0_14 := hidden (own_bel Yg0_13.out hb14_)
  clear Yg0_13
  have Hg1_14 := hidden (Hg1_13.out.below hb14_ Hg1_13.out.lt)
  clear Hg1_13
  have Yh0_14 := hidden (own_bel Yh0.out hb14_)
  clear Yh0
  clear hb14_
  go_wp2_with fail
  rw [← hN14]
  refine (eq_e _ _ _ _ y0 N14 HY0.out (own_ints Yh0_14.out HR0.out hm0) (own_ints Yw0_14.out HR0.out hm0)).mono ?_
  rintro e W15 ⟨rfl, b15⟩
  clear hN14 q14_HAa q14_HAb q14_HAl q14_HAn q14_Hw1a q14_Hw1b q14_Hw1l q14_Hw1n q14_Hg1a q14_Hg1b q14_Hg1l q14_Hg1n
  have B15 : Below w.heap.size w W15 := bel_then b15 B14.size B14
  have sB15 := b15.size
  have HA_15 := hidden (HA_14.out.below b15 HA_14.out.lt)
  clear HA_14
  have Yw0_15 := hidden (own_bel Yw0_14.out b15)
  clear Yw0_14
  have Hw1_15 := hidden (Hw1_14.out.below b15 Hw1_14.out.lt)
  clear Hw1_14
  have Yg0_15 := hidden (own_bel Yg0_14.out b15)
  clear Yg0_14
  have Hg1_15 := hidden (Hg1_14.out.below b15 Hg1_14.out.lt)
  clear Hg1_14
  have Yh0_15 := hidden (own_bel Yh0_14.out b15)
  clear Yh0_14
  have Hh1_15 := hidden (Hh1.out.below b15 Hh1.out.lt)
  clear Hh1
  clear b15
  have e15_Hh1a := Hh1_15.out.cell 0
  have e15_Hh1b := Hh1_15.out.cell 1
  simp at e15_Hh1a e15_Hh1b
  have e15_Hw1a := Hw1_15.out.cell 0
  have e15_Hw1b := Hw1_15.out.cell 1
  simp at e15_Hw1a e15_Hw1b
  go_wp2_with fail
  refine (eqRd_e t1 r1 W15).mono ?_
  rintro e W16 ⟨rfl, b16⟩
  clear e15_Hh1a e15_Hh1b e15_Hw1a e15_Hw1b
  have B16 : Below w.heap.size w W16 := bel_then b16 B15.size B15
  have sB16 := b16.size
  have HA_16 := hidden (HA_15.out.below b16 HA_15.out.lt)
  clear HA_15
  have Yw0_16 := hidden (own_bel Yw0_15.out b16)
  clear Yw0_15
  have Hw1_16 := hidden (Hw1_15.out.below b16 Hw1_15.out.lt)
  clear Hw1_15
  have Yg0_16 := hidden (own_bel Yg0_15.out b16)
  clear Yg0_15
  have Hg1_16 := hidden (Hg1_15.out.below b16 Hg1_15.out.lt)
  clear Hg1_15
  have Yh0_16 := hidden (own_bel Yh0_15.out b16)
  clear Yh0_15
  have Hh1_16 := hidden (Hh1_15.out.below b16 Hh1_15.out.lt)
  clear Hh1_15
  clear b16
  go_wp2_with fail
  refine (held_e _ W16 Yg0_16.out hm0).mono ?_
  rintro e _ ⟨rfl, rfl⟩
  go_wp2
  go_ret
  exact ⟨rfl, B16⟩
set_option maxRecDepth 100000 in
theorem walk_FnExactGetLens (hM : MeetsGetLens) (w : World) (s0 : ByteArray) (a0 : Int) (w0 : s0.size ≤ maxLen) (b0 : -9223372036854775808 ≤ a0) (d0 : a0 ≤ 9223372036854775807) (a1 : Int) (b1 : -9223372036854775808 ≤ a1) (d1 : a1 ≤ 9223372036854775807) :
    Calls Try.prog 5 #[.agg #[.string s0, .int .i64 a0], .int .i64 a1] w fun e w' => e = .returned (.bool true) ∧ Below w.heap.size w w' := by
  by_cases hb0 : s0.size ≤ 1048576
  rotate_left
  · have hx : 1048576 < s0.size := by omega
    have c0 := (Has.fresh w 33 #[.string s0, .int .i64 a0]).cell 0
    have c1 := (Has.fresh w 33 #[.string s0, .int .i64 a0]).cell 1
    simp at c0 c1
    clear hM
    go_enter Try.func5, Try.ntmps5
    go_wp2_with fail
    refine (szRd_no s0 a0 1048576 _ hx w0 (Nat.le_refl _)).mono ?_
    rintro e w1 ⟨rfl, b1⟩
    go_wp2
    go_ret
    exact ⟨rfl, bel_then b1 (by simp) ((Below.refl _ _).alloc (Nat.le_refl _) _)⟩
  obtain ⟨y0, t1, r1, r2, ⟨hm0, hr0⟩, hs, hi⟩ := hM s0 a0 a1 hb0 b0 d0 b1 d1
  exact in_FnExactGetLens w s0 a0 hb0 b0 d0 a1 b1 d1 y0 t1 r1 r2 _ (hidden rfl) hm0 (hidden hr0) (hidden hs) (hidden hi)
end Go.Proofs.Ytdeikdlbgjpooaa
