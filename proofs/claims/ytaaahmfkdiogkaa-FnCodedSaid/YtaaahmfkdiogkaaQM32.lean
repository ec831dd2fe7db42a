/- Merged: WExChoose, WExTablesOk, WExPutSels, WExPutCoded, WExCodedBits, WExGetCoded, C12A, LGr, Dr12, I12R. -/
import Derived.Test.YtaaahmfkdiogkaaQM30
import Derived.Test.YtaaahmfkdiogkaaQM13
import Derived.Test.YtaaahmfkdiogkaaQM29
import Derived.Test.YtaaahmfkdiogkaaQM5
import Derived.Test.YtaaahmfkdiogkaaQM17
import Derived.Test.YtaaahmfkdiogkaaQM26
import Derived.Test.YtaaahmfkdiogkaaQM21
namespace Go.Proofs.Ytaaahmfkdiogkaa
set_option linter.unusedVariables false
set_option linter.unusedSimpArgs false
open Go.RowKit Go.ChangeShapes Go.WideShapes Go.ChangeAt

/-- For all arguments in bounds the model and the program answer the same. -/
def MeetsChoose : Prop := ∀ (z0 : List Int) (a1 : Int) (a2 : Int), z0.length ≤ 1048576 → (∀ x ∈ z0, -9223372036854775808 ≤ x ∧ x ≤ 9223372036854775807) → -9223372036854775808 ≤ a1 → a1 ≤ 9223372036854775807 → -9223372036854775808 ≤ a2 → a2 ≤ 9223372036854775807 → ∃ (y0 : List (List Int)) (y1 : List Int), (y0.length + sumT y0 y0.length ≤ 1048576 ∧ FitT y0) ∧ (y1.length ≤ 1048576 ∧ ∀ x ∈ y1, -9223372036854775808 ≤ x ∧ x ≤ 9223372036854775807) ∧ (∀ (W : World) (p0 : Addr) (c0 : Nat), Ints W W.heap.size (some p0) z0 → z0.length ≤ c0 → Calls Try.prog 16 #[.slice (some p0) z0.length c0, .int .i64 a1, .int .i64 a2] W fun e w' => ∃ v0 V0, ∃ v1, e = .returned (.tuple #[v0, v1]) ∧ OwnT w' W.heap.size w'.heap.size v0 V0 y0 ∧ w'.ownsRow W.heap.size 3 1 v1 y1.length (intsV y1) ∧ Hid (∀ u ∈ V0, v1.ownBlock = none ∨ v1.ownBlock ≠ u.ownBlock) ∧ Below W.heap.size W w') ∧ (∀ (W : World) (p0 : Addr) (c0 : Nat), Ints W W.heap.size (some p0) z0 → z0.length ≤ c0 → Calls Try.prog 18 #[.slice (some p0) z0.length c0, .int .i64 a1, .int .i64 a2] W fun e w' => ∃ v0 V0, ∃ v1, e = .returned (.tuple #[v0, v1]) ∧ OwnT w' W.heap.size w'.heap.size v0 V0 y0 ∧ w'.ownsRow W.heap.size 3 1 v1 y1.length (intsV y1) ∧ Hid (∀ u ∈ V0, v1.ownBlock = none ∨ v1.ownBlock ≠ u.ownBlock) ∧ Below W.heap.size W w')
set_option maxHeartbeats 4000000 in
set_option maxRecDepth 100000 in
theorem in_FnExactChoose (w : World) (a0 : Option Addr) (len0 cap0 : Nat) (z0 : List Int) (HI0 : Hid (Ints w w.heap.size a0 z0)) (HL0 : Hid (z0.length = len0)) (hb0 : len0 ≤ 1048576) (a1 : Int) (b1 : -9223372036854775808 ≤ a1) (d1 : a1 ≤ 9223372036854775807) (a2 : Int) (b2 : -9223372036854775808 ≤ a2) (d2 : a2 ≤ 9223372036854775807) (y0 : List (List Int)) (y1 : List Int)
    (m0 : Nat) (HY0 : Hid (y0.length = m0)) (hm0 : m0 ≤ 1048576) (HR0 : Hid (FitT y0)) (sy0 : Nat) (HS0 : Hid (sumT y0 y0.length = sy0)) (hs0 : sy0 ≤ 1048576)
    (m1 : Nat) (HY1 : Hid (y1.length = m1)) (hm1 : m1 ≤ 1048576) (HR1 : Hid (∀ x ∈ y1, -9223372036854775808 ≤ x ∧ x ≤ 9223372036854775807))
    (KS : Hid (∀ (W : World) (p0 : Addr) (c0 : Nat), Ints W W.heap.size (some p0) z0 → len0 ≤ c0 → Calls Try.prog 16 #[.slice (some p0) len0 c0, .int .i64 a1, .int .i64 a2] W fun e w' => ∃ v0 V0, ∃ v1, e = .returned (.tuple #[v0, v1]) ∧ OwnT w' W.heap.size w'.heap.size v0 V0 y0 ∧ w'.ownsRow W.heap.size 3 1 v1 m1 (intsV y1) ∧ Hid (∀ u ∈ V0, v1.ownBlock = none ∨ v1.ownBlock ≠ u.ownBlock) ∧ Below W.heap.size W w'))
    (KI : Hid (∀ (W : World) (p0 : Addr) (c0 : Nat), Ints W W.heap.size (some p0) z0 → len0 ≤ c0 → Calls Try.prog 18 #[.slice (some p0) len0 c0, .int .i64 a1, .int .i64 a2] W fun e w' => ∃ v0 V0, ∃ v1, e = .returned (.tuple #[v0, v1]) ∧ OwnT w' W.heap.size w'.heap.size v0 V0 y0 ∧ w'.ownsRow W.heap.size 3 1 v1 m1 (intsV y1) ∧ Hid (∀ u ∈ V0, v1.ownBlock = none ∨ v1.ownBlock ≠ u.ownBlock) ∧ Below W.heap.size W w')) :
    Calls Try.prog 4 #[.slice a0 len0 cap0, .int .i64 a1, .int .i64 a2] w fun e w' => e = .returned (.bool true) ∧ Below w.heap.size w w' := by
  have hg0 : ¬ (1048576 : Int) < (len0 : Int) := by omega
  have hn1 : ¬ (1 : Int) + (m1 : Int) < 0 := by omega
  have hk0 : ¬ (1 : Int) + (len0 : Int) < 0 := by omega
  have hq1 : (1 : Int) + (m1 : Int) ≠ (1 : Int) + (m1 : Int) → False := fun h => h rfl
  have hn0 : ¬ (1 : Int) + (sy0 : Int) < 0 := by omega
  have hnn : ¬ (1 : Int) + (sy0 : Int) + (m1 : Int) < 0 := by omega
  have hqq : (1 : Int) + (sy0 : Int) + (m1 : Int) ≠ (1 : Int) + (sy0 : Int) + (m1 : Int) → False := fun h => h rfl
  go_enter Try.func4, Try.ntmps4
  go_wp2_with fail
  refine (toInt_e a0 cap0 z0 w w HL0.out HI0.out (Below.refl w.heap.size w) hb0).mono ?_
  rintro e W1 ⟨g1, rfl, o1, b1⟩
  have B1 : Below w.heap.size w W1 := bel_then b1 (Below.refl w.heap.size w).size (Below.refl w.heap.size w)
  have sB1 := b1.size
  have X1 := hidden o1
  have Q1 := own_ranged o1
  clear o1 b1
  go_wp2_with fail
  refine (KS.out W1 _ _ (own_ints X1.out HI0.out.2.1 hb0) (Nat.le_refl _)).mono ?_
  rintro e W2 ⟨v0_2, Vw0, v1_2, rfl, o0_2, o1_2, apw, b2⟩
  obtain ⟨gw0, cw0, rfl, hcw0⟩ := o0_2.formM HY0.out
  obtain ⟨gw1, cw1, rfl⟩ := own_form o1_2
  have B2 : Below w.heap.size w W2 := bel_then b2 B1.size B1
  have sB2 := b2.size
  have X1_2 := hidden (own_bel X1.out b2)
  clear X1
  have Yw0 := hidden o0_2
  clear o0_2
  have Yw1 := hidden o1_2
  have Qw1 := own_ranged o1_2
  clear o1_2
  clear b2
  clear X1_2
  go_wp2_with fail
  refine (toInt_e a0 cap0 z0 w W2 HL0.out HI0.out B2 hb0).mono ?_
  rintro e W3 ⟨g3, rfl, o3, b3⟩
  have B3 : Below w.heap.size w W3 := bel_then b3 B2.size B2
  have sB3 := b3.size
  have Yw0_3 := hidden (Yw0.out.below b3)
  clear Yw0
  have Yw1_3 := hidden (own_bel Yw1.out b3)
  clear Yw1
  have X3 := hidden o3
  have Q3 := own_ranged o3
  clear o3 b3
  go_wp2_with fail
  refine (KI.out W3 _ _ (own_ints X3.out HI0.out.2.1 hb0) (Nat.le_refl _)).mono ?_
  rintro e W4 ⟨v0_4, Vg0, v1_4, rfl, o0_4, o1_4, apg, b4⟩
  obtain ⟨gg0, cg0, rfl, hcg0⟩ := o0_4.formM HY0.out
  obtain ⟨gg1, cg1, rfl⟩ := own_form o1_4
  have B4 : Below w.heap.size w W4 := bel_then b4 B3.size B3
  have sB4 := b4.size
  have Yw0_4 := hidden (Yw0_3.out.below b4)
  clear Yw0_3
  have Yw1_4 := hidden (own_bel Yw1_3.out b4)
  clear Yw1_3
  have X3_4 := hidden (own_bel X3.out b4)
  clear X3
  have Yg0 := hidden o0_4
  clear o0_4
  have Yg1 := hidden o1_4
  have Qg1 := own_ranged o1_4
  clear o1_4
  clear b4
  go_wp2_with fail
  refine (eqTab_e _ _ _ _ y0 W4 HY0.out (Yg0.out.tabs HR0.out (by rw [HY0.out]; exact hm0)) (Yw0_4.out.tabs HR0.out (by rw [HY0.out]; exact hm0))).mono ?_
  rintro e W5 ⟨rfl, b5⟩
  have B5 : Below w.heap.size w W5 := bel_then b5 B4.size B4
  have sB5 := b5.size
  have Yw0_5 := hidden (Yw0_4.out.below b5)
  clear Yw0_4
  have Yw1_5 := hidden (own_bel Yw1_4.out b5)
  clear Yw1_4
  have X3_5 := hidden (own_bel X3_4.out b5)
  clear X3_4
  have Yg0_5 := hidden (Yg0.out.below b5)
  clear Yg0
  have Yg1_5 := hidden (own_bel Yg1.out b5)
  clear Yg1
  clear b5
  go_wp2_with fail
  refine (eq_e _ _ _ _ y1 W5 HY1.out (own_ints Yg1_5.out HR1.out hm1) (own_ints Yw1_5.out HR1.out hm1)).mono ?_
  rintro e W6 ⟨rfl, b6⟩
  have B6 : Below w.heap.size w W6 := bel_then b6 B5.size B5
  have sB6 := b6.size
  have Yw0_6 := hidden (Yw0_5.out.below b6)
  clear Yw0_5
  have Yw1_6 := hidden (own_bel Yw1_5.out b6)
  clear Yw1_5
  have X3_6 := hidden (own_bel X3_5.out b6)
  clear X3_5
  have Yg0_6 := hidden (Yg0_5.out.below b6)
  clear Yg0_5
  have Yg1_6 := hidden (own_bel Yg1_5.out b6)
  clear Yg1_5
  clear b6
  go_wp2_with fail
  refine (toInt_e a0 cap0 z0 w W6 HL0.out HI0.out B6 hb0).mono ?_
  rintro e W7 ⟨g7, rfl, o7, b7⟩
  have B7 : Below w.heap.size w W7 := bel_then b7 B6.size B6
  have sB7 := b7.size
  have Yw0_7 := hidden (Yw0_6.out.below b7)
  clear Yw0_6
  have Yw1_7 := hidden (own_bel Yw1_6.out b7)
  clear Yw1_6
  have X3_7 := hidden (own_bel X3_6.out b7)
  clear X3_6
  have Yg0_7 := hidden (Yg0_6.out.below b7)
  clear Yg0_6
  have Yg1_7 := hidden (own_bel Yg1_6.out b7)
  clear Yg1_6
  have X7 := hidden o7
  have Q7 := own_ranged o7
  clear o7 b7
  go_wp2_with fail
  refine (eq_e _ _ _ _ z0 W7 HL0.out (own_ints X3_7.out HI0.out.2.1 hb0) (own_ints X7.out HI0.out.2.1 hb0)).mono ?_
  rintro e W8 ⟨rfl, b8⟩
  clear X7
  have B8 : Below w.heap.size w W8 := bel_then b8 B7.size B7
  have sB8 := b8.size
  have Yw0_8 := hidden (Yw0_7.out.below b8)
  clear Yw0_7
  have Yw1_8 := hidden (own_bel Yw1_7.out b8)
  clear Yw1_7
  have X3_8 := hidden (own_bel X3_7.out b8)
  clear X3_7
  have Yg0_8 := hidden (Yg0_7.out.below b8)
  clear Yg0_7
  have Yg1_8 := hidden (own_bel Yg1_7.out b8)
  clear Yg1_7
  clear b8
  go_wp2_with fail
  refine (mark_e (k := 1) _ z0 W8 X3_8.out hb0 (by omega) _ (by simp)).mono ?_
  rintro e W9 ⟨rfl, o9, gr9⟩
  have B9 : Below w.heap.size w W9 := bel_grown B8 gr9 Q3 (by omega)
  have sB9 := gr9.size
  have Yw0_9 := hidden (Yw0_8.out.keptR gr9 Q3 (by omega))
  clear Yw0_8
  have Yw1_9 := hidden (Yw1_8.out.kept gr9 (ranged_ne Qw1 Q3 (by omega)))
  clear Yw1_8
  have X3_9 := hidden o9
  clear X3_8
  have Yg0_9 := hidden (Yg0_8.out.keptR gr9 Q3 (by omega))
  clear Yg0_8
  have Yg1_9 := hidden (Yg1_8.out.kept gr9 (ranged_ne Qg1 Q3 (by omega)))
  clear Yg1_8
  clear o9 gr9
  clear X3_9
  go_wp2_with fail
  refine (eqTab_e _ _ _ _ y0 W9 HY0.out (Yg0_9.out.tabs HR0.out (by rw [HY0.out]; exact hm0)) (Yw0_9.out.tabs HR0.out (by rw [HY0.out]; exact hm0))).mono ?_
  rintro e W10 ⟨rfl, b10⟩
  have B10 : Below w.heap.size w W10 := bel_then b10 B9.size B9
  have sB10 := b10.size
  have Yw0_10 := hidden (Yw0_9.out.below b10)
  clear Yw0_9
  have Yw1_10 := hidden (own_bel Yw1_9.out b10)
  clear Yw1_9
  have Yg0_10 := hidden (Yg0_9.out.below b10)
  clear Yg0_9
  have Yg1_10 := hidden (own_bel Yg1_9.out b10)
  clear Yg1_9
  clear b10
  go_wp2_with fail
  refine (eq_e _ _ _ _ y1 W10 HY1.out (own_ints Yg1_10.out HR1.out hm1) (own_ints Yw1_10.out HR1.out hm1)).mono ?_
  rintro e W11 ⟨rfl, b11⟩
  have B11 : Below w.heap.size w W11 := bel_then b11 B10.size B10
  have sB11 := b11.size
  have Yw0_11 := hidden (Yw0_10.out.below b11)
  clear Yw0_10
  have Yw1_11 := hidden (own_bel Yw1_10.out b11)
  clear Yw1_10
  have Yg0_11 := hidden (Yg0_10.out.below b11)
  clear Yg0_10
  have Yg1_11 := hidden (own_bel Yg1_10.out b11)
  clear Yg1_10
  clear b11
  go_wp2_with fail
  refine (markTab_e (k := 1) _ _ _ _ y0 W11 Yg0_11.out (by rw [HY0.out]; exact hm0) HS0.out hs0 (by omega) _ (by simp)).mono ?_
  rintro e W12 ⟨rfl, o12, br12⟩
  have B12 : Below w.heap.size w W12 := bel_byrows B11 br12 (fun u hu q hq => by have := Yg0_11.out.rng u hu q hq; omega)
  have sB12 := br12.size
  have Yw0_12 := hidden (Yw0_11.out.byRows br12 Yg0_11.out.rng (by omega))
  have Yw1_12 := hidden (own_fit Yw1_11.out br12 Qw1 Yg0_11.out.rng (by omega))
  have Yg0_12 := hidden o12
  have Yg1_12 := hidden (own_byrows Yg1_11.out br12 apg.out)
  clear Yw0_11
  clear Yw1_11
  clear Yg0_11
  clear Yg1_11
  clear o12 br12
  go_wp2_with fail
  refine (mark_e (k := (1 + sy0)) _ y1 W12 Yg1_12.out hm1 (by omega) _ (by simp)).mono ?_
  rintro e W13 ⟨rfl, o13, gr13⟩
  have B13 : Below w.heap.size w W13 := bel_grown B12 gr13 Qg1 (by omega)
  have sB13 := gr13.size
  have Yw0_13 := hidden (Yw0_12.out.keptR gr13 Qg1 (by omega))
  clear Yw0_12
  have Yw1_13 := hidden (Yw1_12.out.kept gr13 (ranged_ne Qw1 Qg1 (by omega)))
  clear Yw1_12
  have Yg0_13 := hidden (Yg0_12.out.kept gr13 (apart_ty Yg0_12.out.own Yg1_12.out) (fun x hx => apart_sym (apg.out x hx)))
  clear Yg0_12
  have Yg1_13 := hidden o13
  clear Yg1_12
  clear o13 gr13
  go_wp2_with fail
  refine (heldTab_e (k := 1) _ _ _ _ y0 W13 Yg0_13.out (by rw [HY0.out]; exact hm0) HS0.out hs0 (by omega) _ (by simp)).mono ?_
  rintro e _ ⟨rfl, rfl⟩
  go_wp2_with fail
  refine (heldK_e (k := (1 + sy0)) _ W13 Yg1_13.out hm1 (by omega) _ (by simp)).mono ?_
  rintro e _ ⟨rfl, rfl⟩
  go_wp2_with fail
  refine (toInt_e a0 cap0 z0 w W13 HL0.out HI0.out B13 hb0).mono ?_
  rintro e W14 ⟨g14, rfl, o14, b14⟩
  have B14 : Below w.heap.size w W14 := bel_then b14 B13.size B13
  have sB14 := b14.size
  have Yw0_14 := hidden (Yw0_13.out.below b14)
  clear Yw0_13
  have Yw1_14 := hidden (own_bel Yw1_13.out b14)
  clear Yw1_13
  have Yg0_14 := hidden (Yg0_13.out.below b14)
  clear Yg0_13
  have Yg1_14 := hidden (own_bel Yg1_13.out b14)
  clear Yg1_13
  have X14 := hidden o14
  have Q14 := own_ranged o14
  clear o14 b14
  go_wp2_with fail
  refine (KI.out W14 _ _ (own_ints X14.out HI0.out.2.1 hb0) (Nat.le_refl _)).mono ?_
  rintro e W15 ⟨v0_15, Vh0, v1_15, rfl, o0_15, o1_15, aph, b15⟩
  obtain ⟨gh0, ch0, rfl, hch0⟩ := o0_15.formM HY0.out
  obtain ⟨gh1, ch1, rfl⟩ := own_form o1_15
  have B15 : Below w.heap.size w W15 := bel_then b15 B14.size B14
  have sB15 := b15.size
  have Yw0_15 := hidden (Yw0_14.out.below b15)
  clear Yw0_14
  have Yw1_15 := hidden (own_bel Yw1_14.out b15)
  clear Yw1_14
  have Yg0_15 := hidden (Yg0_14.out.below b15)
  clear Yg0_14
  have Yg1_15 := hidden (own_bel Yg1_14.out b15)
  clear Yg1_14
  have X14_15 := hidden (own_bel X14.out b15)
  clear X14
  have Yh0 := hidden o0_15
  clear o0_15
  have Yh1 := hidden o1_15
  have Qh1 := own_ranged o1_15
  clear o1_15
  clear b15
  clear X14_15
  go_wp2_with fail
  refine (eqTab_e _ _ _ _ y0 W15 HY0.out (Yh0.out.tabs HR0.out (by rw [HY0.out]; exact hm0)) (Yw0_15.out.tabs HR0.out (by rw [HY0.out]; exact hm0))).mono ?_
  rintro e W16 ⟨rfl, b16⟩
  have B16 : Below w.heap.size w W16 := bel_then b16 B15.size B15
  have sB16 := b16.size
  have Yw0_16 := hidden (Yw0_15.out.below b16)
  clear Yw0_15
  have Yw1_16 := hidden (own_bel Yw1_15.out b16)
  clear Yw1_15
  have Yg0_16 := hidden (Yg0_15.out.below b16)
  clear Yg0_15
  have Yg1_16 := hidden (own_bel Yg1_15.out b16)
  clear Yg1_15
  have Yh0_16 := hidden (Yh0.out.below b16)
  clear Yh0
  have Yh1_16 := hidden (own_bel Yh1.out b16)
  clear Yh1
  clear b16
  go_wp2_with fail
  refine (eq_e _ _ _ _ y1 W16 HY1.out (own_ints Yh1_16.out HR1.out hm1) (own_ints Yw1_16.out HR1.out hm1)).mono ?_
  rintro e W17 ⟨rfl, b17⟩
  have B17 : Below w.heap.size w W17 := bel_then b17 B16.size B16
  have sB17 := b17.size
  have Yw0_17 := hidden (Yw0_16.out.below b17)
  clear Yw0_16
  have Yw1_17 := hidden (own_bel Yw1_16.out b17)
  clear Yw1_16
  have Yg0_17 := hidden (Yg0_16.out.below b17)
  clear Yg0_16
  have Yg1_17 := hidden (own_bel Yg1_16.out b17)
  clear Yg1_16
  have Yh0_17 := hidden (Yh0_16.out.below b17)
  clear Yh0_16
  have Yh1_17 := hidden (own_bel Yh1_16.out b17)
  clear Yh1_16
  clear b17
  go_wp2_with fail
  refine (heldTab_e (k := 1) _ _ _ _ y0 W17 Yg0_17.out (by rw [HY0.out]; exact hm0) HS0.out hs0 (by omega) _ (by simp)).mono ?_
  rintro e _ ⟨rfl, rfl⟩
  go_wp2_with fail
  refine (heldK_e (k := (1 + sy0)) _ W17 Yg1_17.out hm1 (by omega) _ (by simp)).mono ?_
  rintro e _ ⟨rfl, rfl⟩
  go_wp2
  go_ret
  exact ⟨rfl, B17⟩
set_option maxRecDepth 100000 in
theorem walk_FnExactChoose (hM : MeetsChoose) (w : World) (a0 : Option Addr) (len0 cap0 : Nat) (z0 : List Int) (w0 : IsRow .i64 w a0 len0 cap0 z0) (a1 : Int) (b1 : -9223372036854775808 ≤ a1) (d1 : a1 ≤ 9223372036854775807) (a2 : Int) (b2 : -9223372036854775808 ≤ a2) (d2 : a2 ≤ 9223372036854775807) :
    Calls Try.prog 4 #[.slice a0 len0 cap0, .int .i64 a1, .int .i64 a2] w fun e w' => e = .returned (.bool true) ∧ Below w.heap.size w w' := by
  have hl0 := isrow_lenE w0
  by_cases hb0 : len0 ≤ 1048576
  rotate_left
  · have hx : (1048576 : Int) < (len0 : Int) := by omega
    clear hM
    go_enter Try.func4, Try.ntmps4
    go_wp2
    go_ret
    first | exact ⟨rfl, Below.refl _ _⟩ | exact ⟨rfl, (Below.refl _ _).alloc (Nat.le_refl _) _⟩
  obtain ⟨y0', hl0', hI0⟩ := Ints.ofRowE w0 hb0
  obtain ⟨y0, y1, ⟨hm0, hr0⟩, ⟨hm1, hr1⟩, hs, hi⟩ := hM y0' a1 a2 (by rw [hl0']; exact hb0) hI0.2.1 b1 d1 b2 d2
  rw [hl0'] at hs hi
  exact in_FnExactChoose w a0 len0 cap0 y0' (hidden hI0) (hidden hl0') hb0 a1 b1 d1 a2 b2 d2 y0 y1 _ (hidden rfl) (by omega) (hidden hr0) _ (hidden rfl) (by omega) _ (hidden rfl) hm1 (hidden hr1) (hidden hs) (hidden hi)
end Go.Proofs.Ytaaahmfkdiogkaa
namespace Go.Proofs.Ytaaahmfkdiogkaa
set_option linter.unusedVariables false
set_option linter.unusedSimpArgs false
open Go.RowKit Go.ChangeShapes Go.WideShapes Go.ChangeAt

/-- For all arguments in bounds the model and the program answer the same. -/
def MeetsTablesOk : Prop := ∀ (z0 : List (List Int)) (a1 : Int), z0.length + sumT z0 z0.length ≤ 1048576 → FitT z0 → -9223372036854775808 ≤ a1 → a1 ≤ 9223372036854775807 → ∃ (r0 : Bool), (∀ (W : World) (p0 : Addr) (c0 : Nat), Tabs W W.heap.size (some p0) z0 → z0.length ≤ c0 → Calls Try.prog 26 #[.slice (some p0) z0.length c0, .int .i64 a1] W fun e w' => e = .returned (.bool r0) ∧ Below W.heap.size W w') ∧ (∀ (W : World) (p0 : Addr) (c0 : Nat), Tabs W W.heap.size (some p0) z0 → z0.length ≤ c0 → Calls Try.prog 28 #[.slice (some p0) z0.length c0, .int .i64 a1] W fun e w' => e = .returned (.bool r0) ∧ Below W.heap.size W w')
set_option maxHeartbeats 4000000 in
set_option maxRecDepth 100000 in
theorem in_FnExactTablesOk (w : World) (a0 : Option Addr) (len0 cap0 : Nat) (z0 : List (List Int)) (HI0 : Hid (Tabs w w.heap.size a0 z0)) (HL0 : Hid (z0.length = len0)) (hb0 : len0 ≤ 1048576) (HF0 : Hid (FitT z0)) (su0 : Nat) (HU0 : Hid (sumT z0 z0.length = su0)) (hu0 : su0 ≤ 1048576) (zr0 : Nat) (KZ0 : Hid (∀ W, Below w.heap.size w W → Calls Try.prog 25 #[.slice a0 len0 cap0, .int .i64 1048576] W fun e w' => e = .returned (.int .i64 (zr0 : Int)) ∧ Below W.heap.size W w')) (a1 : Int) (b1 : -9223372036854775808 ≤ a1) (d1 : a1 ≤ 9223372036854775807) (r0 : Bool)
    (KS : Hid (∀ (W : World) (p0 : Addr) (c0 : Nat), Tabs W W.heap.size (some p0) z0 → len0 ≤ c0 → Calls Try.prog 26 #[.slice (some p0) len0 c0, .int .i64 a1] W fun e w' => e = .returned (.bool r0) ∧ Below W.heap.size W w'))
    (KI : Hid (∀ (W : World) (p0 : Addr) (c0 : Nat), Tabs W W.heap.size (some p0) z0 → len0 ≤ c0 → Calls Try.prog 28 #[.slice (some p0) len0 c0, .int .i64 a1] W fun e w' => e = .returned (.bool r0) ∧ Below W.heap.size W w')) :
    Calls Try.prog 5 #[.slice a0 len0 cap0, .int .i64 a1] w fun e w' => e = .returned (.bool true) ∧ Below w.heap.size w w' := by
  have hg0 : ¬ (zr0 : Int) < 0 := by omega
  have hk0 : ¬ (1 : Int) + (su0 : Int) < 0 := by omega
  go_enter Try.func5, Try.ntmps5
  go_wp2_with fail
  refine (KZ0.out w (Below.refl w.heap.size w)).mono ?_
  rintro e W1 ⟨rfl, b1⟩
  have B1 : Below w.heap.size w W1 := bel_then b1 (Below.refl w.heap.size w).size (Below.refl w.heap.size w)
  have sB1 := b1.size
  clear b1
  go_wp2_with fail
  refine (toTab_e a0 cap0 z0 w W1 HL0.out HI0.out B1 hb0 HF0.out).mono ?_
  rintro e W2 ⟨g2, V2, rfl, o2, b2⟩
  have B2 : Below w.heap.size w W2 := bel_then b2 B1.size B1
  have sB2 := b2.size
  have X2 := hidden o2
  clear o2 b2
  go_wp2_with fail
  refine (KS.out W2 _ _ (X2.out.tabs HF0.out (by rw [HL0.out]; exact hb0)) (Nat.le_refl _)).mono ?_
  rintro e W3 ⟨rfl, b3⟩
  have B3 : Below w.heap.size w W3 := bel_then b3 B2.size B2
  have sB3 := b3.size
  have X2_3 := hidden (X2.out.below b3)
  clear X2
  clear b3
  clear X2_3
  go_wp2_with fail
  refine (toTab_e a0 cap0 z0 w W3 HL0.out HI0.out B3 hb0 HF0.out).mono ?_
  rintro e W4 ⟨g4, V4, rfl, o4, b4⟩
  have B4 : Below w.heap.size w W4 := bel_then b4 B3.size B3
  have sB4 := b4.size
  have X4 := hidden o4
  clear o4 b4
  go_wp2_with fail
  refine (KI.out W4 _ _ (X4.out.tabs HF0.out (by rw [HL0.out]; exact hb0)) (Nat.le_refl _)).mono ?_
  rintro e W5 ⟨rfl, b5⟩
  have B5 : Below w.heap.size w W5 := bel_then b5 B4.size B4
  have sB5 := b5.size
  have X4_5 := hidden (X4.out.below b5)
  clear X4
  clear b5
  go_wp2_with fail
  refine (toTab_e a0 cap0 z0 w W5 HL0.out HI0.out B5 hb0 HF0.out).mono ?_
  rintro e W6 ⟨g6, V6, rfl, o6, b6⟩
  have B6 : Below w.heap.size w W6 := bel_then b6 B5.size B5
  have sB6 := b6.size
  have X4_6 := hidden (X4_5.out.below b6)
  clear X4_5
  have X6 := hidden o6
  clear o6 b6
  go_wp2_with fail
  refine (eqTab_e _ _ _ _ z0 W6 HL0.out (X4_6.out.tabs HF0.out (by rw [HL0.out]; exact hb0)) (X6.out.tabs HF0.out (by rw [HL0.out]; exact hb0))).mono ?_
  rintro e W7 ⟨rfl, b7⟩
  clear X6
  have B7 : Below w.heap.size w W7 := bel_then b7 B6.size B6
  have sB7 := b7.size
  have X4_7 := hidden (X4_6.out.below b7)
  clear X4_6
  clear b7
  go_wp2
  go_ret
  exact ⟨rfl, B7⟩
set_option maxRecDepth 100000 in
theorem walk_FnExactTablesOk (hM : MeetsTablesOk) (w : World) (a0 : Option Addr) (len0 cap0 : Nat) (R0 : Nat → Option Addr × Nat × Nat × List Int) (w0 : IsTabs w a0 len0 cap0 R0) (a1 : Int) (b1 : -9223372036854775808 ≤ a1) (d1 : a1 ≤ 9223372036854775807) :
    Calls Try.prog 5 #[.slice a0 len0 cap0, .int .i64 a1] w fun e w' => e = .returned (.bool true) ∧ Below w.heap.size w w' := by
  have hl0 := istabs_len w0
  by_cases hb0 : len0 + sumR R0 len0 ≤ 1048576
  rotate_left
  · have hrow := w0
    have KZ : Hid (∀ W, Below w.heap.size w W → Calls Try.prog 25 #[.slice a0 len0 cap0, .int .i64 1048576] W fun e w' => e = .returned (.int .i64 (-1)) ∧ Below W.heap.size W w') := hidden (fun W hW => by
      have := szTableS_any a0 len0 cap0 (1048576) R0 w W w0 hW (by omega)
      rw [if_neg hb0] at this
      exact this)
    clear hM hrow w0
    go_enter Try.func5, Try.ntmps5
    have bw1 := Below.refl w.heap.size w
    go_wp2_with fail
    refine (KZ.out _ bw1).mono ?_
    rintro e w2 ⟨rfl, b2⟩
    have bw2 := bel_then b2 bw1.size bw1
    go_wp2
    go_ret
    exact ⟨rfl, bw2⟩
  obtain ⟨y0', hl0', hI0, hs0⟩ := w0.tabs (by omega)
  have hsu0 : sumT y0' y0'.length = sumR R0 len0 := by rw [hl0']; exact sumT_sumR hs0 _ (Nat.le_refl _)
  have hF0 : FitT y0' := hI0.range (fun i hi => by have := sumT_one y0' hi; omega)
  obtain ⟨r0, hs, hi⟩ := hM y0' a1 (by rw [hsu0, hl0']; omega) hF0 b1 d1
  rw [hl0'] at hs hi
  exact in_FnExactTablesOk w a0 len0 cap0 y0' (hidden hI0) (hidden hl0') (by omega) (hidden hF0) _ (hidden rfl) (by rw [hsu0]; omega) _ (hidden (fun W hW => by have := szTableS_any a0 len0 cap0 (1048576) R0 w W w0 hW (by omega); rw [if_pos hb0] at this; exact this)) a1 b1 d1 r0  (hidden hs) (hidden hi)
end Go.Proofs.Ytaaahmfkdiogkaa
namespace Go.Proofs.Ytaaahmfkdiogkaa
set_option linter.unusedVariables false
set_option linter.unusedSimpArgs false
open Go.RowKit Go.ChangeShapes Go.WideShapes Go.ChangeAt

/-- For all arguments in bounds the model and the program answer the same. -/
def MeetsPutSels : Prop := ∀ (z0 : List Int) (a1 : Int), z0.length ≤ 1048576 → (∀ x ∈ z0, -9223372036854775808 ≤ x ∧ x ≤ 9223372036854775807) → -9223372036854775808 ≤ a1 → a1 ≤ 9223372036854775807 → ∃ (t0 : ByteArray) (r0 : Int) (r1 : Bool), (∀ (W : World) (p0 : Addr) (c0 : Nat), Ints W W.heap.size (some p0) z0 → z0.length ≤ c0 → Calls Try.prog 29 #[.slice (some p0) z0.length c0, .int .i64 a1] W fun e w' => e = .returned (.tuple #[.agg #[.string t0, .int .i64 r0], .bool r1]) ∧ Below W.heap.size W w') ∧ (∀ (W : World) (p0 : Addr) (c0 : Nat), Ints W W.heap.size (some p0) z0 → z0.length ≤ c0 → Calls Try.prog 30 #[.slice (some p0) z0.length c0, .int .i64 a1] W fun e w' => e = .returned (.tuple #[.agg #[.string t0, .int .i64 r0], .bool r1]) ∧ Below W.heap.size W w')
set_option maxHeartbeats 4000000 in
set_option maxRecDepth 100000 in
theorem in_FnExactPutSels (w : World) (a0 : Option Addr) (len0 cap0 : Nat) (z0 : List Int) (HI0 : Hid (Ints w w.heap.size a0 z0)) (HL0 : Hid (z0.length = len0)) (hb0 : len0 ≤ 1048576) (a1 : Int) (b1 : -9223372036854775808 ≤ a1) (d1 : a1 ≤ 9223372036854775807) (t0 : ByteArray) (r0 : Int) (r1 : Bool)
    (KS : Hid (∀ (W : World) (p0 : Addr) (c0 : Nat), Ints W W.heap.size (some p0) z0 → len0 ≤ c0 → Calls Try.prog 29 #[.slice (some p0) len0 c0, .int .i64 a1] W fun e w' => e = .returned (.tuple #[.agg #[.string t0, .int .i64 r0], .bool r1]) ∧ Below W.heap.size W w'))
    (KI : Hid (∀ (W : World) (p0 : Addr) (c0 : Nat), Ints W W.heap.size (some p0) z0 → len0 ≤ c0 → Calls Try.prog 30 #[.slice (some p0) len0 c0, .int .i64 a1] W fun e w' => e = .returned (.tuple #[.agg #[.string t0, .int .i64 r0], .bool r1]) ∧ Below W.heap.size W w')) :
    Calls Try.prog 6 #[.slice a0 len0 cap0, .int .i64 a1] w fun e w' => e = .returned (.bool true) ∧ Below w.heap.size w w' := by
  have hg0 : ¬ (1048576 : Int) < (len0 : Int) := by omega
  have hk0 : ¬ (1 : Int) + (len0 : Int) < 0 := by omega
  go_enter Try.func6, Try.ntmps6
  go_wp2_with fail
  refine (toInt_e a0 cap0 z0 w w HL0.out HI0.out (Below.refl w.heap.size w) hb0).mono ?_
  rintro e W1 ⟨g1, rfl, o1, b1⟩
  have B1 : Below w.heap.size w W1 := bel_then b1 (Below.refl w.heap.size w).size (Below.refl w.heap.size w)
  have sB1 := b1.size
  have X1 := hidden o1
  have Q1 := own_ranged o1
  clear o1 b1
  go_wp2_with fail
  refine (KS.out W1 _ _ (own_ints X1.out HI0.out.2.1 hb0) (Nat.le_refl _)).mono ?_
  rintro e W2 ⟨rfl, b2⟩
  have B2 : Below w.heap.size w W2 := bel_then b2 B1.size B1
  have sB2 := b2.size
  have X1_2 := hidden (own_bel X1.out b2)
  clear X1
  clear b2
  obtain ⟨N3, hN3⟩ : ∃ N, N = (W2.alloc (.cells #[.string t0, .int .i64 r0] 40)) := ⟨_, rfl⟩
  have hb3_ : Below W2.heap.size W2 N3 := by rw [hN3]; exact (Below.refl _ _).alloc (Nat.le_refl _) _
  have Hw0 : Hid (Has N3 W2.heap.size 40 #[.string t0, .int .i64 r0]) := hidden (by rw [hN3]; exact Has.fresh _ _ _)
  have lHw0 := Hw0.out.lt
  have B3 : Below w.heap.size w N3 := bel_then hb3_ B2.size B2
  have sB3 := hb3_.size
  have X1_3 := hidden (own_bel X1_2.out hb3_)
  clear X1_2
  clear hb3_
  clear X1_3
  go_wp2_with fail
  rw [← hN3]
  refine (toInt_e a0 cap0 z0 w N3 HL0.out HI0.out B3 hb0).mono ?_
  rintro e W4 ⟨g4, rfl, o4, b4⟩
  clear hN3
  have B4 : Below w.heap.size w W4 := bel_then b4 B3.size B3
  have sB4 := b4.size
  have Hw0_4 := hidden (Hw0.out.below b4 Hw0.out.lt)
  clear Hw0
  have X4 := hidden o4
  have Q4 := own_ranged o4
  clear o4 b4
  go_wp2_with fail
  refine (KI.out W4 _ _ (own_ints X4.out HI0.out.2.1 hb0) (Nat.le_refl _)).mono ?_
  rintro e W5 ⟨rfl, b5⟩
  have B5 : Below w.heap.size w W5 := bel_then b5 B4.size B4
  have sB5 := b5.size
  have Hw0_5 := hidden (Hw0_4.out.below b5 Hw0_4.out.lt)
  clear Hw0_4
  have X4_5 := hidden (own_bel X4.out b5)
  clear X4
  clear b5
  have q6_Hw0a := Hw0_5.out.cell 0
  have q6_Hw0b := Hw0_5.out.cell 1
  have q6_Hw0l := Hw0_5.out.lt
  simp at q6_Hw0a q6_Hw0b
  have q6_Hw0n : ¬ W2.heap.size = W5.heap.size := by omega
  obtain ⟨N6, hN6⟩ : ∃ N, N = (W5.alloc (.cells #[.string t0, .int .i64 r0] 40)) := ⟨_, rfl⟩
  have hb6_ : Below W5.heap.size W5 N6 := by rw [hN6]; exact (Below.refl _ _).alloc (Nat.le_refl _) _
  have Hg0 : Hid (Has N6 W5.heap.size 40 #[.string t0, .int .i64 r0]) := hidden (by rw [hN6]; exact Has.fresh _ _ _)
  have lHg0 := Hg0.out.lt
  have B6 : Below w.heap.size w N6 := bel_then hb6_ B5.size B5
  have sB6 := hb6_.size
  have Hw0_6 := hidden (Hw0_5.out.below hb6_ Hw0_5.out.lt)
  clear Hw0_5
  have X4_6 := hidden (own_bel X4_5.out hb6_)
  clear X4_5
  clear hb6_
  have e6_Hg0a := Hg0.out.cell 0
  have e6_Hg0b := Hg0.out.cell 1
  simp at e6_Hg0a e6_Hg0b
  have e6_Hw0a := Hw0_6.out.cell 0
  have e6_Hw0b := Hw0_6.out.cell 1
  simp at e6_Hw0a e6_Hw0b
  go_wp2_with fail
  rw [← hN6]
  refine (eqBits_e t0 r0 N6).mono ?_
  rintro e W7 ⟨rfl, b7⟩
  clear e6_Hg0a e6_Hg0b e6_Hw0a e6_Hw0b hN6 q6_Hw0a q6_Hw0b q6_Hw0l q6_Hw0n
  have B7 : Below w.heap.size w W7 := bel_then b7 B6.size B6
  have sB7 := b7.size
  have Hw0_7 := hidden (Hw0_6.out.below b7 Hw0_6.out.lt)
  clear Hw0_6
  have X4_7 := hidden (own_bel X4_6.out b7)
  clear X4_6
  have Hg0_7 := hidden (Hg0.out.below b7 Hg0.out.lt)
  clear Hg0
  clear b7
  go_wp2_with fail
  refine (toInt_e a0 cap0 z0 w W7 HL0.out HI0.out B7 hb0).mono ?_
  rintro e W8 ⟨g8, rfl, o8, b8⟩
  have B8 : Below w.heap.size w W8 := bel_then b8 B7.size B7
  have sB8 := b8.size
  have Hw0_8 := hidden (Hw0_7.out.below b8 Hw0_7.out.lt)
  clear Hw0_7
  have X4_8 := hidden (own_bel X4_7.out b8)
  clear X4_7
  have Hg0_8 := hidden (Hg0_7.out.below b8 Hg0_7.out.lt)
  clear Hg0_7
  have X8 := hidden o8
  have Q8 := own_ranged o8
  clear o8 b8
  go_wp2_with fail
  refine (eq_e _ _ _ _ z0 W8 HL0.out (own_ints X4_8.out HI0.out.2.1 hb0) (own_ints X8.out HI0.out.2.1 hb0)).mono ?_
  rintro e W9 ⟨rfl, b9⟩
  clear X8
  have B9 : Below w.heap.size w W9 := bel_then b9 B8.size B8
  have sB9 := b9.size
  have Hw0_9 := hidden (Hw0_8.out.below b9 Hw0_8.out.lt)
  clear Hw0_8
  have X4_9 := hidden (own_bel X4_8.out b9)
  clear X4_8
  have Hg0_9 := hidden (Hg0_8.out.below b9 Hg0_8.out.lt)
  clear Hg0_8
  clear b9
  go_wp2
  go_ret
  exact ⟨rfl, B9⟩
set_option maxRecDepth 100000 in
theorem walk_FnExactPutSels (hM : MeetsPutSels) (w : World) (a0 : Option Addr) (len0 cap0 : Nat) (z0 : List Int) (w0 : IsRow .i64 w a0 len0 cap0 z0) (a1 : Int) (b1 : -9223372036854775808 ≤ a1) (d1 : a1 ≤ 9223372036854775807) :
    Calls Try.prog 6 #[.slice a0 len0 cap0, .int .i64 a1] w fun e w' => e = .returned (.bool true) ∧ Below w.heap.size w w' := by
  have hl0 := isrow_lenE w0
  by_cases hb0 : len0 ≤ 1048576
  rotate_left
  · have hx : (1048576 : Int) < (len0 : Int) := by omega
    clear hM
    go_enter Try.func6, Try.ntmps6
    go_wp2
    go_ret
    first | exact ⟨rfl, Below.refl _ _⟩ | exact ⟨rfl, (Below.refl _ _).alloc (Nat.le_refl _) _⟩
  obtain ⟨y0', hl0', hI0⟩ := Ints.ofRowE w0 hb0
  obtain ⟨t0, r0, r1, hs, hi⟩ := hM y0' a1 (by rw [hl0']; exact hb0) hI0.2.1 b1 d1
  rw [hl0'] at hs hi
  exact in_FnExactPutSels w a0 len0 cap0 y0' (hidden hI0) (hidden hl0') hb0 a1 b1 d1 t0 r0 r1  (hidden hs) (hidden hi)
end Go.Proofs.Ytaaahmfkdiogkaa
namespace Go.Proofs.Ytaaahmfkdiogkaa
set_option linter.unusedVariables false
set_option linter.unusedSimpArgs false
open Go.RowKit Go.ChangeShapes Go.WideShapes Go.ChangeAt

/-- For all arguments in bounds the model and the program answer the same. -/
def MeetsPutCoded : Prop := ∀ (z0 : List Int) (z1 : List (List Int)) (z2 : List Int), z0.length ≤ 1048576 → (∀ x ∈ z0, -9223372036854775808 ≤ x ∧ x ≤ 9223372036854775807) → z1.length + sumT z1 z1.length ≤ 1048576 → FitT z1 → z2.length ≤ 1048576 → (∀ x ∈ z2, -9223372036854775808 ≤ x ∧ x ≤ 9223372036854775807) → ∃ (t0 : ByteArray) (r0 : Int) (r1 : Bool), (∀ (W : World) (p0 : Addr) (c0 : Nat) (p1 : Addr) (c1 : Nat) (p2 : Addr) (c2 : Nat), Ints W W.heap.size (some p0) z0 → z0.length ≤ c0 → Tabs W W.heap.size (some p1) z1 → z1.length ≤ c1 → Ints W W.heap.size (some p2) z2 → z2.length ≤ c2 → Calls Try.prog 37 #[.slice (some p0) z0.length c0, .slice (some p1) z1.length c1, .slice (some p2) z2.length c2] W fun e w' => e = .returned (.tuple #[.agg #[.string t0, .int .i64 r0], .bool r1]) ∧ Below W.heap.size W w') ∧ (∀ (W : World) (p0 : Addr) (c0 : Nat) (p1 : Addr) (c1 : Nat) (p2 : Addr) (c2 : Nat), Ints W W.heap.size (some p0) z0 → z0.length ≤ c0 → Tabs W W.heap.size (some p1) z1 → z1.length ≤ c1 → Ints W W.heap.size (some p2) z2 → z2.length ≤ c2 → Calls Try.prog 38 #[.slice (some p0) z0.length c0, .slice (some p1) z1.length c1, .slice (some p2) z2.length c2] W fun e w' => e = .returned (.tuple #[.agg #[.string t0, .int .i64 r0], .bool r1]) ∧ Below W.heap.size W w')
set_option maxHeartbeats 4000000 in
set_option maxRecDepth 100000 in
theorem in_FnExactPutCoded (w : World) (a0 : Option Addr) (len0 cap0 : Nat) (z0 : List Int) (HI0 : Hid (Ints w w.heap.size a0 z0)) (HL0 : Hid (z0.length = len0)) (hb0 : len0 ≤ 1048576) (a1 : Option Addr) (len1 cap1 : Nat) (z1 : List (List Int)) (HI1 : Hid (Tabs w w.heap.size a1 z1)) (HL1 : Hid (z1.length = len1)) (hb1 : len1 ≤ 1048576) (HF1 : Hid (FitT z1)) (su1 : Nat) (HU1 : Hid (sumT z1 z1.length = su1)) (hu1 : su1 ≤ 1048576) (zr1 : Nat) (KZ1 : Hid (∀ W, Below w.heap.size w W → Calls Try.prog 25 #[.slice a1 len1 cap1, .int .i64 1048576] W fun e w' => e = .returned (.int .i64 (zr1 : Int)) ∧ Below W.heap.size W w')) (a2 : Option Addr) (len2 cap2 : Nat) (z2 : List Int) (HI2 : Hid (Ints w w.heap.size a2 z2)) (HL2 : Hid (z2.length = len2)) (hb2 : len2 ≤ 1048576) (t0 : ByteArray) (r0 : Int) (r1 : Bool)
    (KS : Hid (∀ (W : World) (p0 : Addr) (c0 : Nat) (p1 : Addr) (c1 : Nat) (p2 : Addr) (c2 : Nat), Ints W W.heap.size (some p0) z0 → len0 ≤ c0 → Tabs W W.heap.size (some p1) z1 → len1 ≤ c1 → Ints W W.heap.size (some p2) z2 → len2 ≤ c2 → Calls Try.prog 37 #[.slice (some p0) len0 c0, .slice (some p1) len1 c1, .slice (some p2) len2 c2] W fun e w' => e = .returned (.tuple #[.agg #[.string t0, .int .i64 r0], .bool r1]) ∧ Below W.heap.size W w'))
    (KI : Hid (∀ (W : World) (p0 : Addr) (c0 : Nat) (p1 : Addr) (c1 : Nat) (p2 : Addr) (c2 : Nat), Ints W W.heap.size (some p0) z0 → len0 ≤ c0 → Tabs W W.heap.size (some p1) z1 → len1 ≤ c1 → Ints W W.heap.size (some p2) z2 → len2 ≤ c2 → Calls Try.prog 38 #[.slice (some p0) len0 c0, .slice (some p1) len1 c1, .slice (some p2) len2 c2] W fun e w' => e = .returned (.tuple #[.agg #[.string t0, .int .i64 r0], .bool r1]) ∧ Below W.heap.size W w')) :
    Calls Try.prog 8 #[.slice a0 len0 cap0, .slice a1 len1 cap1, .slice a2 len2 cap2] w fun e w' => e = .returned (.bool true) ∧ Below w.heap.size w w' := by
  have hg0 : ¬ (1048576 : Int) < (len0 : Int) := by omega
  have hg1 : ¬ (zr1 : Int) < 0 := by omega
  have hg2 : ¬ (1048576 : Int) < (len2 : Int) := by omega
  have hk0 : ¬ (1 : Int) + (len0 : Int) < 0 := by omega
  have hk1 : ¬ (1 : Int) + (len0 : Int) + (su1 : Int) < 0 := by omega
  have hk2 : ¬ (1 : Int) + (len0 : Int) + (su1 : Int) + (len2 : Int) < 0 := by omega
  go_enter Try.func8, Try.ntmps8
  go_wp2_with fail
  refine (KZ1.out w (Below.refl w.heap.size w)).mono ?_
  rintro e W1 ⟨rfl, b1⟩
  have B1 : Below w.heap.size w W1 := bel_then b1 (Below.refl w.heap.size w).size (Below.refl w.heap.size w)
  have sB1 := b1.size
  clear b1
  go_wp2_with fail
  refine (toInt_e a0 cap0 z0 w W1 HL0.out HI0.out B1 hb0).mono ?_
  rintro e W2 ⟨g2, rfl, o2, b2⟩
  have B2 : Below w.heap.size w W2 := bel_then b2 B1.size B1
  have sB2 := b2.size
  have X2 := hidden o2
  have Q2 := own_ranged o2
  clear o2 b2
  go_wp2_with fail
  refine (toTab_e a1 cap1 z1 w W2 HL1.out HI1.out B2 hb1 HF1.out).mono ?_
  rintro e W3 ⟨g3, V3, rfl, o3, b3⟩
  have B3 : Below w.heap.size w W3 := bel_then b3 B2.size B2
  have sB3 := b3.size
  have X2_3 := hidden (own_bel X2.out b3)
  clear X2
  have X3 := hidden o3
  clear o3 b3
  go_wp2_with fail
  refine (toInt_e a2 cap2 z2 w W3 HL2.out HI2.out B3 hb2).mono ?_
  rintro e W4 ⟨g4, rfl, o4, b4⟩
  have B4 : Below w.heap.size w W4 := bel_then b4 B3.size B3
  have sB4 := b4.size
  have X2_4 := hidden (own_bel X2_3.out b4)
  clear X2_3
  have X3_4 := hidden (X3.out.below b4)
  clear X3
  have X4 := hidden o4
  have Q4 := own_ranged o4
  clear o4 b4
  go_wp2_with fail
  refine (KS.out W4 _ _ _ _ _ _ (own_ints X2_4.out HI0.out.2.1 hb0) (Nat.le_refl _) (X3_4.out.tabs HF1.out (by rw [HL1.out]; exact hb1)) (Nat.le_refl _) (own_ints X4.out HI2.out.2.1 hb2) (Nat.le_refl _)).mono ?_
  rintro e W5 ⟨rfl, b5⟩
  have B5 : Below w.heap.size w W5 := bel_then b5 B4.size B4
  have sB5 := b5.size
  have X2_5 := hidden (own_bel X2_4.out b5)
  clear X2_4
  have X3_5 := hidden (X3_4.out.below b5)
  clear X3_4
  have X4_5 := hidden (own_bel X4.out b5)
  clear X4
  clear b5
  obtain ⟨N6, hN6⟩ : ∃ N, N = (W5.alloc (.cells #[.string t0, .int .i64 r0] 40)) := ⟨_, rfl⟩
  have hb6_ : Below W5.heap.size W5 N6 := by rw [hN6]; exact (Below.refl _ _).alloc (Nat.le_refl _) _
  have Hw0 : Hid (Has N6 W5.heap.size 40 #[.string t0, .int .i64 r0]) := hidden (by rw [hN6]; exact Has.fresh _ _ _)
  have lHw0 := Hw0.out.lt
  have B6 : Below w.heap.size w N6 := bel_then hb6_ B5.size B5
  have sB6 := hb6_.size
  have X2_6 := hidden (own_bel X2_5.out hb6_)
  clear X2_5
  have X3_6 := hidden (X3_5.out.below hb6_)
  clear X3_5
  have X4_6 := hidden (own_bel X4_5.out hb6_)
  clear X4_5
  clear hb6_
  clear X2_6
  clear X3_6
  clear X4_6
  go_wp2_with fail
  rw [← hN6]
  refine (toInt_e a0 cap0 z0 w N6 HL0.out HI0.out B6 hb0).mono ?_
  rintro e W7 ⟨g7, rfl, o7, b7⟩
  clear hN6
  have B7 : Below w.heap.size w W7 := bel_then b7 B6.size B6
  have sB7 := b7.size
  have Hw0_7 := hidden (Hw0.out.below b7 Hw0.out.lt)
  clear Hw0
  have X7 := hidden o7
  have Q7 := own_ranged o7
  clear o7 b7
  go_wp2_with fail
  refine (toTab_e a1 cap1 z1 w W7 HL1.out HI1.out B7 hb1 HF1.out).mono ?_
  rintro e W8 ⟨g8, V8, rfl, o8, b8⟩
  have B8 : Below w.heap.size w W8 := bel_then b8 B7.size B7
  have sB8 := b8.size
  have Hw0_8 := hidden (Hw0_7.out.below b8 Hw0_7.out.lt)
  clear Hw0_7
  have X7_8 := hidden (own_bel X7.out b8)
  clear X7
  have X8 := hidden o8
  clear o8 b8
  go_wp2_with fail
  refine (toInt_e a2 cap2 z2 w W8 HL2.out HI2.out B8 hb2).mono ?_
  rintro e W9 ⟨g9, rfl, o9, b9⟩
  have B9 : Below w.heap.size w W9 := bel_then b9 B8.size B8
  have sB9 := b9.size
  have Hw0_9 := hidden (Hw0_8.out.below b9 Hw0_8.out.lt)
  clear Hw0_8
  have X7_9 := hidden (own_bel X7_8.out b9)
  clear X7_8
  have X8_9 := hidden (X8.out.below b9)
  clear X8
  have X9 := hidden o9
  have Q9 := own_ranged o9
  clear o9 b9
  go_wp2_with fail
  refine (KI.out W9 _ _ _ _ _ _ (own_ints X7_9.out HI0.out.2.1 hb0) (Nat.le_refl _) (X8_9.out.tabs HF1.out (by rw [HL1.out]; exact hb1)) (Nat.le_refl _) (own_ints X9.out HI2.out.2.1 hb2) (Nat.le_refl _)).mono ?_
  rintro e W10 ⟨rfl, b10⟩
  have B10 : Below w.heap.size w W10 := bel_then b10 B9.size B9
  have sB10 := b10.size
  have Hw0_10 := hidden (Hw0_9.out.below b10 Hw0_9.out.lt)
  clear Hw0_9
  have X7_10 := hidden (own_bel X7_9.out b10)
  clear X7_9
  have X8_10 := hidden (X8_9.out.below b10)
  clear X8_9
  have X9_10 := hidden (own_bel X9.out b10)
  clear X9
  clear b10
  have q11_Hw0a := Hw0_10.out.cell 0
  have q11_Hw0b := Hw0_10.out.cell 1
  have q11_Hw0l := Hw0_10.out.lt
  simp at q11_Hw0a q11_Hw0b
  have q11_Hw0n : ¬ W5.heap.size = W10.heap.size := by omega
  obtain ⟨N11, hN11⟩ : ∃ N, N = (W10.alloc (.cells #[.string t0, .int .i64 r0] 40)) := ⟨_, rfl⟩
  have hb11_ : Below W10.heap.size W10 N11 := by rw [hN11]; exact (Below.refl _ _).alloc (Nat.le_refl _) _
  have Hg0 : Hid (Has N11 W10.heap.size 40 #[.string t0, .int .i64 r0]) := hidden (by rw [hN11]; exact Has.fresh _ _ _)
  have lHg0 := Hg0.out.lt
  have B11 : Below w.heap.size w N11 := bel_then hb11_ B10.size B10
  have sB11 := hb11_.size
  have Hw0_11 := hidden (Hw0_10.out.below hb11_ Hw0_10.out.lt)
  clear Hw0_10
  have X7_11 := hidden (own_bel X7_10.out hb11_)
  clear X7_10
  have X8_11 := hidden (X8_10.out.below hb11_)
  clear X8_10
  have X9_11 := hidden (own_bel X9_10.out hb11_)
  clear X9_10
  clear hb11_
  have e11_Hg0a := Hg0.out.cell 0
  have e11_Hg0b := Hg0.out.cell 1
  simp at e11_Hg0a e11_Hg0b
  have e11_Hw0a := Hw0_11.out.cell 0
  have e11_Hw0b := Hw0_11.out.cell 1
  simp at e11_Hw0a e11_Hw0b
  go_wp2_with fail
  rw [← hN11]
  refine (eqBits_e t0 r0 N11).mono ?_
  rintro e W12 ⟨rfl, b12⟩
  clear e11_Hg0a e11_Hg0b e11_Hw0a e11_Hw0b hN11 q11_Hw0a q11_Hw0b q11_Hw0l q11_Hw0n
  have B12 : Below w.heap.size w W12 := bel_then b12 B11.size B11
  have sB12 := b12.size
  have Hw0_12 := hidden (Hw0_11.out.below b12 Hw0_11.out.lt)
  clear Hw0_11
  have X7_12 := hidden (own_bel X7_11.out b12)
  clear X7_11
  have X8_12 := hidden (X8_11.out.below b12)
  clear X8_11
  have X9_12 := hidden (own_bel X9_11.out b12)
  clear X9_11
  have Hg0_12 := hidden (Hg0.out.below b12 Hg0.out.lt)
  clear Hg0
  clear b12
  go_wp2_with fail
  refine (toInt_e a0 cap0 z0 w W12 HL0.out HI0.out B12 hb0).mono ?_
  rintro e W13 ⟨g13, rfl, o13, b13⟩
  have B13 : Below w.heap.size w W13 := bel_then b13 B12.size B12
  have sB13 := b13.size
  have Hw0_13 := hidden (Hw0_12.out.below b13 Hw0_12.out.lt)
  clear Hw0_12
  have X7_13 := hidden (own_bel X7_12.out b13)
  clear X7_12
  have X8_13 := hidden (X8_12.out.below b13)
  clear X8_12
  have X9_13 := hidden (own_bel X9_12.out b13)
  clear X9_12
  have Hg0_13 := hidden (Hg0_12.out.below b13 Hg0_12.out.lt)
  clear Hg0_12
  have X13 := hidden o13
  have Q13 := own_ranged o13
  clear o13 b13
  go_wp2_with fail
  refine (eq_e _ _ _ _ z0 W13 HL0.out (own_ints X7_13.out HI0.out.2.1 hb0) (own_ints X13.out HI0.out.2.1 hb0)).mono ?_
  rintro e W14 ⟨rfl, b14⟩
  clear X13
  have B14 : Below w.heap.size w W14 := bel_then b14 B13.size B13
  have sB14 := b14.size
  have Hw0_14 := hidden (Hw0_13.out.below b14 Hw0_13.out.lt)
  clear Hw0_13
  have X7_14 := hidden (own_bel X7_13.out b14)
  clear X7_13
  have X8_14 := hidden (X8_13.out.below b14)
  clear X8_13
  have X9_14 := hidden (own_bel X9_13.out b14)
  clear X9_13
  have Hg0_14 := hidden (Hg0_13.out.below b14 Hg0_13.out.lt)
  clear Hg0_13
  clear b14
  go_wp2_with fail
  refine (toTab_e a1 cap1 z1 w W14 HL1.out HI1.out B14 hb1 HF1.out).mono ?_
  rintro e W15 ⟨g15, V15, rfl, o15, b15⟩
  have B15 : Below w.heap.size w W15 := bel_then b15 B14.size B14
  have sB15 := b15.size
  have Hw0_15 := hidden (Hw0_14.out.below b15 Hw0_14.out.lt)
  clear Hw0_14
  have X7_15 := hidden (own_bel X7_14.out b15)
  clear X7_14
  have X8_15 := hidden (X8_14.out.below b15)
  clear X8_14
  have X9_15 := hidden (own_bel X9_14.out b15)
  clear X9_14
  have Hg0_15 := hidden (Hg0_14.out.below b15 Hg0_14.out.lt)
  clear Hg0_14
  have X15 := hidden o15
  clear o15 b15
  go_wp2_with fail
  refine (eqTab_e _ _ _ _ z1 W15 HL1.out (X8_15.out.tabs HF1.out (by rw [HL1.out]; exact hb1)) (X15.out.tabs HF1.out (by rw [HL1.out]; exact hb1))).mono ?_
  rintro e W16 ⟨rfl, b16⟩
  clear X15
  have B16 : Below w.heap.size w W16 := bel_then b16 B15.size B15
  have sB16 := b16.size
  have Hw0_16 := hidden (Hw0_15.out.below b16 Hw0_15.out.lt)
  clear Hw0_15
  have X7_16 := hidden (own_bel X7_15.out b16)
  clear X7_15
  have X8_16 := hidden (X8_15.out.below b16)
  clear X8_15
  have X9_16 := hidden (own_bel X9_15.out b16)
  clear X9_15
  have Hg0_16 := hidden (Hg0_15.out.below b16 Hg0_15.out.lt)
  clear Hg0_15
  clear b16
  go_wp2_with fail
  refine (toInt_e a2 cap2 z2 w W16 HL2.out HI2.out B16 hb2).mono ?_
  rintro e W17 ⟨g17, rfl, o17, b17⟩
  have B17 : Below w.heap.size w W17 := bel_then b17 B16.size B16
  have sB17 := b17.size
  have Hw0_17 := hidden (Hw0_16.out.below b17 Hw0_16.out.lt)
  clear Hw0_16
  have X7_17 := hidden (own_bel X7_16.out b17)
  clear X7_16
  have X8_17 := hidden (X8_16.out.below b17)
  clear X8_16
  have X9_17 := hidden (own_bel X9_16.out b17)
  clear X9_16
  have Hg0_17 := hidden (Hg0_16.out.below b17 Hg0_16.out.lt)
  clear Hg0_16
  have X17 := hidden o17
  have Q17 := own_ranged o17
  clear o17 b17
  go_wp2_with fail
  refine (eq_e _ _ _ _ z2 W17 HL2.out (own_ints X9_17.out HI2.out.2.1 hb2) (own_ints X17.out HI2.out.2.1 hb2)).mono ?_
  rintro e W18 ⟨rfl, b18⟩
  clear X17
  have B18 : Below w.heap.size w W18 := bel_then b18 B17.size B17
  have sB18 := b18.size
  have Hw0_18 := hidden (Hw0_17.out.below b18 Hw0_17.out.lt)
  clear Hw0_17
  have X7_18 := hidden (own_bel X7_17.out b18)
  clear X7_17
  have X8_18 := hidden (X8_17.out.below b18)
  clear X8_17
  have X9_18 := hidden (own_bel X9_17.out b18)
  clear X9_17
  have Hg0_18 := hidden (Hg0_17.out.below b18 Hg0_17.out.lt)
  clear Hg0_17
  clear b18
  go_wp2
  go_ret
  exact ⟨rfl, B18⟩
set_option maxRecDepth 100000 in
theorem walk_FnExactPutCoded (hM : MeetsPutCoded) (w : World) (a0 : Option Addr) (len0 cap0 : Nat) (z0 : List Int) (w0 : IsRow .i64 w a0 len0 cap0 z0) (a1 : Option Addr) (len1 cap1 : Nat) (R1 : Nat → Option Addr × Nat × Nat × List Int) (w1 : IsTabs w a1 len1 cap1 R1) (a2 : Option Addr) (len2 cap2 : Nat) (z2 : List Int) (w2 : IsRow .i64 w a2 len2 cap2 z2) :
    Calls Try.prog 8 #[.slice a0 len0 cap0, .slice a1 len1 cap1, .slice a2 len2 cap2] w fun e w' => e = .returned (.bool true) ∧ Below w.heap.size w w' := by
  have hl0 := isrow_lenE w0
  have hl1 := istabs_len w1
  have hl2 := isrow_lenE w2
  by_cases hb0 : len0 ≤ 1048576
  rotate_left
  · have hx : (1048576 : Int) < (len0 : Int) := by omega
    clear hM
    go_enter Try.func8, Try.ntmps8
    go_wp2
    go_ret
    first | exact ⟨rfl, Below.refl _ _⟩ | exact ⟨rfl, (Below.refl _ _).alloc (Nat.le_refl _) _⟩
  by_cases hb2 : len2 ≤ 1048576
  rotate_left
  · have hx : (1048576 : Int) < (len2 : Int) := by omega
    have hx0 : ¬ (1048576 : Int) < (len0 : Int) := by omega
    clear hM
    go_enter Try.func8, Try.ntmps8
    go_wp2
    go_ret
    first | exact ⟨rfl, Below.refl _ _⟩ | exact ⟨rfl, (Below.refl _ _).alloc (Nat.le_refl _) _⟩
  by_cases hb1 : len1 + sumR R1 len1 ≤ 1048576
  rotate_left
  · have hrow := w1
    have hx0 : ¬ (1048576 : Int) < (len0 : Int) := by omega
    have hx2 : ¬ (1048576 : Int) < (len2 : Int) := by omega
    have KZ : Hid (∀ W, Below w.heap.size w W → Calls Try.prog 25 #[.slice a1 len1 cap1, .int .i64 1048576] W fun e w' => e = .returned (.int .i64 (-1)) ∧ Below W.heap.size W w') := hidden (fun W hW => by
      have := szTableS_any a1 len1 cap1 (1048576) R1 w W w1 hW (by omega)
      rw [if_neg hb1] at this
      exact this)
    clear hM hrow w0 w1 w2
    go_enter Try.func8, Try.ntmps8
    have bw1 := Below.refl w.heap.size w
    go_wp2_with fail
    refine (KZ.out _ bw1).mono ?_
    rintro e w2 ⟨rfl, b2⟩
    have bw2 := bel_then b2 bw1.size bw1
    go_wp2
    go_ret
    exact ⟨rfl, bw2⟩
  obtain ⟨y0', hl0', hI0⟩ := Ints.ofRowE w0 hb0
  obtain ⟨y1', hl1', hI1, hs1⟩ := w1.tabs (by omega)
  have hsu1 : sumT y1' y1'.length = sumR R1 len1 := by rw [hl1']; exact sumT_sumR hs1 _ (Nat.le_refl _)
  have hF1 : FitT y1' := hI1.range (fun i hi => by have := sumT_one y1' hi; omega)
  obtain ⟨y2', hl2', hI2⟩ := Ints.ofRowE w2 hb2
  obtain ⟨t0, r0, r1, hs, hi⟩ := hM y0' y1' y2' (by rw [hl0']; exact hb0) hI0.2.1 (by rw [hsu1, hl1']; omega) hF1 (by rw [hl2']; exact hb2) hI2.2.1
  rw [hl0'] at hs hi
  rw [hl1'] at hs hi
  rw [hl2'] at hs hi
  exact in_FnExactPutCoded w a0 len0 cap0 y0' (hidden hI0) (hidden hl0') hb0 a1 len1 cap1 y1' (hidden hI1) (hidden hl1') (by omega) (hidden hF1) _ (hidden rfl) (by rw [hsu1]; omega) _ (hidden (fun W hW => by have := szTableS_any a1 len1 cap1 (1048576) R1 w W w1 hW (by omega); rw [if_pos hb1] at this; exact this)) a2 len2 cap2 y2' (hidden hI2) (hidden hl2') hb2 t0 r0 r1  (hidden hs) (hidden hi)
end Go.Proofs.Ytaaahmfkdiogkaa
namespace Go.Proofs.Ytaaahmfkdiogkaa
set_option linter.unusedVariables false
set_option linter.unusedSimpArgs false
open Go.RowKit Go.ChangeShapes Go.WideShapes Go.ChangeAt

/-- For all arguments in bounds the model and the program answer the same. -/
def MeetsCodedBits : Prop := ∀ (z0 : List Int) (z1 : List (List Int)) (z2 : List Int), z0.length ≤ 1048576 → (∀ x ∈ z0, -9223372036854775808 ≤ x ∧ x ≤ 9223372036854775807) → z1.length + sumT z1 z1.length ≤ 1048576 → FitT z1 → z2.length ≤ 1048576 → (∀ x ∈ z2, -9223372036854775808 ≤ x ∧ x ≤ 9223372036854775807) → ∃ (r0 : Int), (∀ (W : World) (p0 : Addr) (c0 : Nat) (p1 : Addr) (c1 : Nat) (p2 : Addr) (c2 : Nat), Ints W W.heap.size (some p0) z0 → z0.length ≤ c0 → Tabs W W.heap.size (some p1) z1 → z1.length ≤ c1 → Ints W W.heap.size (some p2) z2 → z2.length ≤ c2 → Calls Try.prog 39 #[.slice (some p0) z0.length c0, .slice (some p1) z1.length c1, .slice (some p2) z2.length c2] W fun e w' => e = .returned (.int .i64 r0) ∧ Below W.heap.size W w') ∧ (∀ (W : World) (p0 : Addr) (c0 : Nat) (p1 : Addr) (c1 : Nat) (p2 : Addr) (c2 : Nat), Ints W W.heap.size (some p0) z0 → z0.length ≤ c0 → Tabs W W.heap.size (some p1) z1 → z1.length ≤ c1 → Ints W W.heap.size (some p2) z2 → z2.length ≤ c2 → Calls Try.prog 40 #[.slice (some p0) z0.length c0, .slice (some p1) z1.length c1, .slice (some p2) z2.length c2] W fun e w' => e = .returned (.int .i64 r0) ∧ Below W.heap.size W w')
set_option maxHeartbeats 4000000 in
set_option maxRecDepth 100000 in
theorem in_FnExactCodedBits (w : World) (a0 : Option Addr) (len0 cap0 : Nat) (z0 : List Int) (HI0 : Hid (Ints w w.heap.size a0 z0)) (HL0 : Hid (z0.length = len0)) (hb0 : len0 ≤ 1048576) (a1 : Option Addr) (len1 cap1 : Nat) (z1 : List (List Int)) (HI1 : Hid (Tabs w w.heap.size a1 z1)) (HL1 : Hid (z1.length = len1)) (hb1 : len1 ≤ 1048576) (HF1 : Hid (FitT z1)) (su1 : Nat) (HU1 : Hid (sumT z1 z1.length = su1)) (hu1 : su1 ≤ 1048576) (zr1 : Nat) (KZ1 : Hid (∀ W, Below w.heap.size w W → Calls Try.prog 25 #[.slice a1 len1 cap1, .int .i64 1048576] W fun e w' => e = .returned (.int .i64 (zr1 : Int)) ∧ Below W.heap.size W w')) (a2 : Option Addr) (len2 cap2 : Nat) (z2 : List Int) (HI2 : Hid (Ints w w.heap.size a2 z2)) (HL2 : Hid (z2.length = len2)) (hb2 : len2 ≤ 1048576) (r0 : Int)
    (KS : Hid (∀ (W : World) (p0 : Addr) (c0 : Nat) (p1 : Addr) (c1 : Nat) (p2 : Addr) (c2 : Nat), Ints W W.heap.size (some p0) z0 → len0 ≤ c0 → Tabs W W.heap.size (some p1) z1 → len1 ≤ c1 → Ints W W.heap.size (some p2) z2 → len2 ≤ c2 → Calls Try.prog 39 #[.slice (some p0) len0 c0, .slice (some p1) len1 c1, .slice (some p2) len2 c2] W fun e w' => e = .returned (.int .i64 r0) ∧ Below W.heap.size W w'))
    (KI : Hid (∀ (W : World) (p0 : Addr) (c0 : Nat) (p1 : Addr) (c1 : Nat) (p2 : Addr) (c2 : Nat), Ints W W.heap.size (some p0) z0 → len0 ≤ c0 → Tabs W W.heap.size (some p1) z1 → len1 ≤ c1 → Ints W W.heap.size (some p2) z2 → len2 ≤ c2 → Calls Try.prog 40 #[.slice (some p0) len0 c0, .slice (some p1) len1 c1, .slice (some p2) len2 c2] W fun e w' => e = .returned (.int .i64 r0) ∧ Below W.heap.size W w')) :
    Calls Try.prog 9 #[.slice a0 len0 cap0, .slice a1 len1 cap1, .slice a2 len2 cap2] w fun e w' => e = .returned (.bool true) ∧ Below w.heap.size w w' := by
  have hg0 : ¬ (1048576 : Int) < (len0 : Int) := by omega
  have hg1 : ¬ (zr1 : Int) < 0 := by omega
  have hg2 : ¬ (1048576 : Int) < (len2 : Int) := by omega
  have hk0 : ¬ (1 : Int) + (len0 : Int) < 0 := by omega
  have hk1 : ¬ (1 : Int) + (len0 : Int) + (su1 : Int) < 0 := by omega
  have hk2 : ¬ (1 : Int) + (len0 : Int) + (su1 : Int) + (len2 : Int) < 0 := by omega
  go_enter Try.func9, Try.ntmps9
  go_wp2_with fail
  refine (KZ1.out w (Below.refl w.heap.size w)).mono ?_
  rintro e W1 ⟨rfl, b1⟩
  have B1 : Below w.heap.size w W1 := bel_then b1 (Below.refl w.heap.size w).size (Below.refl w.heap.size w)
  have sB1 := b1.size
  clear b1
  go_wp2_with fail
  refine (toInt_e a0 cap0 z0 w W1 HL0.out HI0.out B1 hb0).mono ?_
  rintro e W2 ⟨g2, rfl, o2, b2⟩
  have B2 : Below w.heap.size w W2 := bel_then b2 B1.size B1
  have sB2 := b2.size
  have X2 := hidden o2
  have Q2 := own_ranged o2
  clear o2 b2
  go_wp2_with fail
  refine (toTab_e a1 cap1 z1 w W2 HL1.out HI1.out B2 hb1 HF1.out).mono ?_
  rintro e W3 ⟨g3, V3, rfl, o3, b3⟩
  have B3 : Below w.heap.size w W3 := bel_then b3 B2.size B2
  have sB3 := b3.size
  have X2_3 := hidden (own_bel X2.out b3)
  clear X2
  have X3 := hidden o3
  clear o3 b3
  go_wp2_with fail
  refine (toInt_e a2 cap2 z2 w W3 HL2.out HI2.out B3 hb2).mono ?_
  rintro e W4 ⟨g4, rfl, o4, b4⟩
  have B4 : Below w.heap.size w W4 := bel_then b4 B3.size B3
  have sB4 := b4.size
  have X2_4 := hidden (own_bel X2_3.out b4)
  clear X2_3
  have X3_4 := hidden (X3.out.below b4)
  clear X3
  have X4 := hidden o4
  have Q4 := own_ranged o4
  clear o4 b4
  go_wp2_with fail
  refine (KS.out W4 _ _ _ _ _ _ (own_ints X2_4.out HI0.out.2.1 hb0) (Nat.le_refl _) (X3_4.out.tabs HF1.out (by rw [HL1.out]; exact hb1)) (Nat.le_refl _) (own_ints X4.out HI2.out.2.1 hb2) (Nat.le_refl _)).mono ?_
  rintro e W5 ⟨rfl, b5⟩
  have B5 : Below w.heap.size w W5 := bel_then b5 B4.size B4
  have sB5 := b5.size
  have X2_5 := hidden (own_bel X2_4.out b5)
  clear X2_4
  have X3_5 := hidden (X3_4.out.below b5)
  clear X3_4
  have X4_5 := hidden (own_bel X4.out b5)
  clear X4
  clear b5
  clear X2_5
  clear X3_5
  clear X4_5
  go_wp2_with fail
  refine (toInt_e a0 cap0 z0 w W5 HL0.out HI0.out B5 hb0).mono ?_
  rintro e W6 ⟨g6, rfl, o6, b6⟩
  have B6 : Below w.heap.size w W6 := bel_then b6 B5.size B5
  have sB6 := b6.size
  have X6 := hidden o6
  have Q6 := own_ranged o6
  clear o6 b6
  go_wp2_with fail
  refine (toTab_e a1 cap1 z1 w W6 HL1.out HI1.out B6 hb1 HF1.out).mono ?_
  rintro e W7 ⟨g7, V7, rfl, o7, b7⟩
  have B7 : Below w.heap.size w W7 := bel_then b7 B6.size B6
  have sB7 := b7.size
  have X6_7 := hidden (own_bel X6.out b7)
  clear X6
  have X7 := hidden o7
  clear o7 b7
  go_wp2_with fail
  refine (toInt_e a2 cap2 z2 w W7 HL2.out HI2.out B7 hb2).mono ?_
  rintro e W8 ⟨g8, rfl, o8, b8⟩
  have B8 : Below w.heap.size w W8 := bel_then b8 B7.size B7
  have sB8 := b8.size
  have X6_8 := hidden (own_bel X6_7.out b8)
  clear X6_7
  have X7_8 := hidden (X7.out.below b8)
  clear X7
  have X8 := hidden o8
  have Q8 := own_ranged o8
  clear o8 b8
  go_wp2_with fail
  refine (KI.out W8 _ _ _ _ _ _ (own_ints X6_8.out HI0.out.2.1 hb0) (Nat.le_refl _) (X7_8.out.tabs HF1.out (by rw [HL1.out]; exact hb1)) (Nat.le_refl _) (own_ints X8.out HI2.out.2.1 hb2) (Nat.le_refl _)).mono ?_
  rintro e W9 ⟨rfl, b9⟩
  have B9 : Below w.heap.size w W9 := bel_then b9 B8.size B8
  have sB9 := b9.size
  have X6_9 := hidden (own_bel X6_8.out b9)
  clear X6_8
  have X7_9 := hidden (X7_8.out.below b9)
  clear X7_8
  have X8_9 := hidden (own_bel X8.out b9)
  clear X8
  clear b9
  go_wp2_with fail
  refine (toInt_e a0 cap0 z0 w W9 HL0.out HI0.out B9 hb0).mono ?_
  rintro e W10 ⟨g10, rfl, o10, b10⟩
  have B10 : Below w.heap.size w W10 := bel_then b10 B9.size B9
  have sB10 := b10.size
  have X6_10 := hidden (own_bel X6_9.out b10)
  clear X6_9
  have X7_10 := hidden (X7_9.out.below b10)
  clear X7_9
  have X8_10 := hidden (own_bel X8_9.out b10)
  clear X8_9
  have X10 := hidden o10
  have Q10 := own_ranged o10
  clear o10 b10
  go_wp2_with fail
  refine (eq_e _ _ _ _ z0 W10 HL0.out (own_ints X6_10.out HI0.out.2.1 hb0) (own_ints X10.out HI0.out.2.1 hb0)).mono ?_
  rintro e W11 ⟨rfl, b11⟩
  clear X10
  have B11 : Below w.heap.size w W11 := bel_then b11 B10.size B10
  have sB11 := b11.size
  have X6_11 := hidden (own_bel X6_10.out b11)
  clear X6_10
  have X7_11 := hidden (X7_10.out.below b11)
  clear X7_10
  have X8_11 := hidden (own_bel X8_10.out b11)
  clear X8_10
  clear b11
  go_wp2_with fail
  refine (toTab_e a1 cap1 z1 w W11 HL1.out HI1.out B11 hb1 HF1.out).mono ?_
  rintro e W12 ⟨g12, V12, rfl, o12, b12⟩
  have B12 : Below w.heap.size w W12 := bel_then b12 B11.size B11
  have sB12 := b12.size
  have X6_12 := hidden (own_bel X6_11.out b12)
  clear X6_11
  have X7_12 := hidden (X7_11.out.below b12)
  clear X7_11
  have X8_12 := hidden (own_bel X8_11.out b12)
  clear X8_11
  have X12 := hidden o12
  clear o12 b12
  go_wp2_with fail
  refine (eqTab_e _ _ _ _ z1 W12 HL1.out (X7_12.out.tabs HF1.out (by rw [HL1.out]; exact hb1)) (X12.out.tabs HF1.out (by rw [HL1.out]; exact hb1))).mono ?_
  rintro e W13 ⟨rfl, b13⟩
  clear X12
  have B13 : Below w.heap.size w W13 := bel_then b13 B12.size B12
  have sB13 := b13.size
  have X6_13 := hidden (own_bel X6_12.out b13)
  clear X6_12
  have X7_13 := hidden (X7_12.out.below b13)
  clear X7_12
  have X8_13 := hidden (own_bel X8_12.out b13)
  clear X8_12
  clear b13
  go_wp2_with fail
  refine (toInt_e a2 cap2 z2 w W13 HL2.out HI2.out B13 hb2).mono ?_
  rintro e W14 ⟨g14, rfl, o14, b14⟩
  have B14 : Below w.heap.size w W14 := bel_then b14 B13.size B13
  have sB14 := b14.size
  have X6_14 := hidden (own_bel X6_13.out b14)
  clear X6_13
  have X7_14 := hidden (X7_13.out.below b14)
  clear X7_13
  have X8_14 := hidden (own_bel X8_13.out b14)
  clear X8_13
  have X14 := hidden o14
  have Q14 := own_ranged o14
  clear o14 b14
  go_wp2_with fail
  refine (eq_e _ _ _ _ z2 W14 HL2.out (own_ints X8_14.out HI2.out.2.1 hb2) (own_ints X14.out HI2.out.2.1 hb2)).mono ?_
  rintro e W15 ⟨rfl, b15⟩
  clear X14
  have B15 : Below w.heap.size w W15 := bel_then b15 B14.size B14
  have sB15 := b15.size
  have X6_15 := hidden (own_bel X6_14.out b15)
  clear X6_14
  have X7_15 := hidden (X7_14.out.below b15)
  clear X7_14
  have X8_15 := hidden (own_bel X8_14.out b15)
  clear X8_14
  clear b15
  go_wp2
  go_ret
  exact ⟨rfl, B15⟩
set_option maxRecDepth 100000 in
theorem walk_FnExactCodedBits (hM : MeetsCodedBits) (w : World) (a0 : Option Addr) (len0 cap0 : Nat) (z0 : List Int) (w0 : IsRow .i64 w a0 len0 cap0 z0) (a1 : Option Addr) (len1 cap1 : Nat) (R1 : Nat → Option Addr × Nat × Nat × List Int) (w1 : IsTabs w a1 len1 cap1 R1) (a2 : Option Addr) (len2 cap2 : Nat) (z2 : List Int) (w2 : IsRow .i64 w a2 len2 cap2 z2) :
    Calls Try.prog 9 #[.slice a0 len0 cap0, .slice a1 len1 cap1, .slice a2 len2 cap2] w fun e w' => e = .returned (.bool true) ∧ Below w.heap.size w w' := by
  have hl0 := isrow_lenE w0
  have hl1 := istabs_len w1
  have hl2 := isrow_lenE w2
  by_cases hb0 : len0 ≤ 1048576
  rotate_left
  · have hx : (1048576 : Int) < (len0 : Int) := by omega
    clear hM
    go_enter Try.func9, Try.ntmps9
    go_wp2
    go_ret
    first | exact ⟨rfl, Below.refl _ _⟩ | exact ⟨rfl, (Below.refl _ _).alloc (Nat.le_refl _) _⟩
  by_cases hb2 : len2 ≤ 1048576
  rotate_left
  · have hx : (1048576 : Int) < (len2 : Int) := by omega
    have hx0 : ¬ (1048576 : Int) < (len0 : Int) := by omega
    clear hM
    go_enter Try.func9, Try.ntmps9
    go_wp2
    go_ret
    first | exact ⟨rfl, Below.refl _ _⟩ | exact ⟨rfl, (Below.refl _ _).alloc (Nat.le_refl _) _⟩
  by_cases hb1 : len1 + sumR R1 len1 ≤ 1048576
  rotate_left
  · have hrow := w1
    have hx0 : ¬ (1048576 : Int) < (len0 : Int) := by omega
    have hx2 : ¬ (1048576 : Int) < (len2 : Int) := by omega
    have KZ : Hid (∀ W, Below w.heap.size w W → Calls Try.prog 25 #[.slice a1 len1 cap1, .int .i64 1048576] W fun e w' => e = .returned (.int .i64 (-1)) ∧ Below W.heap.size W w') := hidden (fun W hW => by
      have := szTableS_any a1 len1 cap1 (1048576) R1 w W w1 hW (by omega)
      rw [if_neg hb1] at this
      exact this)
    clear hM hrow w0 w1 w2
    go_enter Try.func9, Try.ntmps9
    have bw1 := Below.refl w.heap.size w
    go_wp2_with fail
    refine (KZ.out _ bw1).mono ?_
    rintro e w2 ⟨rfl, b2⟩
    have bw2 := bel_then b2 bw1.size bw1
    go_wp2
    go_ret
    exact ⟨rfl, bw2⟩
  obtain ⟨y0', hl0', hI0⟩ := Ints.ofRowE w0 hb0
  obtain ⟨y1', hl1', hI1, hs1⟩ := w1.tabs (by omega)
  have hsu1 : sumT y1' y1'.length = sumR R1 len1 := by rw [hl1']; exact sumT_sumR hs1 _ (Nat.le_refl _)
  have hF1 : FitT y1' := hI1.range (fun i hi => by have := sumT_one y1' hi; omega)
  obtain ⟨y2', hl2', hI2⟩ := Ints.ofRowE w2 hb2
  obtain ⟨r0, hs, hi⟩ := hM y0' y1' y2' (by rw [hl0']; exact hb0) hI0.2.1 (by rw [hsu1, hl1']; omega) hF1 (by rw [hl2']; exact hb2) hI2.2.1
  rw [hl0'] at hs hi
  rw [hl1'] at hs hi
  rw [hl2'] at hs hi
  exact in_FnExactCodedBits w a0 len0 cap0 y0' (hidden hI0) (hidden hl0') hb0 a1 len1 cap1 y1' (hidden hI1) (hidden hl1') (by omega) (hidden hF1) _ (hidden rfl) (by rw [hsu1]; omega) _ (hidden (fun W hW => by have := szTableS_any a1 len1 cap1 (1048576) R1 w W w1 hW (by omega); rw [if_pos hb1] at this; exact this)) a2 len2 cap2 y2' (hidden hI2) (hidden hl2') hb2 r0  (hidden hs) (hidden hi)
end Go.Proofs.Ytaaahmfkdiogkaa
namespace Go.Proofs.Ytaaahmfkdiogkaa
set_option linter.unusedVariables false
set_option linter.unusedSimpArgs false
open Go.RowKit Go.ChangeShapes Go.WideShapes Go.ChangeAt

/-- For all arguments in bounds the model and the program answer the same. -/
def MeetsGetCoded : Prop := ∀ (s0 : ByteArray) (a0 : Int) (z1 : List (List Int)) (z2 : List Int) (a3 : Int), s0.size ≤ 1048576 → -9223372036854775808 ≤ a0 → a0 ≤ 9223372036854775807 → z1.length + sumT z1 z1.length ≤ 1048576 → FitT z1 → z2.length ≤ 1048576 → (∀ x ∈ z2, -9223372036854775808 ≤ x ∧ x ≤ 9223372036854775807) → -9223372036854775808 ≤ a3 → a3 ≤ 9223372036854775807 → ∃ (y0 : List Int) (t1 : ByteArray) (r1 : Int) (r2 : Bool), (y0.length ≤ 1048576 ∧ ∀ x ∈ y0, -9223372036854775808 ≤ x ∧ x ≤ 9223372036854775807) ∧ (∀ (W : World) (p1 : Addr) (c1 : Nat) (p2 : Addr) (c2 : Nat), Tabs W W.heap.size (some p1) z1 → z1.length ≤ c1 → Ints W W.heap.size (some p2) z2 → z2.length ≤ c2 → Calls Try.prog 41 #[.agg #[.string s0, .int .i64 a0], .slice (some p1) z1.length c1, .slice (some p2) z2.length c2, .int .i64 a3] W fun e w' => ∃ v0, e = .returned (.tuple #[v0, .agg #[.string t1, .int .i64 r1], .bool r2]) ∧ w'.ownsRow W.heap.size 3 1 v0 y0.length (intsV y0) ∧ Below W.heap.size W w') ∧ (∀ (W : World) (p1 : Addr) (c1 : Nat) (p2 : Addr) (c2 : Nat), Tabs W W.heap.size (some p1) z1 → z1.length ≤ c1 → Ints W W.heap.size (some p2) z2 → z2.length ≤ c2 → Calls Try.prog 42 #[.agg #[.string s0, .int .i64 a0], .slice (some p1) z1.length c1, .slice (some p2) z2.length c2, .int .i64 a3] W fun e w' => ∃ v0, e = .returned (.tuple #[v0, .agg #[.string t1, .int .i64 r1], .bool r2]) ∧ w'.ownsRow W.heap.size 3 1 v0 y0.length (intsV y0) ∧ Below W.heap.size W w')
set_option maxHeartbeats 4000000 in
set_option maxRecDepth 100000 in
theorem in_FnExactGetCoded (w : World) (s0 : ByteArray) (a0 : Int) (hb0 : s0.size ≤ 1048576) (b0 : -9223372036854775808 ≤ a0) (d0 : a0 ≤ 9223372036854775807) (a1 : Option Addr) (len1 cap1 : Nat) (z1 : List (List Int)) (HI1 : Hid (Tabs w w.heap.size a1 z1)) (HL1 : Hid (z1.length = len1)) (hb1 : len1 ≤ 1048576) (HF1 : Hid (FitT z1)) (su1 : Nat) (HU1 : Hid (sumT z1 z1.length = su1)) (hu1 : su1 ≤ 1048576) (zr1 : Nat) (KZ1 : Hid (∀ W, Below w.heap.size w W → Calls Try.prog 25 #[.slice a1 len1 cap1, .int .i64 ((1048576 - s0.size : Nat) : Int)] W fun e w' => e = .returned (.int .i64 (zr1 : Int)) ∧ Below W.heap.size W w')) (a2 : Option Addr) (len2 cap2 : Nat) (z2 : List Int) (HI2 : Hid (Ints w w.heap.size a2 z2)) (HL2 : Hid (z2.length = len2)) (hb2 : len2 ≤ 1048576) (a3 : Int) (b3 : -9223372036854775808 ≤ a3) (d3 : a3 ≤ 9223372036854775807) (y0 : List Int) (t1 : ByteArray) (r1 : Int) (r2 : Bool)
    (m0 : Nat) (HY0 : Hid (y0.length = m0)) (hm0 : m0 ≤ 1048576) (HR0 : Hid (∀ x ∈ y0, -9223372036854775808 ≤ x ∧ x ≤ 9223372036854775807))
    (KS : Hid (∀ (W : World) (p1 : Addr) (c1 : Nat) (p2 : Addr) (c2 : Nat), Tabs W W.heap.size (some p1) z1 → len1 ≤ c1 → Ints W W.heap.size (some p2) z2 → len2 ≤ c2 → Calls Try.prog 41 #[.agg #[.string s0, .int .i64 a0], .slice (some p1) len1 c1, .slice (some p2) len2 c2, .int .i64 a3] W fun e w' => ∃ v0, e = .returned (.tuple #[v0, .agg #[.string t1, .int .i64 r1], .bool r2]) ∧ w'.ownsRow W.heap.size 3 1 v0 m0 (intsV y0) ∧ Below W.heap.size W w'))
    (KI : Hid (∀ (W : World) (p1 : Addr) (c1 : Nat) (p2 : Addr) (c2 : Nat), Tabs W W.heap.size (some p1) z1 → len1 ≤ c1 → Ints W W.heap.size (some p2) z2 → len2 ≤ c2 → Calls Try.prog 42 #[.agg #[.string s0, .int .i64 a0], .slice (some p1) len1 c1, .slice (some p2) len2 c2, .int .i64 a3] W fun e w' => ∃ v0, e = .returned (.tuple #[v0, .agg #[.string t1, .int .i64 r1], .bool r2]) ∧ w'.ownsRow W.heap.size 3 1 v0 m0 (intsV y0) ∧ Below W.heap.size W w')) :
    Calls Try.prog 10 #[.agg #[.string s0, .int .i64 a0], .slice a1 len1 cap1, .slice a2 len2 cap2, .int .i64 a3] w fun e w' => e = .returned (.bool true) ∧ Below w.heap.size w w' := by
  have hg1 : ¬ (zr1 : Int) < 0 := by omega
  have hg2 : ¬ (1048576 : Int) < (len2 : Int) := by omega
  have hn0 : ¬ (1 : Int) + (m0 : Int) < 0 := by omega
  have hk1 : ¬ (1 : Int) + (su1 : Int) < 0 := by omega
  have hk2 : ¬ (1 : Int) + (su1 : Int) + (len2 : Int) < 0 := by omega
  have hq0 : (1 : Int) + (m0 : Int) ≠ (1 : Int) + (m0 : Int) → False := fun h => h rfl
  go_enter Try.func10, Try.ntmps10
  obtain ⟨N1, hN1⟩ : ∃ N, N = (w.alloc (.cells #[.string s0, .int .i64 a0] 46)) := ⟨_, rfl⟩
  have hb1_ : Below w.heap.size w N1 := by rw [hN1]; exact (Below.refl _ _).alloc (Nat.le_refl _) _
  have HA : Hid (Has N1 w.heap.size 46 #[.string s0, .int .i64 a0]) := hidden (by rw [hN1]; exact Has.fresh _ _ _)
  have lHA := HA.out.lt
  go_wp2_with fail
  rw [← hN1]
  refine (szRd_ok s0 a0 1048576 N1 hb0 (Nat.le_refl _)).mono ?_
  rintro e W2 ⟨rfl, b2⟩
  clear hN1
  have B2 : Below w.heap.size w W2 := bel_then b2 hb1_.size hb1_
  have sB2 := b2.size
  have HA_2 := hidden (HA.out.below b2 HA.out.lt)
  clear HA
  clear b2
  go_wp2_with fail
  refine (KZ1.out W2 B2).mono ?_
  rintro e W3 ⟨rfl, b3⟩
  have B3 : Below w.heap.size w W3 := bel_then b3 B2.size B2
  have sB3 := b3.size
  have HA_3 := hidden (HA_2.out.below b3 HA_2.out.lt)
  clear HA_2
  clear b3
  have e3_HAa := HA_3.out.cell 0
  have e3_HAb := HA_3.out.cell 1
  simp at e3_HAa e3_HAb
  go_wp2_with fail
  refine (toRd_e s0 a0 W3).mono ?_
  rintro e W4 ⟨rfl, b4⟩
  clear e3_HAa e3_HAb
  have B4 : Below w.heap.size w W4 := bel_then b4 B3.size B3
  have sB4 := b4.size
  have HA_4 := hidden (HA_3.out.below b4 HA_3.out.lt)
  clear HA_3
  clear b4
  go_wp2_with fail
  refine (toTab_e a1 cap1 z1 w W4 HL1.out HI1.out B4 hb1 HF1.out).mono ?_
  rintro e W5 ⟨g5, V5, rfl, o5, b5⟩
  have B5 : Below w.heap.size w W5 := bel_then b5 B4.size B4
  have sB5 := b5.size
  have HA_5 := hidden (HA_4.out.below b5 HA_4.out.lt)
  clear HA_4
  have X5 := hidden o5
  clear o5 b5
  go_wp2_with fail
  refine (toInt_e a2 cap2 z2 w W5 HL2.out HI2.out B5 hb2).mono ?_
  rintro e W6 ⟨g6, rfl, o6, b6⟩
  have B6 : Below w.heap.size w W6 := bel_then b6 B5.size B5
  have sB6 := b6.size
  have HA_6 := hidden (HA_5.out.below b6 HA_5.out.lt)
  clear HA_5
  have X5_6 := hidden (X5.out.below b6)
  clear X5
  have X6 := hidden o6
  have Q6 := own_ranged o6
  clear o6 b6
  go_wp2_with fail
  refine (KS.out W6 _ _ _ _ (X5_6.out.tabs HF1.out (by rw [HL1.out]; exact hb1)) (Nat.le_refl _) (own_ints X6.out HI2.out.2.1 hb2) (Nat.le_refl _)).mono ?_
  rintro e W7 ⟨v0_7, rfl, o0_7, b7⟩
  obtain ⟨gw0, cw0, rfl⟩ := own_form o0_7
  have B7 : Below w.heap.size w W7 := bel_then b7 B6.size B6
  have sB7 := b7.size
  have HA_7 := hidden (HA_6.out.below b7 HA_6.out.lt)
  clear HA_6
  have X5_7 := hidden (X5_6.out.below b7)
  clear X5_6
  have X6_7 := hidden (own_bel X6.out b7)
  clear X6
  have Yw0 := hidden o0_7
  have Qw0 := own_ranged o0_7
  clear o0_7
  clear b7
  have q8_HAa := HA_7.out.cell 0
  have q8_HAb := HA_7.out.cell 1
  have q8_HAl := HA_7.out.lt
  simp at q8_HAa q8_HAb
  have q8_HAn : ¬ w.heap.size = W7.heap.size := by omega
  obtain ⟨N8, hN8⟩ : ∃ N, N = (W7.alloc (.cells #[.string t1, .int .i64 r1] 48)) := ⟨_, rfl⟩
  have hb8_ : Below W7.heap.size W7 N8 := by rw [hN8]; exact (Below.refl _ _).alloc (Nat.le_refl _) _
  have Hw1 : Hid (Has N8 W7.heap.size 48 #[.string t1, .int .i64 r1]) := hidden (by rw [hN8]; exact Has.fresh _ _ _)
  have lHw1 := Hw1.out.lt
  have B8 : Below w.heap.size w N8 := bel_then hb8_ B7.size B7
  have sB8 := hb8_.size
  have HA_8 := hidden (HA_7.out.below hb8_ HA_7.out.lt)
  clear HA_7
  have X5_8 := hidden (X5_7.out.below hb8_)
  clear X5_7
  have X6_8 := hidden (own_bel X6_7.out hb8_)
  clear X6_7
  have Yw0_8 := hidden (own_bel Yw0.out hb8_)
  clear Yw0
  clear hb8_
  clear X5_8
  clear X6_8
  go_wp2_with fail
  rw [← hN8]
  refine (toTab_e a1 cap1 z1 w N8 HL1.out HI1.out B8 hb1 HF1.out).mono ?_
  rintro e W9 ⟨g9, V9, rfl, o9, b9⟩
  clear hN8 q8_HAa q8_HAb q8_HAl q8_HAn
  have B9 : Below w.heap.size w W9 := bel_then b9 B8.size B8
  have sB9 := b9.size
  have HA_9 := hidden (HA_8.out.below b9 HA_8.out.lt)
  clear HA_8
  have Yw0_9 := hidden (own_bel Yw0_8.out b9)
  clear Yw0_8
  have Hw1_9 := hidden (Hw1.out.below b9 Hw1.out.lt)
  clear Hw1
  have X9 := hidden o9
  clear o9 b9
  go_wp2_with fail
  refine (toInt_e a2 cap2 z2 w W9 HL2.out HI2.out B9 hb2).mono ?_
  rintro e W10 ⟨g10, rfl, o10, b10⟩
  have B10 : Below w.heap.size w W10 := bel_then b10 B9.size B9
  have sB10 := b10.size
  have HA_10 := hidden (HA_9.out.below b10 HA_9.out.lt)
  clear HA_9
  have Yw0_10 := hidden (own_bel Yw0_9.out b10)
  clear Yw0_9
  have Hw1_10 := hidden (Hw1_9.out.below b10 Hw1_9.out.lt)
  clear Hw1_9
  have X9_10 := hidden (X9.out.below b10)
  clear X9
  have X10 := hidden o10
  have Q10 := own_ranged o10
  clear o10 b10
  have e10_HAa := HA_10.out.cell 0
  have e10_HAb := HA_10.out.cell 1
  simp at e10_HAa e10_HAb
  go_wp2_with fail
  refine (toRd_e s0 a0 W10).mono ?_
  rintro e W11 ⟨rfl, b11⟩
  clear e10_HAa e10_HAb
  have B11 : Below w.heap.size w W11 := bel_then b11 B10.size B10
  have sB11 := b11.size
  have HA_11 := hidden (HA_10.out.below b11 HA_10.out.lt)
  clear HA_10
  have Yw0_11 := hidden (own_bel Yw0_10.out b11)
  clear Yw0_10
  have Hw1_11 := hidden (Hw1_10.out.below b11 Hw1_10.out.lt)
  clear Hw1_10
  have X9_11 := hidden (X9_10.out.below b11)
  clear X9_10
  have X10_11 := hidden (own_bel X10.out b11)
  clear X10
  clear b11
  go_wp2_with fail
  refine (KI.out W11 _ _ _ _ (X9_11.out.tabs HF1.out (by rw [HL1.out]; exact hb1)) (Nat.le_refl _) (own_ints X10_11.out HI2.out.2.1 hb2) (Nat.le_refl _)).mono ?_
  rintro e W12 ⟨v0_12, rfl, o0_12, b12⟩
  obtain ⟨gg0, cg0, rfl⟩ := own_form o0_12
  have B12 : Below w.heap.size w W12 := bel_then b12 B11.size B11
  have sB12 := b12.size
  have HA_12 := hidden (HA_11.out.below b12 HA_11.out.lt)
  clear HA_11
  have Yw0_12 := hidden (own_bel Yw0_11.out b12)
  clear Yw0_11
  have Hw1_12 := hidden (Hw1_11.out.below b12 Hw1_11.out.lt)
  clear Hw1_11
  have X9_12 := hidden (X9_11.out.below b12)
  clear X9_11
  have X10_12 := hidden (own_bel X10_11.out b12)
  clear X10_11
  have Yg0 := hidden o0_12
  have Qg0 := own_ranged o0_12
  clear o0_12
  clear b12
  have q13_HAa := HA_12.out.cell 0
  have q13_HAb := HA_12.out.cell 1
  have q13_HAl := HA_12.out.lt
  simp at q13_HAa q13_HAb
  have q13_HAn : ¬ w.heap.size = W12.heap.size := by omega
  have q13_Hw1a := Hw1_12.out.cell 0
  have q13_Hw1b := Hw1_12.out.cell 1
  have q13_Hw1l := Hw1_12.out.lt
  simp at q13_Hw1a q13_Hw1b
  have q13_Hw1n : ¬ W7.heap.size = W12.heap.size := by omega
  obtain ⟨N13, hN13⟩ : ∃ N, N = (W12.alloc (.cells #[.string t1, .int .i64 r1] 48)) := ⟨_, rfl⟩
  have hb13_ : Below W12.heap.size W12 N13 := by rw [hN13]; exact (Below.refl _ _).alloc (Nat.le_refl _) _
  have Hg1 : Hid (Has N13 W12.heap.size 48 #[.string t1, .int .i64 r1]) := hidden (by rw [hN13]; exact Has.fresh _ _ _)
  have lHg1 := Hg1.out.lt
  have B13 : Below w.heap.size w N13 := bel_then hb13_ B12.size B12
  have sB13 := hb13_.size
  have HA_13 := hidden (HA_12.out.below hb13_ HA_12.out.lt)
  clear HA_12
  have Yw0_13 := hidden (own_bel Yw0_12.out hb13_)
  clear Yw0_12
  have Hw1_13 := hidden (Hw1_12.out.below hb13_ Hw1_12.out.lt)
  clear Hw1_12
  have X9_13 := hidden (X9_12.out.below hb13_)
  clear X9_12
  have X10_13 := hidden (own_bel X10_12.out hb13_)
  clear X10_12
  have Yg0_13 := hidden (own_bel Yg0.out hb13_)
  clear Yg0
  clear hb13_
  go_wp2_with fail
  rw [← hN13]
  refine (eq_e _ _ _ _ y0 N13 HY0.out (own_ints Yg0_13.out HR0.out hm0) (own_ints Yw0_13.out HR0.out hm0)).mono ?_
  rintro e W14 ⟨rfl, b14⟩
  clear hN13 q13_HAa q13_HAb q13_HAl q13_HAn q13_Hw1a q13_Hw1b q13_Hw1l q13_Hw1n
  have B14 : Below w.heap.size w W14 := bel_then b14 B13.size B13
  have sB14 := b14.size
  have HA_14 := hidden (HA_13.out.below b14 HA_13.out.lt)
  clear HA_13
  have Yw0_14 := hidden (own_bel Yw0_13.out b14)
  clear Yw0_13
  have Hw1_14 := hidden (Hw1_13.out.below b14 Hw1_13.out.lt)
  clear Hw1_13
  have X9_14 := hidden (X9_13.out.below b14)
  clear X9_13
  have X10_14 := hidden (own_bel X10_13.out b14)
  clear X10_13
  have Yg0_14 := hidden (own_bel Yg0_13.out b14)
  clear Yg0_13
  have Hg1_14 := hidden (Hg1.out.below b14 Hg1.out.lt)
  clear Hg1
  clear b14
  have e14_Hg1a := Hg1_14.out.cell 0
  have e14_Hg1b := Hg1_14.out.cell 1
  simp at e14_Hg1a e14_Hg1b
  have e14_Hw1a := Hw1_14.out.cell 0
  have e14_Hw1b := Hw1_14.out.cell 1
  simp at e14_Hw1a e14_Hw1b
  go_wp2_with fail
  refine (eqRd_e t1 r1 W14).mono ?_
  rintro e W15 ⟨rfl, b15⟩
  clear e14_Hg1a e14_Hg1b e14_Hw1a e14_Hw1b
  have B15 : Below w.heap.size w W15 := bel_then b15 B14.size B14
  have sB15 := b15.size
  have HA_15 := hidden (HA_14.out.below b15 HA_14.out.lt)
  clear HA_14
  have Yw0_15 := hidden (own_bel Yw0_14.out b15)
  clear Yw0_14
  have Hw1_15 := hidden (Hw1_14.out.below b15 Hw1_14.out.lt)
  clear Hw1_14
  have X9_15 := hidden (X9_14.out.below b15)
  clear X9_14
  have X10_15 := hidden (own_bel X10_14.out b15)
  clear X10_14
  have Yg0_15 := hidden (own_bel Yg0_14.out b15)
  clear Yg0_14
  have Hg1_15 := hidden (Hg1_14.out.below b15 Hg1_14.out.lt)
  clear Hg1_14
  clear b15
  go_wp2_with fail
  refine (toTab_e a1 cap1 z1 w W15 HL1.out HI1.out B15 hb1 HF1.out).mono ?_
  rintro e W16 ⟨g16, V16, rfl, o16, b16⟩
  have B16 : Below w.heap.size w W16 := bel_then b16 B15.size B15
  have sB16 := b16.size
  have HA_16 := hidden (HA_15.out.below b16 HA_15.out.lt)
  clear HA_15
  have Yw0_16 := hidden (own_bel Yw0_15.out b16)
  clear Yw0_15
  have Hw1_16 := hidden (Hw1_15.out.below b16 Hw1_15.out.lt)
  clear Hw1_15
  have X9_16 := hidden (X9_15.out.below b16)
  clear X9_15
  have X10_16 := hidden (own_bel X10_15.out b16)
  clear X10_15
  have Yg0_16 := hidden (own_bel Yg0_15.out b16)
  clear Yg0_15
  have Hg1_16 := hidden (Hg1_15.out.below b16 Hg1_15.out.lt)
  clear Hg1_15
  have X16 := hidden o16
  clear o16 b16
  go_wp2_with fail
  refine (eqTab_e _ _ _ _ z1 W16 HL1.out (X9_16.out.tabs HF1.out (by rw [HL1.out]; exact hb1)) (X16.out.tabs HF1.out (by rw [HL1.out]; exact hb1))).mono ?_
  rintro e W17 ⟨rfl, b17⟩
  clear X16
  have B17 : Below w.heap.size w W17 := bel_then b17 B16.size B16
  have sB17 := b17.size
  have HA_17 := hidden (HA_16.out.below b17 HA_16.out.lt)
  clear HA_16
  have Yw0_17 := hidden (own_bel Yw0_16.out b17)
  clear Yw0_16
  have Hw1_17 := hidden (Hw1_16.out.below b17 Hw1_16.out.lt)
  clear Hw1_16
  have X9_17 := hidden (X9_16.out.below b17)
  clear X9_16
  have X10_17 := hidden (own_bel X10_16.out b17)
  clear X10_16
  have Yg0_17 := hidden (own_bel Yg0_16.out b17)
  clear Yg0_16
  have Hg1_17 := hidden (Hg1_16.out.below b17 Hg1_16.out.lt)
  clear Hg1_16
  clear b17
  go_wp2_with fail
  refine (toInt_e a2 cap2 z2 w W17 HL2.out HI2.out B17 hb2).mono ?_
  rintro e W18 ⟨g18, rfl, o18, b18⟩
  have B18 : Below w.heap.size w W18 := bel_then b18 B17.size B17
  have sB18 := b18.size
  have HA_18 := hidden (HA_17.out.below b18 HA_17.out.lt)
  clear HA_17
  have Yw0_18 := hidden (own_bel Yw0_17.out b18)
  clear Yw0_17
  have Hw1_18 := hidden (Hw1_17.out.below b18 Hw1_17.out.lt)
  clear Hw1_17
  have X9_18 := hidden (X9_17.out.below b18)
  clear X9_17
  have X10_18 := hidden (own_bel X10_17.out b18)
  clear X10_17
  have Yg0_18 := hidden (own_bel Yg0_17.out b18)
  clear Yg0_17
  have Hg1_18 := hidden (Hg1_17.out.below b18 Hg1_17.out.lt)
  clear Hg1_17
  have X18 := hidden o18
  have Q18 := own_ranged o18
  clear o18 b18
  go_wp2_with fail
  refine (eq_e _ _ _ _ z2 W18 HL2.out (own_ints X10_18.out HI2.out.2.1 hb2) (own_ints X18.out HI2.out.2.1 hb2)).mono ?_
  rintro e W19 ⟨rfl, b19⟩
  clear X18
  have B19 : Below w.heap.size w W19 := bel_then b19 B18.size B18
  have sB19 := b19.size
  have HA_19 := hidden (HA_18.out.below b19 HA_18.out.lt)
  clear HA_18
  have Yw0_19 := hidden (own_bel Yw0_18.out b19)
  clear Yw0_18
  have Hw1_19 := hidden (Hw1_18.out.below b19 Hw1_18.out.lt)
  clear Hw1_18
  have X9_19 := hidden (X9_18.out.below b19)
  clear X9_18
  have X10_19 := hidden (own_bel X10_18.out b19)
  clear X10_18
  have Yg0_19 := hidden (own_bel Yg0_18.out b19)
  clear Yg0_18
  have Hg1_19 := hidden (Hg1_18.out.below b19 Hg1_18.out.lt)
  clear Hg1_18
  clear b19
  go_wp2_with fail
  refine (markTab_e (k := 1) _ _ _ _ z1 W19 X9_19.out (by rw [HL1.out]; exact hb1) HU1.out hu1 (by omega) _ (by simp)).mono ?_
  rintro e W20 ⟨rfl, o20, br20⟩
  have B20 : Below w.heap.size w W20 := bel_byrows B19 br20 (fun u hu q hq => by have := X9_19.out.rng u hu q hq; omega)
  have sB20 := br20.size
  have HA_20 := hidden (has_fit HA_19.out br20 X9_19.out.rng (by omega))
  have Yw0_20 := hidden (own_fit Yw0_19.out br20 Qw0 X9_19.out.rng (by omega))
  have Hw1_20 := hidden (has_fit Hw1_19.out br20 X9_19.out.rng (by omega))
  have X9_20 := hidden o20
  have X10_20 := hidden (own_fit X10_19.out br20 Q10 X9_19.out.rng (by omega))
  have Yg0_20 := hidden (own_fit Yg0_19.out br20 Qg0 X9_19.out.rng (by omega))
  have Hg1_20 := hidden (has_fit Hg1_19.out br20 X9_19.out.rng (by omega))
  clear HA_19
  clear Yw0_19
  clear Hw1_19
  clear X9_19
  clear X10_19
  clear Yg0_19
  clear Hg1_19
  clear o20 br20
  clear X9_20
  go_wp2_with fail
  refine (mark_e (k := (1 + su1)) _ z2 W20 X10_20.out hb2 (by omega) _ (by simp)).mono ?_
  rintro e W21 ⟨rfl, o21, gr21⟩
  have B21 : Below w.heap.size w W21 := bel_grown B20 gr21 Q10 (by omega)
  have sB21 := gr21.size
  have HA_21 := hidden (HA_20.out.grown gr21 (ranged_box Q10 (by omega)))
  clear HA_20
  have Yw0_21 := hidden (Yw0_20.out.kept gr21 (ranged_ne Qw0 Q10 (by omega)))
  clear Yw0_20
  have Hw1_21 := hidden (Hw1_20.out.grown gr21 (ranged_box Q10 (by omega)))
  clear Hw1_20
  have X10_21 := hidden o21
  clear X10_20
  have Yg0_21 := hidden (Yg0_20.out.kept gr21 (ranged_ne Qg0 Q10 (by omega)))
  clear Yg0_20
  have Hg1_21 := hidden (Hg1_20.out.grown gr21 (ranged_box Q10 (by omega)))
  clear Hg1_20
  clear o21 gr21
  clear X10_21
  go_wp2_with fail
  refine (eq_e _ _ _ _ y0 W21 HY0.out (own_ints Yg0_21.out HR0.out hm0) (own_ints Yw0_21.out HR0.out hm0)).mono ?_
  rintro e W22 ⟨rfl, b22⟩
  have B22 : Below w.heap.size w W22 := bel_then b22 B21.size B21
  have sB22 := b22.size
  have HA_22 := hidden (HA_21.out.below b22 HA_21.out.lt)
  clear HA_21
  have Yw0_22 := hidden (own_bel Yw0_21.out b22)
  clear Yw0_21
  have Hw1_22 := hidden (Hw1_21.out.below b22 Hw1_21.out.lt)
  clear Hw1_21
  have Yg0_22 := hidden (own_bel Yg0_21.out b22)
  clear Yg0_21
  have Hg1_22 := hidden (Hg1_21.out.below b22 Hg1_21.out.lt)
  clear Hg1_21
  clear b22
  have e22_Hg1a := Hg1_22.out.cell 0
  have e22_Hg1b := Hg1_22.out.cell 1
  simp at e22_Hg1a e22_Hg1b
  have e22_Hw1a := Hw1_22.out.cell 0
  have e22_Hw1b := Hw1_22.out.cell 1
  simp at e22_Hw1a e22_Hw1b
  go_wp2_with fail
  refine (eqRd_e t1 r1 W22).mono ?_
  rintro e W23 ⟨rfl, b23⟩
  clear e22_Hg1a e22_Hg1b e22_Hw1a e22_Hw1b
  have B23 : Below w.heap.size w W23 := bel_then b23 B22.size B22
  have sB23 := b23.size
  have HA_23 := hidden (HA_22.out.below b23 HA_22.out.lt)
  clear HA_22
  have Yw0_23 := hidden (own_bel Yw0_22.out b23)
  clear Yw0_22
  have Hw1_23 := hidden (Hw1_22.out.below b23 Hw1_22.out.lt)
  clear Hw1_22
  have Yg0_23 := hidden (own_bel Yg0_22.out b23)
  clear Yg0_22
  have Hg1_23 := hidden (Hg1_22.out.below b23 Hg1_22.out.lt)
  clear Hg1_22
  clear b23
  go_wp2_with fail
  refine (mark_e (k := 1) _ y0 W23 Yg0_23.out hm0 (by omega) _ (by simp)).mono ?_
  rintro e W24 ⟨rfl, o24, gr24⟩
  have B24 : Below w.heap.size w W24 := bel_grown B23 gr24 Qg0 (by omega)
  have sB24 := gr24.size
  have HA_24 := hidden (HA_23.out.grown gr24 (ranged_box Qg0 (by omega)))
  clear HA_23
  have Yw0_24 := hidden (Yw0_23.out.kept gr24 (ranged_ne Qw0 Qg0 (by omega)))
  clear Yw0_23
  have Hw1_24 := hidden (Hw1_23.out.grown gr24 (ranged_box Qg0 (by omega)))
  clear Hw1_23
  have Yg0_24 := hidden o24
  clear Yg0_23
  have Hg1_24 := hidden (Hg1_23.out.grown gr24 (ranged_box Qg0 (by omega)))
  clear Hg1_23
  clear o24 gr24
  go_wp2_with fail
  refine (held_e _ W24 Yg0_24.out hm0).mono ?_
  rintro e _ ⟨rfl, rfl⟩
  have e24_HAa := HA_24.out.cell 0
  have e24_HAb := HA_24.out.cell 1
  simp at e24_HAa e24_HAb
  go_wp2_with fail
  refine (toRd_e s0 a0 W24).mono ?_
  rintro e W25 ⟨rfl, b25⟩
  clear e24_HAa e24_HAb
  have B25 : Below w.heap.size w W25 := bel_then b25 B24.size B24
  have sB25 := b25.size
  have HA_25 := hidden (HA_24.out.below b25 HA_24.out.lt)
  clear HA_24
  have Yw0_25 := hidden (own_bel Yw0_24.out b25)
  clear Yw0_24
  have Hw1_25 := hidden (Hw1_24.out.below b25 Hw1_24.out.lt)
  clear Hw1_24
  have Yg0_25 := hidden (own_bel Yg0_24.out b25)
  clear Yg0_24
  have Hg1_25 := hidden (Hg1_24.out.below b25 Hg1_24.out.lt)
  clear Hg1_24
  clear b25
  go_wp2_with fail
  refine (toTab_e a1 cap1 z1 w W25 HL1.out HI1.out B25 hb1 HF1.out).mono ?_
  rintro e W26 ⟨g26, V26, rfl, o26, b26⟩
  have B26 : Below w.heap.size w W26 := bel_then b26 B25.size B25
  have sB26 := b26.size
  have HA_26 := hidden (HA_25.out.below b26 HA_25.out.lt)
  clear HA_25
  have Yw0_26 := hidden (own_bel Yw0_25.out b26)
  clear Yw0_25
  have Hw1_26 := hidden (Hw1_25.out.below b26 Hw1_25.out.lt)
  clear Hw1_25
  have Yg0_26 := hidden (own_bel Yg0_25.out b26)
  clear Yg0_25
  have Hg1_26 := hidden (Hg1_25.out.below b26 Hg1_25.out.lt)
  clear Hg1_25
  have X26 := hidden o26
  clear o26 b26
  go_wp2_with fail
  refine (toInt_e a2 cap2 z2 w W26 HL2.out HI2.out B26 hb2).mono ?_
  rintro e W27 ⟨g27, rfl, o27, b27⟩
  have B27 : Below w.heap.size w W27 := bel_then b27 B26.size B26
  have sB27 := b27.size
  have HA_27 := hidden (HA_26.out.below b27 HA_26.out.lt)
  clear HA_26
  have Yw0_27 := hidden (own_bel Yw0_26.out b27)
  clear Yw0_26
  have Hw1_27 := hidden (Hw1_26.out.below b27 Hw1_26.out.lt)
  clear Hw1_26
  have Yg0_27 := hidden (own_bel Yg0_26.out b27)
  clear Yg0_26
  have Hg1_27 := hidden (Hg1_26.out.below b27 Hg1_26.out.lt)
  clear Hg1_26
  have X26_27 := hidden (X26.out.below b27)
  clear X26
  have X27 := hidden o27
  have Q27 := own_ranged o27
  clear o27 b27
  go_wp2_with fail
  refine (KI.out W27 _ _ _ _ (X26_27.out.tabs HF1.out (by rw [HL1.out]; exact hb1)) (Nat.le_refl _) (own_ints X27.out HI2.out.2.1 hb2) (Nat.le_refl _)).mono ?_
  rintro e W28 ⟨v0_28, rfl, o0_28, b28⟩
  obtain ⟨gh0, ch0, rfl⟩ := own_form o0_28
  have B28 : Below w.heap.size w W28 := bel_then b28 B27.size B27
  have sB28 := b28.size
  have HA_28 := hidden (HA_27.out.below b28 HA_27.out.lt)
  clear HA_27
  have Yw0_28 := hidden (own_bel Yw0_27.out b28)
  clear Yw0_27
  have Hw1_28 := hidden (Hw1_27.out.below b28 Hw1_27.out.lt)
  clear Hw1_27
  have Yg0_28 := hidden (own_bel Yg0_27.out b28)
  clear Yg0_27
  have Hg1_28 := hidden (Hg1_27.out.below b28 Hg1_27.out.lt)
  clear Hg1_27
  have X26_28 := hidden (X26_27.out.below b28)
  clear X26_27
  have X27_28 := hidden (own_bel X27.out b28)
  clear X27
  have Yh0 := hidden o0_28
  have Qh0 := own_ranged o0_28
  clear o0_28
  clear b28
  have q29_HAa := HA_28.out.cell 0
  have q29_HAb := HA_28.out.cell 1
  have q29_HAl := HA_28.out.lt
  simp at q29_HAa q29_HAb
  have q29_HAn : ¬ w.heap.size = W28.heap.size := by omega
  have q29_Hw1a := Hw1_28.out.cell 0
  have q29_Hw1b := Hw1_28.out.cell 1
  have q29_Hw1l := Hw1_28.out.lt
  simp at q29_Hw1a q29_Hw1b
  have q29_Hw1n : ¬ W7.heap.size = W28.heap.size := by omega
  have q29_Hg1a := Hg1_28.out.cell 0
  have q29_Hg1b := Hg1_28.out.cell 1
  have q29_Hg1l := Hg1_28.out.lt
  simp at q29_Hg1a q29_Hg1b
  have q29_Hg1n : ¬ W12.heap.size = W28.heap.size := by omega
  obtain ⟨N29, hN29⟩ : ∃ N, N = (W28.alloc (.cells #[.string t1, .int .i64 r1] 48)) := ⟨_, rfl⟩
  have hb29_ : Below W28.heap.size W28 N29 := by rw [hN29]; exact (Below.refl _ _).alloc (Nat.le_refl _) _
  have Hh1 : Hid (Has N29 W28.heap.size 48 #[.string t1, .int .i64 r1]) := hidden (by rw [hN29]; exact Has.fresh _ _ _)
  have lHh1 := Hh1.out.lt
  have B29 : Below w.heap.size w N29 := bel_then hb29_ B28.size B28
  have sB29 := hb29_.size
  have HA_29 := hidden (HA_28.out.below hb29_ HA_28.out.lt)
  clear HA_28
  have Yw0_29 := hidden (own_bel Yw0_28.out hb29_)
  clear Yw0_28
  have Hw1_29 := hidden (Hw1_28.out.below hb29_ Hw1_28.out.lt)
  clear Hw1_28
  have Yg0_29 := hidden (own_bel Yg0_28.out hb29_)
  clear Yg0_28
  have Hg1_29 := hidden (Hg1_28.out.below hb29_ Hg1_28.out.lt)
  clear Hg1_28
  have X26_29 := hidden (X26_28.out.below hb29_)
  clear X26_28
  have X27_29 := hidden (own_bel X27_28.out hb29_)
  clear X27_28
  have Yh0_29 := hidden (own_bel Yh0.out hb29_)
  clear Yh0
  clear hb29_
  clear X26_29
  clear X27_29
  go_wp2_with fail
  rw [← hN29]
  refine (eq_e _ _ _ _ y0 N29 HY0.out (own_ints Yh0_29.out HR0.out hm0) (own_ints Yw0_29.out HR0.out hm0)).mono ?_
  rintro e W30 ⟨rfl, b30⟩
  clear hN29 q29_HAa q29_HAb q29_HAl q29_HAn q29_Hw1a q29_Hw1b q29_Hw1l q29_Hw1n q29_Hg1a q29_Hg1b q29_Hg1l q29_Hg1n
  have B30 : Below w.heap.size w W30 := bel_then b30 B29.size B29
  have sB30 := b30.size
  have HA_30 := hidden (HA_29.out.below b30 HA_29.out.lt)
  clear HA_29
  have Yw0_30 := hidden (own_bel Yw0_29.out b30)
  clear Yw0_29
  have Hw1_30 := hidden (Hw1_29.out.below b30 Hw1_29.out.lt)
  clear Hw1_29
  have Yg0_30 := hidden (own_bel Yg0_29.out b30)
  clear Yg0_29
  have Hg1_30 := hidden (Hg1_29.out.below b30 Hg1_29.out.lt)
  clear Hg1_29
  have Yh0_30 := hidden (own_bel Yh0_29.out b30)
  clear Yh0_29
  have Hh1_30 := hidden (Hh1.out.below b30 Hh1.out.lt)
  clear Hh1
  clear b30
  have e30_Hh1a := Hh1_30.out.cell 0
  have e30_Hh1b := Hh1_30.out.cell 1
  simp at e30_Hh1a e30_Hh1b
  have e30_Hw1a := Hw1_30.out.cell 0
  have e30_Hw1b := Hw1_30.out.cell 1
  simp at e30_Hw1a e30_Hw1b
  go_wp2_with fail
  refine (eqRd_e t1 r1 W30).mono ?_
  rintro e W31 ⟨rfl, b31⟩
  clear e30_Hh1a e30_Hh1b e30_Hw1a e30_Hw1b
  have B31 : Below w.heap.size w W31 := bel_then b31 B30.size B30
  have sB31 := b31.size
  have HA_31 := hidden (HA_30.out.below b31 HA_30.out.lt)
  clear HA_30
  have Yw0_31 := hidden (own_bel Yw0_30.out b31)
  clear Yw0_30
  have Hw1_31 := hidden (Hw1_30.out.below b31 Hw1_30.out.lt)
  clear Hw1_30
  have Yg0_31 := hidden (own_bel Yg0_30.out b31)
  clear Yg0_30
  have Hg1_31 := hidden (Hg1_30.out.below b31 Hg1_30.out.lt)
  clear Hg1_30
  have Yh0_31 := hidden (own_bel Yh0_30.out b31)
  clear Yh0_30
  have Hh1_31 := hidden (Hh1_30.out.below b31 Hh1_30.out.lt)
  clear Hh1_30
  clear b31
  go_wp2_with fail
  refine (held_e _ W31 Yg0_31.out hm0).mono ?_
  rintro e _ ⟨rfl, rfl⟩
  go_wp2
  go_ret
  exact ⟨rfl, B31⟩
set_option maxRecDepth 100000 in
theorem walk_FnExactGetCoded (hM : MeetsGetCoded) (w : World) (s0 : ByteArray) (a0 : Int) (w0 : s0.size ≤ maxLen) (b0 : -9223372036854775808 ≤ a0) (d0 : a0 ≤ 9223372036854775807) (a1 : Option Addr) (len1 cap1 : Nat) (R1 : Nat → Option Addr × Nat × Nat × List Int) (w1 : IsTabs w a1 len1 cap1 R1) (a2 : Option Addr) (len2 cap2 : Nat) (z2 : List Int) (w2 : IsRow .i64 w a2 len2 cap2 z2) (a3 : Int) (b3 : -9223372036854775808 ≤ a3) (d3 : a3 ≤ 9223372036854775807) :
    Calls Try.prog 10 #[.agg #[.string s0, .int .i64 a0], .slice a1 len1 cap1, .slice a2 len2 cap2, .int .i64 a3] w fun e w' => e = .returned (.bool true) ∧ Below w.heap.size w w' := by
  have hl1 := istabs_len w1
  have hl2 := isrow_lenE w2
  by_cases hb2 : len2 ≤ 1048576
  rotate_left
  · have hx : (1048576 : Int) < (len2 : Int) := by omega
    clear hM
    go_enter Try.func10, Try.ntmps10
    go_wp2
    go_ret
    first | exact ⟨rfl, Below.refl _ _⟩ | exact ⟨rfl, (Below.refl _ _).alloc (Nat.le_refl _) _⟩
  by_cases hb0 : s0.size ≤ 1048576
  rotate_left
  · have hx : 1048576 < s0.size := by omega
    have hx2 : ¬ (1048576 : Int) < (len2 : Int) := by omega
    have c0 := (Has.fresh w 46 #[.string s0, .int .i64 a0]).cell 0
    have c1 := (Has.fresh w 46 #[.string s0, .int .i64 a0]).cell 1
    simp at c0 c1
    clear hM
    go_enter Try.func10, Try.ntmps10
    go_wp2_with fail
    refine (szRd_no s0 a0 1048576 _ hx w0 (Nat.le_refl _)).mono ?_
    rintro e w1 ⟨rfl, b1⟩
    go_wp2
    go_ret
    exact ⟨rfl, bel_then b1 (by simp) ((Below.refl _ _).alloc (Nat.le_refl _) _)⟩
  by_cases hb1 : len1 + sumR R1 len1 ≤ 1048576 - s0.size
  rotate_left
  · have hrow := w1
    have hx2 : ¬ (1048576 : Int) < (len2 : Int) := by omega
    have KZ : Hid (∀ W, Below w.heap.size w W → Calls Try.prog 25 #[.slice a1 len1 cap1, .int .i64 ((1048576 - s0.size : Nat) : Int)] W fun e w' => e = .returned (.int .i64 (-1)) ∧ Below W.heap.size W w') := hidden (fun W hW => by
      have := szTableS_any a1 len1 cap1 (1048576 - s0.size) R1 w W w1 hW (by omega)
      rw [if_neg hb1] at this
      exact this)
    clear hM hrow w1 w2
    have c0 := (Has.fresh w 46 #[.string s0, .int .i64 a0]).cell 0
    have c1 := (Has.fresh w 46 #[.string s0, .int .i64 a0]).cell 1
    simp at c0 c1
    go_enter Try.func10, Try.ntmps10
    go_wp2_with fail
    refine (szRd_ok s0 a0 1048576 _ hb0 (Nat.le_refl _)).mono ?_
    rintro e w1 ⟨rfl, b1⟩
    have bw1 := bel_then b1 (by simp) ((Below.refl _ _).alloc (Nat.le_refl _) (.cells #[.string s0, .int .i64 a0] 46))
    go_wp2_with fail
    refine (KZ.out _ bw1).mono ?_
    rintro e w2 ⟨rfl, b2⟩
    have bw2 := bel_then b2 bw1.size bw1
    go_wp2
    go_ret
    exact ⟨rfl, bw2⟩
  obtain ⟨y1', hl1', hI1, hs1⟩ := w1.tabs (by omega)
  have hsu1 : sumT y1' y1'.length = sumR R1 len1 := by rw [hl1']; exact sumT_sumR hs1 _ (Nat.le_refl _)
  have hF1 : FitT y1' := hI1.range (fun i hi => by have := sumT_one y1' hi; omega)
  obtain ⟨y2', hl2', hI2⟩ := Ints.ofRowE w2 hb2
  obtain ⟨y0, t1, r1, r2, ⟨hm0, hr0⟩, hs, hi⟩ := hM s0 a0 y1' y2' a3 hb0 b0 d0 (by rw [hsu1, hl1']; omega) hF1 (by rw [hl2']; exact hb2) hI2.2.1 b3 d3
  rw [hl1'] at hs hi
  rw [hl2'] at hs hi
  exact in_FnExactGetCoded w s0 a0 hb0 b0 d0 a1 len1 cap1 y1' (hidden hI1) (hidden hl1') (by omega) (hidden hF1) _ (hidden rfl) (by rw [hsu1]; omega) _ (hidden (fun W hW => by have := szTableS_any a1 len1 cap1 (1048576 - s0.size) R1 w W w1 hW (by omega); rw [if_pos hb1] at this; exact this)) a2 len2 cap2 y2' (hidden hI2) (hidden hl2') hb2 a3 b3 d3 y0 t1 r1 r2 _ (hidden rfl) hm0 (hidden hr0) (hidden hs) (hidden hi)
end Go.Proofs.Ytaaahmfkdiogkaa
namespace Go.Proofs.Ytaaahmfkdiogkaa
set_option linter.unusedVariables false
set_option linter.unusedSimpArgs false
open Go.RowKit

def AskGroups : Prop := ∀ (n : Int) (w : World), -9223372036854775808 ≤ n → n ≤ 9223372036854775807 →
  Calls Try.prog 15 #[.int .i64 n] w fun e w' => e = .returned (.int .i64 (grpZ n)) ∧ Below w.heap.size w w'
def AskChoose : Prop := ∀ (a : Option Addr) (cap B n k : Nat) (S : List Int) (w : World), Ints w B a S → B ≤ w.heap.size → S.length ≤ cap → rowB S n = true → 1 ≤ k → k ≤ 4 →
  Calls Try.prog 18 #[.slice a S.length cap, .int .i64 n, .int .i64 k] w fun e w' => ∃ v V u, e = .returned (.tuple #[v, u]) ∧ OwnT w' w.heap.size w'.heap.size v V (tab2 S n k) ∧ w'.ownsRow w.heap.size 3 1 u (grp S.length) (intsV (sel2 S n k)) ∧ (∀ x ∈ V, u.ownBlock = none ∨ u.ownBlock ≠ x.ownBlock) ∧ Below w.heap.size w w'
def AskChooseNo : Prop := ∀ (a : Option Addr) (cap B : Nat) (n k : Int) (S : List Int) (w : World), Ints w B a S → B ≤ w.heap.size → S.length ≤ cap → S.length ≤ 1048576 → -9223372036854775808 ≤ n → n ≤ 9223372036854775807 → -9223372036854775808 ≤ k → k ≤ 9223372036854775807 → choOk S n k = false →
  Calls Try.prog 18 #[.slice a S.length cap, .int .i64 n, .int .i64 k] w fun e w' => e = .returned (.tuple #[.slice none 0 0, .slice none 0 0]) ∧ Below w.heap.size w w'
def AskTablesOk : Prop := ∀ (a : Option Addr) (cap B : Nat) (n : Int) (T : List (List Int)) (w : World), Tabs w B a T → B ≤ w.heap.size → T.length ≤ cap → T.length ≤ 1048576 → -9223372036854775808 ≤ n → n ≤ 9223372036854775807 →
  Calls Try.prog 28 #[.slice a T.length cap, .int .i64 n] w fun e w' => e = .returned (.bool (tbOk T n)) ∧ Below w.heap.size w w'
def AskPutSels : Prop := ∀ (a : Option Addr) (cap B k : Nat) (z : List Int) (w : World), Ints w B a z → B ≤ w.heap.size → z.length ≤ cap → 1 ≤ k → k ≤ 4 → rOk z k = true →
  Calls Try.prog 30 #[.slice a z.length cap, .int .i64 k] w fun e w' => ∃ D, Packs D (unaL (mtfD z k)) ∧ e = .returned (.tuple #[.agg #[.string (strOf D), .int .i64 ((unaL (mtfD z k)).length : Int)], .bool true]) ∧ Below w.heap.size w w'
def AskPutSelsNo : Prop := ∀ (a : Option Addr) (cap B : Nat) (z : List Int) (k : Int) (w : World), Ints w B a z → B ≤ w.heap.size → z.length ≤ cap → z.length ≤ 1048576 → -9223372036854775808 ≤ k → k ≤ 9223372036854775807 → selOk z k = false →
  Calls Try.prog 30 #[.slice a z.length cap, .int .i64 k] w fun e w' => e = .returned (.tuple #[.agg #[.string ⟨#[]⟩, .int .i64 0], .bool false]) ∧ Below w.heap.size w w'
def AskGetSels : Prop := ∀ (s : ByteArray) (at0 n k : Nat) (w : World), s.size ≤ 1048576 → at0 ≤ 8 * s.size → n ≤ 600 → 1 ≤ k → k ≤ 4 →
  Calls Try.prog 35 #[.agg #[.string s, .int .i64 at0], .int .i64 n, .int .i64 k] w (GS12 s at0 n k w)
def AskGetSelsNo : Prop := ∀ (s : ByteArray) (at0 n k : Int) (w : World), s.size ≤ 1048576 → -9223372036854775808 ≤ at0 → at0 ≤ 9223372036854775807 → -9223372036854775808 ≤ n → n ≤ 9223372036854775807 → -9223372036854775808 ≤ k → k ≤ 9223372036854775807 → ¬ (0 ≤ at0 ∧ at0 ≤ 8 * s.size ∧ 0 ≤ n ∧ n ≤ 600 ∧ 1 ≤ k ∧ k ≤ 4) →
  Calls Try.prog 35 #[.agg #[.string s, .int .i64 at0], .int .i64 n, .int .i64 k] w fun e w' => e = .returned (.tuple #[.slice none 0 0, .agg #[.string ⟨#[]⟩, .int .i64 0], .bool false]) ∧ Below w.heap.size w w'
def AskPutCoded : Prop := ∀ (a at2 a3 : Option Addr) (cap capT cap3 B : Nat) (S G : List Int) (T : List (List Int)) (w : World), Ints w B a S → Tabs w B at2 T → Ints w B a3 G → B ≤ w.heap.size → S.length ≤ cap → T.length ≤ capT → G.length ≤ cap3 → cdOk S T G = true →
  Calls Try.prog 38 #[.slice a S.length cap, .slice at2 T.length capT, .slice a3 G.length cap3] w fun e w' => ∃ D, Packs D (cpF S T G S.length) ∧ e = .returned (.tuple #[.agg #[.string (strOf D), .int .i64 (cpN S T G S.length : Int)], .bool true]) ∧ Below w.heap.size w w'
def AskPutCodedNo : Prop := ∀ (a at2 a3 : Option Addr) (cap capT cap3 B : Nat) (S G : List Int) (T : List (List Int)) (w : World), Ints w B a S → Tabs w B at2 T → Ints w B a3 G → B ≤ w.heap.size → S.length ≤ cap → T.length ≤ capT → G.length ≤ cap3 → S.length ≤ 1048576 → T.length ≤ 1048576 → G.length ≤ 1048576 → cdOk S T G = false →
  Calls Try.prog 38 #[.slice a S.length cap, .slice at2 T.length capT, .slice a3 G.length cap3] w fun e w' => e = .returned (.tuple #[.agg #[.string ⟨#[]⟩, .int .i64 0], .bool false]) ∧ Below w.heap.size w w'
def AskCodedBits : Prop := ∀ (a at2 a3 : Option Addr) (cap capT cap3 B : Nat) (S G : List Int) (T : List (List Int)) (w : World), Ints w B a S → Tabs w B at2 T → Ints w B a3 G → B ≤ w.heap.size → S.length ≤ cap → T.length ≤ capT → G.length ≤ cap3 → S.length ≤ 1048576 → T.length ≤ 1048576 → G.length ≤ 1048576 →
  Calls Try.prog 40 #[.slice a S.length cap, .slice at2 T.length capT, .slice a3 G.length cap3] w fun e w' => e = .returned (.int .i64 (cbZ S T G)) ∧ Below w.heap.size w w'
def AskGetCoded : Prop := ∀ (at2 a3 : Option Addr) (capT cap3 B at0 : Nat) (G : List Int) (T : List (List Int)) (s : ByteArray) (e0 : Int) (w : World), Tabs w B at2 T → Ints w B a3 G → B ≤ w.heap.size → T.length ≤ capT → G.length ≤ cap3 → gdOk T G = true → s.size ≤ 1048576 → at0 ≤ 8 * s.size → -9223372036854775808 ≤ e0 → e0 ≤ 9223372036854775807 →
  Calls Try.prog 42 #[.agg #[.string s, .int .i64 at0], .slice at2 T.length capT, .slice a3 G.length cap3, .int .i64 e0] w (GC12 s at0 T G e0 w)
def AskGetCodedNo : Prop := ∀ (at2 a3 : Option Addr) (capT cap3 B : Nat) (at0 : Int) (G : List Int) (T : List (List Int)) (s : ByteArray) (e0 : Int) (w : World), Tabs w B at2 T → Ints w B a3 G → B ≤ w.heap.size → T.length ≤ capT → G.length ≤ cap3 → T.length ≤ 1048576 → G.length ≤ 1048576 → s.size ≤ 1048576 → -9223372036854775808 ≤ at0 → at0 ≤ 9223372036854775807 → -9223372036854775808 ≤ e0 → e0 ≤ 9223372036854775807 → ¬ (0 ≤ at0 ∧ at0 ≤ 8 * s.size ∧ gdOk T G = true) →
  Calls Try.prog 42 #[.agg #[.string s, .int .i64 at0], .slice at2 T.length capT, .slice a3 G.length cap3, .int .i64 e0] w fun e w' => e = .returned (.tuple #[.slice none 0 0, .agg #[.string ⟨#[]⟩, .int .i64 0], .bool false]) ∧ Below w.heap.size w w'

theorem ownT_of {w : World} {lo n : Nat} {v : Value} {V : List Value} {T : List (List Int)} (h : w.ownsRow lo 65 1 v n V) (hn : T.length = n) (hR : RowsAt w lo V T) (hA : ApartV V) : OwnT w lo w.heap.size v V T := by
  subst hn
  refine ⟨h, hR, own_ranged h, fun u hu => ?_, fun i j hij hj => hA i j hij (by rw [hR.1]; exact hj)⟩
  obtain ⟨k, hk, rfl⟩ := memV_getD hu
  exact own_ranged (hR.2 k (by rw [← hR.1]; exact hk))
theorem sumT_le {T : List (List Int)} {m : Nat} (h : ∀ i, i < T.length → (T.getD i []).length ≤ m) : ∀ i, i ≤ T.length → sumT T i ≤ i * m
  | 0, _ => by simp [sumT]
  | i + 1, hi => by
    have ih := sumT_le h i (by omega)
    have h1 := h i (by omega)
    show sumT T i + (T.getD i []).length ≤ _
    rw [Nat.succ_mul]; omega
theorem rowB_nat {S : List Int} {n : Int} (h : rowB S n = true) : n = ((n.toNat : Nat) : Int) ∧ 1 ≤ n.toNat ∧ n.toNat ≤ 260 ∧ S.length ≤ 2000 := by
  obtain ⟨⟨h1, h2⟩, h3, _⟩ := (rowB_iff S n).1 h
  omega
theorem meetsGroups (hA : AskGroups) : MeetsGroups := fun a0 b0 d0 => ⟨grpZ a0, fun W => (specGroups_any a0 W).mono (by rintro e w' ⟨h, rfl⟩; exact ⟨h, Below.refl _ _⟩), fun W => hA a0 W b0 d0⟩
theorem tab2_fit {S : List Int} {n k : Nat} (h1 : 1 ≤ n) (h2 : n ≤ 260) (hS : S.length ≤ 2000) (hk : k ≤ 4) : (tab2 S n k).length = k ∧ (tab2 S n k).length + sumT (tab2 S n k) (tab2 S n k).length ≤ 1048576 ∧ FitT (tab2 S n k) := by
  have hl : (tab2 S n k).length = k := tabL_len _ _ _ _
  have hone : ∀ i, i < (tab2 S n k).length → ((tab2 S n k).getD i []).length ≤ 260 := fun i hi => by
    rw [hl] at hi
    have := (tabL_ok (S := S) (G := sel2 S n k) h1 h2 hS i hi).1
    show ((tabL S (sel2 S n k) n k).getD i []).length ≤ 260
    omega
  have hs := sumT_le hone _ (Nat.le_refl _)
  refine ⟨hl, by omega, fun i hi => ⟨by have := hone i hi; omega, ?_⟩⟩
  exact (tabL_fit (S := S) (G := sel2 S n k) h1 h2 hS i hi).2
theorem sel2_fit {S : List Int} {n k : Nat} (hk1 : 1 ≤ k) (hk : k ≤ 4) (hS : S.length ≤ 2000) : (sel2 S n k).length = grp S.length ∧ (sel2 S n k).length ≤ 1048576 ∧ ∀ x ∈ sel2 S n k, -9223372036854775808 ≤ x ∧ x ≤ 9223372036854775807 := by
  have hl := selR_len S n k 2
  rw [selR_two] at hl
  have := grp_le S.length
  refine ⟨hl, by omega, fun x hx => ?_⟩
  have := selR_small (S := S) (n := n) hk1 2 x (by rw [selR_two]; exact hx)
  omega
theorem meetsChoose (hA : AskChoose) (hN : AskChooseNo) : MeetsChoose := fun z0 a1 a2 hl hr b1 d1 b2 d2 => by
  by_cases hok : choOk z0 a1 a2 = true
  · have hok2 := hok
    unfold choOk at hok2
    rw [Bool.and_eq_true, decide_eq_true_eq] at hok2
    obtain ⟨hrow, hk1, hk4⟩ := hok2
    obtain ⟨e1, hn1, hn2, hS⟩ := rowB_nat hrow
    obtain ⟨n, hn⟩ : ∃ n, a1.toNat = n := ⟨_, rfl⟩
    rw [hn] at e1 hn1 hn2
    subst e1
    obtain ⟨k, rfl⟩ : ∃ k : Nat, a2 = k := ⟨a2.toNat, by omega⟩
    obtain ⟨ht, ht2, ht3⟩ := tab2_fit (S := z0) hn1 hn2 hS (by omega : k ≤ 4)
    obtain ⟨hs, hs2, hs3⟩ := sel2_fit (S := z0) (n := n) (by omega : 1 ≤ k) (by omega) hS
    refine ⟨tab2 z0 n k, sel2 z0 n k, ⟨ht2, ht3⟩, ⟨hs2, hs3⟩, ?_, ?_⟩
    · intro W p c h _
      refine (specChoose_yes (some p) c W.heap.size n k z0 W h (Nat.le_refl _) hrow (by omega) (by omega)).mono ?_
      rintro e w' ⟨v, V, u, rfl, o1, R1, A1, U1, o2, b⟩
      refine ⟨v, V, u, rfl, ownT_of o1 ht R1 A1, by rw [hs]; exact o2, hidden fun x hx => ?_, b⟩
      obtain ⟨j, hj, rfl⟩ := memV_getD hx
      exact U1 j hj
    · intro W p c h hc
      refine (hA (some p) c W.heap.size n k z0 W h (Nat.le_refl _) hc hrow (by omega) (by omega)).mono ?_
      rintro e w' ⟨v, V, u, rfl, o1, o2, U1, b⟩
      exact ⟨v, V, u, rfl, o1, by rw [hs]; exact o2, hidden U1, b⟩
  · have hno : choOk z0 a1 a2 = false := by simpa using hok
    refine ⟨[], [], ⟨by simp [sumT], fun i hi => by cases hi⟩, ⟨by simp, fun x hx => by cases hx⟩, ?_, ?_⟩
    · intro W p c h _
      refine (specChoose_no (some p) c W.heap.size z0 a1 a2 W h b1 d1 hno).mono ?_
      rintro e w' ⟨rfl, rfl⟩
      exact ⟨_, [], _, rfl, OwnT.nil _ _ _, World.ownsRow_nil _ _ _ _, hidden (fun x hx => by cases hx), Below.refl _ _⟩
    · intro W p c h hc
      refine (hN (some p) c W.heap.size a1 a2 z0 W h (Nat.le_refl _) hc hl b1 d1 b2 d2 hno).mono ?_
      rintro e w' ⟨rfl, b⟩
      exact ⟨_, [], _, rfl, OwnT.nil _ _ _, World.ownsRow_nil _ _ _ _, hidden (fun x hx => by cases hx), b⟩
theorem meetsTablesOk (hA : AskTablesOk) : MeetsTablesOk := fun z0 a1 hl hf b1 d1 => by
  refine ⟨tbOk z0 a1, ?_, ?_⟩
  · intro W p c h _
    exact (specTablesOk_any (some p) c W.heap.size z0 a1 W h).mono (by rintro e w' ⟨h, rfl⟩; exact ⟨h, Below.refl _ _⟩)
  · intro W p c h hc
    exact hA (some p) c W.heap.size a1 z0 W h (Nat.le_refl _) hc (by omega) b1 d1
theorem selOk_nat {z : List Int} {k : Int} (h : selOk z k = true) : k = ((k.toNat : Nat) : Int) ∧ 1 ≤ k.toNat ∧ k.toNat ≤ 4 ∧ rOk z k = true := by
  unfold selOk at h
  rw [Bool.and_eq_true, decide_eq_true_eq] at h
  exact ⟨by omega, by omega, by omega, h.2⟩
theorem meetsPutSels (hA : AskPutSels) (hN : AskPutSelsNo) : MeetsPutSels := fun z0 a1 hl hr b1 d1 => by
  by_cases hok : selOk z0 a1 = true
  · obtain ⟨e1, h1, h4, hro⟩ := selOk_nat hok
    obtain ⟨k, hk⟩ : ∃ k, a1.toNat = k := ⟨_, rfl⟩
    rw [hk] at e1 h1 h4
    subst e1
    by_cases hex : ∃ D, Packs D (unaL (mtfD z0 k))
    · obtain ⟨D, hD⟩ := hex
      refine ⟨strOf D, ((unaL (mtfD z0 k)).length : Int), true, ?_, ?_⟩
      · intro W p c h _
        refine (specPutSels_yes (some p) c W.heap.size k z0 W h (Nat.le_refl _) h1 h4 hro).mono ?_
        rintro e w' ⟨D2, hD2, he, hb⟩
        rw [hD2.unique hD] at he
        exact ⟨he, hb⟩
      · intro W p c h hc
        refine (hA (some p) c W.heap.size k z0 W h (Nat.le_refl _) hc h1 h4 hro).mono ?_
        rintro e w' ⟨D2, hD2, he, hb⟩
        rw [hD2.unique hD] at he
        exact ⟨he, hb⟩
    · refine ⟨⟨#[]⟩, 0, true, ?_, ?_⟩
      · intro W p c h _
        refine (specPutSels_yes (some p) c W.heap.size k z0 W h (Nat.le_refl _) h1 h4 hro).mono ?_
        rintro e w' ⟨D2, hD2, he, hb⟩
        exact absurd ⟨D2, hD2⟩ hex
      · intro W p c h hc
        refine (hA (some p) c W.heap.size k z0 W h (Nat.le_refl _) hc h1 h4 hro).mono ?_
        rintro e w' ⟨D2, hD2, he, hb⟩
        exact absurd ⟨D2, hD2⟩ hex
  · have hno : selOk z0 a1 = false := by simpa using hok
    refine ⟨⟨#[]⟩, 0, false, ?_, ?_⟩
    · intro W p c h _
      exact specPutSels_no (some p) c W.heap.size z0 a1 W h (Nat.le_refl _) hl b1 d1 hno
    · intro W p c h hc
      exact hN (some p) c W.heap.size z0 a1 W h (Nat.le_refl _) hc hl b1 d1 hno
theorem meetsCodedBits (hA : AskCodedBits) : MeetsCodedBits := fun z0 z1 z2 hl hr hl1 hf hl2 hr2 => by
  refine ⟨cbZ z0 z1 z2, ?_, ?_⟩
  · intro W p0 c0 p1 c1 p2 c2 h _ h1 hc h2 _
    exact (specCodedBits_any (some p0) (some p1) (some p2) c0 c1 c2 W.heap.size z0 z2 z1 W h h1 h2 hc).mono (by rintro e w' ⟨h, rfl⟩; exact ⟨h, Below.refl _ _⟩)
  · intro W p0 c0 p1 c1 p2 c2 h hc0 h1 hc h2 hc2
    exact hA (some p0) (some p1) (some p2) c0 c1 c2 W.heap.size z0 z2 z1 W h h1 h2 (Nat.le_refl _) hc0 hc hc2 hl (by omega) hl2
theorem meetsPutCoded (hA : AskPutCoded) (hN : AskPutCodedNo) : MeetsPutCoded := fun z0 z1 z2 hl hr hl1 hf hl2 hr2 => by
  by_cases hok : cdOk z0 z1 z2 = true
  · by_cases hex : ∃ D, Packs D (cpF z0 z1 z2 z0.length)
    · obtain ⟨D, hD⟩ := hex
      refine ⟨strOf D, (cpN z0 z1 z2 z0.length : Int), true, ?_, ?_⟩
      · intro W p0 c0 p1 c1 p2 c2 h _ h1 hc h2 _
        refine (specPutCoded_yes (some p0) (some p1) (some p2) c0 c1 c2 W.heap.size z0 z2 z1 W h h1 h2 (Nat.le_refl _) hc hok).mono ?_
        rintro e w' ⟨D2, hD2, he, hb⟩
        rw [hD2.unique hD] at he
        exact ⟨he, hb⟩
      · intro W p0 c0 p1 c1 p2 c2 h hc0 h1 hc h2 hc2
        refine (hA (some p0) (some p1) (some p2) c0 c1 c2 W.heap.size z0 z2 z1 W h h1 h2 (Nat.le_refl _) hc0 hc hc2 hok).mono ?_
        rintro e w' ⟨D2, hD2, he, hb⟩
        rw [hD2.unique hD] at he
        exact ⟨he, hb⟩
    · refine ⟨⟨#[]⟩, 0, true, ?_, ?_⟩
      · intro W p0 c0 p1 c1 p2 c2 h _ h1 hc h2 _
        refine (specPutCoded_yes (some p0) (some p1) (some p2) c0 c1 c2 W.heap.size z0 z2 z1 W h h1 h2 (Nat.le_refl _) hc hok).mono ?_
        rintro e w' ⟨D2, hD2, he, hb⟩
        exact absurd ⟨D2, hD2⟩ hex
      · intro W p0 c0 p1 c1 p2 c2 h hc0 h1 hc h2 hc2
        refine (hA (some p0) (some p1) (some p2) c0 c1 c2 W.heap.size z0 z2 z1 W h h1 h2 (Nat.le_refl _) hc0 hc hc2 hok).mono ?_
        rintro e w' ⟨D2, hD2, he, hb⟩
        exact absurd ⟨D2, hD2⟩ hex
  · have hno : cdOk z0 z1 z2 = false := by simpa using hok
    refine ⟨⟨#[]⟩, 0, false, ?_, ?_⟩
    · intro W p0 c0 p1 c1 p2 c2 h _ h1 hc h2 _
      exact specPutCoded_no (some p0) (some p1) (some p2) c0 c1 c2 W.heap.size z0 z2 z1 W h h1 h2 (Nat.le_refl _) hc hno
    · intro W p0 c0 p1 c1 p2 c2 h hc0 h1 hc h2 hc2
      exact hN (some p0) (some p1) (some p2) c0 c1 c2 W.heap.size z0 z2 z1 W h h1 h2 (Nat.le_refl _) hc0 hc hc2 hl (by omega) hl2 hno
theorem umtZ_range12 (z : List Int) (n : Int) : (umtZ z n).length ≤ 1048576 ∧ ∀ x ∈ umtZ z n, -9223372036854775808 ≤ x ∧ x ≤ 9223372036854775807 := by
  by_cases hok : rOk z n = true
  · obtain ⟨L, m, rfl, rfl, hm1, hm2, hL6, hLm⟩ := rOk_nats hok
    rw [umtZ_yes hok]
    have hlt := umt_lt hLm
    refine ⟨by rw [ints_len, runF_len]; omega, fun x hx => ?_⟩
    obtain ⟨y, hy, rfl⟩ := List.mem_map.1 hx
    have := hlt y hy
    omega
  · rw [umtZ_no (by simpa using hok)]
    exact ⟨by simp, fun x hx => by cases hx⟩
theorem unas_len12 {s : ByteArray} {k a c : Nat} {D : List Nat} (h : Unas s k a D c) (hD : D.length ≤ 600) (hk1 : 1 ≤ k) (hk : k ≤ 4) : (umtZ (ints D) k).length = D.length := by
  have hok : rOk (ints D) k = true := by
    rw [rOk_iff]
    refine ⟨by omega, by omega, by rw [ints_len]; exact hD, fun x hx => ?_⟩
    unfold ints at hx
    rw [List.mem_map] at hx
    obtain ⟨y, hy, rfl⟩ := hx
    have := h.lt y hy
    omega
  unfold umtZ
  rw [if_pos hok, ints_len, runF_len, List.length_map, ints_len]
theorem meetsGetSels (hA : AskGetSels) (hN : AskGetSelsNo) : MeetsGetSels := fun s0 a0 a1 a2 hs b0 d0 b1 d1 b2 d2 => by
  by_cases hok : 0 ≤ a0 ∧ a0 ≤ 8 * s0.size ∧ 0 ≤ a1 ∧ a1 ≤ 600 ∧ 1 ≤ a2 ∧ a2 ≤ 4
  · obtain ⟨h1, h2, h3, h4, h5, h6⟩ := hok
    obtain ⟨q, rfl⟩ : ∃ q : Nat, a0 = q := ⟨a0.toNat, by omega⟩
    obtain ⟨n, rfl⟩ : ∃ q : Nat, a1 = q := ⟨a1.toNat, by omega⟩
    obtain ⟨k, rfl⟩ : ∃ q : Nat, a2 = q := ⟨a2.toNat, by omega⟩
    by_cases hex : ∃ D c, D.length = n ∧ Unas s0 k q D c
    · obtain ⟨D, c, hD, hu⟩ := hex
      have hl := unas_len12 hu (by omega) (by omega) (by omega)
      have use : ∀ {W : World} {e : Ending} {w' : World}, GS12 s0 q n k W e w' → ∃ v0, e = .returned (.tuple #[v0, .agg #[.string s0, .int .i64 (c : Int)], .bool true]) ∧ w'.ownsRow W.heap.size 3 1 v0 (umtZ (ints D) k).length (intsV (umtZ (ints D) k)) ∧ Below W.heap.size W w' := by
        rintro W e w' ⟨⟨D2, c2, v, hD2, hu2, rfl, o⟩ | ⟨hno, rfl⟩, b⟩
        · obtain ⟨rfl, rfl⟩ := hu2.one hu (by omega)
          exact ⟨v, rfl, by rw [hl, hD]; exact o, b⟩
        · exact absurd hu (hno D c hD)
      exact ⟨_, s0, (c : Int), true, umtZ_range12 _ _, fun W => (specGetSels_any s0 q n k W hs (by omega) (by omega) (by omega) (by omega)).mono fun e w' h => use h, fun W => (hA s0 q n k W hs (by omega) (by omega) (by omega) (by omega)).mono fun e w' h => use h⟩
    · have use : ∀ {W : World} {e : Ending} {w' : World}, GS12 s0 q n k W e w' → ∃ v0, e = .returned (.tuple #[v0, .agg #[.string ⟨#[]⟩, .int .i64 0], .bool false]) ∧ w'.ownsRow W.heap.size 3 1 v0 ([] : List Int).length (intsV []) ∧ Below W.heap.size W w' := by
        rintro W e w' ⟨⟨D2, c2, v, hD2, hu2, rfl, o⟩ | ⟨hno, rfl⟩, b⟩
        · exact absurd ⟨D2, c2, hD2, hu2⟩ hex
        · exact ⟨_, rfl, World.ownsRow_nil _ _ _ _, b⟩
      exact ⟨[], ⟨#[]⟩, 0, false, ⟨by simp, fun x hx => by cases hx⟩, fun W => (specGetSels_any s0 q n k W hs (by omega) (by omega) (by omega) (by omega)).mono fun e w' h => use h, fun W => (hA s0 q n k W hs (by omega) (by omega) (by omega) (by omega)).mono fun e w' h => use h⟩
  · exact ⟨[], ⟨#[]⟩, 0, false, ⟨by simp, fun x hx => by cases hx⟩, fun W => (specGetSels_no s0 a0 a1 a2 W hs b0 d0 b1 d1 b2 d2 hok).mono (by rintro e w' ⟨rfl, b⟩; exact ⟨_, rfl, World.ownsRow_nil _ _ _ _, b⟩), fun W => (hN s0 a0 a1 a2 W hs b0 d0 b1 d1 b2 d2 hok).mono (by rintro e w' ⟨rfl, b⟩; exact ⟨_, rfl, World.ownsRow_nil _ _ _ _, b⟩)⟩
theorem fin_range {s : ByteArray} {T : List (List Int)} {G : List Int} {e : Int} {a b : Nat} {xs : List Nat} (hg : gdOk T G = true) (h : Fin12 s T G e a 0 xs b) : (ints xs).length ≤ 1048576 ∧ ∀ x ∈ ints xs, -9223372036854775808 ≤ x ∧ x ≤ 9223372036854775807 := by
  obtain ⟨hA, _, _, _, hn, _⟩ := gdOk_arg hg
  have := h.grp.2.2
  refine ⟨by rw [ints_len]; omega, fun x hx => ?_⟩
  unfold ints at hx
  rw [List.mem_map] at hx
  obtain ⟨y, hy, rfl⟩ := hx
  have := h.lt hA y hy
  omega
theorem meetsGetCoded (hA : AskGetCoded) (hN : AskGetCodedNo) : MeetsGetCoded := fun s0 a0 z1 z2 a3 hs b0 d0 hl1 hf hl2 hr2 b3 d3 => by
  by_cases hok : 0 ≤ a0 ∧ a0 ≤ 8 * s0.size ∧ gdOk z1 z2 = true
  · obtain ⟨h1, h2, h3⟩ := hok
    obtain ⟨q, rfl⟩ : ∃ q : Nat, a0 = q := ⟨a0.toNat, by omega⟩
    by_cases hex : ∃ xs c, Fin12 s0 z1 z2 a3 q 0 xs c
    · obtain ⟨xs, c, hu⟩ := hex
      have use : ∀ {W : World} {e : Ending} {w' : World}, GC12 s0 q z1 z2 a3 W e w' → ∃ v0, e = .returned (.tuple #[v0, .agg #[.string s0, .int .i64 (c : Int)], .bool true]) ∧ w'.ownsRow W.heap.size 3 1 v0 (ints xs).length (intsV (ints xs)) ∧ Below W.heap.size W w' := by
        rintro W e w' ⟨⟨xs2, c2, v, hu2, rfl, o⟩ | ⟨hno, rfl⟩, b⟩
        · obtain ⟨rfl, rfl⟩ := hu2.one (gdOk_arg h3).1 hu
          exact ⟨v, rfl, by rw [ints_len, intsV_ints]; exact o, b⟩
        · exact absurd hu (hno xs c)
      exact ⟨_, s0, (c : Int), true, fin_range h3 hu, fun W p1 c1 p2 c2 ht hc hg _ => (specGetCoded_any (some p1) (some p2) c1 c2 W.heap.size q z2 z1 s0 a3 W ht hg (Nat.le_refl _) hc h3 hs (by omega)).mono fun e w' h => use h, fun W p1 c1 p2 c2 ht hc hg hc2 => (hA (some p1) (some p2) c1 c2 W.heap.size q z2 z1 s0 a3 W ht hg (Nat.le_refl _) hc hc2 h3 hs (by omega) b3 d3).mono fun e w' h => use h⟩
    · have use : ∀ {W : World} {e : Ending} {w' : World}, GC12 s0 q z1 z2 a3 W e w' → ∃ v0, e = .returned (.tuple #[v0, .agg #[.string ⟨#[]⟩, .int .i64 0], .bool false]) ∧ w'.ownsRow W.heap.size 3 1 v0 ([] : List Int).length (intsV []) ∧ Below W.heap.size W w' := by
        rintro W e w' ⟨⟨xs2, c2, v, hu2, rfl, o⟩ | ⟨hno, rfl⟩, b⟩
        · exact absurd ⟨xs2, c2, hu2⟩ hex
        · exact ⟨_, rfl, World.ownsRow_nil _ _ _ _, b⟩
      exact ⟨[], ⟨#[]⟩, 0, false, ⟨by simp, fun x hx => by cases hx⟩, fun W p1 c1 p2 c2 ht hc hg _ => (specGetCoded_any (some p1) (some p2) c1 c2 W.heap.size q z2 z1 s0 a3 W ht hg (Nat.le_refl _) hc h3 hs (by omega)).mono fun e w' h => use h, fun W p1 c1 p2 c2 ht hc hg hc2 => (hA (some p1) (some p2) c1 c2 W.heap.size q z2 z1 s0 a3 W ht hg (Nat.le_refl _) hc hc2 h3 hs (by omega) b3 d3).mono fun e w' h => use h⟩
  · exact ⟨[], ⟨#[]⟩, 0, false, ⟨by simp, fun x hx => by cases hx⟩, fun W p1 c1 p2 c2 ht hc hg _ => (specGetCoded_no (some p1) (some p2) c1 c2 W.heap.size a0 z2 z1 s0 a3 W ht hg (Nat.le_refl _) hc hs b0 d0 hok).mono (by rintro e w' ⟨rfl, b⟩; exact ⟨_, rfl, World.ownsRow_nil _ _ _ _, b⟩), fun W p1 c1 p2 c2 ht hc hg hc2 => (hN (some p1) (some p2) c1 c2 W.heap.size a0 z2 z1 s0 a3 W ht hg (Nat.le_refl _) hc hc2 (by omega) hl2 hs b0 d0 b3 d3 hok).mono (by rintro e w' ⟨rfl, b⟩; exact ⟨_, rfl, World.ownsRow_nil _ _ _ _, b⟩)⟩
end Go.Proofs.Ytaaahmfkdiogkaa
namespace Go.Proofs.Ytaaahmfkdiogkaa
set_option linter.unusedVariables false
set_option linter.unusedSimpArgs false
open Go.RowKit

theorem gr_sel : sel2 [0, 0, 1] 2 1 = [0] := by
  unfold sel2 chL chN
  rw [tabL_len]
  decide +kernel
theorem lens21 : lensF [2, 1] 20 = [1, 1] := by
  have hp : List.Perm [((1 : Nat), (1 : Int)), (2, 0)] (items [2, 1] ([2, 1] : List Int).length) := List.Perm.swap _ _ _
  have hs : LexS [((1 : Nat), (1 : Int)), (2, 0)] := by unfold LexS lex; decide
  have e := leafL_eq hp hs
  unfold lensF
  rw [← e]
  decide +kernel
theorem gr_frq : frqL [0, 0, 1] [0] 0 2 = [2, 1] := by decide +kernel
theorem gr_tab : tab2 [0, 0, 1] 2 1 = [[1, 1]] := by
  unfold tab2
  rw [gr_sel]
  unfold tabL
  rw [show List.range 1 = [0] from rfl, List.map_singleton, gr_frq, lens21]
theorem gr_row : rowB [0, 0, 1] 2 = true := by decide +kernel
theorem gr_bits : cbZ [0, 0, 1] [[1, 1]] [0] = 3 := by decide +kernel
theorem gr_lit (w : World) : Ints (w.alloc (.cells #[.int .i64 0, .int .i64 0, .int .i64 1] 3)) (w.heap.size + 1) (some ⟨w.heap.size, 0, none⟩) [0, 0, 1] := Ints.lit w [0, 0, 1] (by decide) (by decide)
theorem gr_lit1 (w : World) : Ints (w.alloc (.cells #[.int .i64 1, .int .i64 1] 3)) (w.heap.size + 1) (some ⟨w.heap.size, 0, none⟩) [1, 1] := Ints.lit w [1, 1] (by decide) (by decide)
theorem gr_lit0 (w : World) : Ints (w.alloc (.cells #[.int .i64 0] 3)) (w.heap.size + 1) (some ⟨w.heap.size, 0, none⟩) [0] := Ints.lit w [0] (by decide) (by decide)
theorem gr_fit : FitT [[1, 1]] := fun i hi => by
  have : i = 0 := by simp at hi; exact hi
  subst this
  exact ⟨by decide, by decide⟩
theorem gr_c1 (hC : AskChoose) (W : World) : Calls Try.prog 18 #[.slice (some ⟨W.heap.size, 0, none⟩) 3 3, .int .i64 2, .int .i64 1] (W.alloc (.cells #[.int .i64 0, .int .i64 0, .int .i64 1] 3)) fun e w' => ∃ v V u, e = .returned (.tuple #[v, u]) ∧ OwnT w' (W.heap.size + 1) w'.heap.size v V [[1, 1]] ∧ w'.ownsRow (W.heap.size + 1) 3 1 u 1 (intsV [0]) ∧ Below (W.heap.size + 1) (W.alloc (.cells #[.int .i64 0, .int .i64 0, .int .i64 1] 3)) w' := by
  have h := hC (some ⟨W.heap.size, 0, none⟩) 3 (W.heap.size + 1) 2 1 [0, 0, 1] _ (gr_lit W) (by simp) (by decide) gr_row (by decide) (by decide)
  refine h.mono ?_
  rw [gr_tab, gr_sel, World.size_alloc]
  rintro e w' ⟨v, V, u, rfl, h1, h2, _, h3⟩
  exact ⟨v, V, u, rfl, h1, h2, h3⟩
theorem gr_s2 (a a2 : Option Addr) (c c2 B : Nat) (w : World) (h : Ints w B a [1, 1]) (h2 : Ints w B a2 [1, 1]) :
    Calls Try.prog 47 #[.slice a 2 c, .slice a2 2 c2] w fun e w' => e = .returned (.bool true) ∧ Below w.heap.size w w' := by
  have := sameInts_any a a2 c c2 B [1, 1] [1, 1] w h h2
  rw [decide_eq_true rfl] at this
  exact this
theorem gr_s1 (a a2 : Option Addr) (c c2 B : Nat) (w : World) (h : Ints w B a [0]) (h2 : Ints w B a2 [0]) :
    Calls Try.prog 47 #[.slice a 1 c, .slice a2 1 c2] w fun e w' => e = .returned (.bool true) ∧ Below w.heap.size w w' := by
  have := sameInts_any a a2 c c2 B [0] [0] w h h2
  rw [decide_eq_true rfl] at this
  exact this
theorem gr_cb (hB : AskCodedBits) (a at2 a3 : Option Addr) (capT cap3 B : Nat) (w : World) (h : Ints w B a [0, 0, 1]) (hT : Tabs w B at2 [[1, 1]]) (h3 : Ints w B a3 [0]) (hB2 : B ≤ w.heap.size) (hc : 1 ≤ capT) (hc3 : 1 ≤ cap3) :
    Calls Try.prog 40 #[.slice a 3 3, .slice at2 1 capT, .slice a3 1 cap3] w fun e w' => e = .returned (.int .i64 3) ∧ Below w.heap.size w w' := by
  have := hB a at2 a3 3 capT cap3 B [0, 0, 1] [0] [[1, 1]] w h hT h3 hB2 (by decide) hc hc3 (by decide) (by decide) (by decide)
  rw [gr_bits] at this
  exact this
theorem gr_gr (hG : AskGroups) (w : World) : Calls Try.prog 15 #[.int .i64 11] w fun e w' => e = .returned (.int .i64 2) ∧ Below w.heap.size w w' := hG 11 w (by decide) (by decide)
theorem own_cap12 {w : World} {base n c : Nat} {e : TypeId} {a : Option Addr} {xs : List Value} (h : w.ownsRow base e 1 (.slice a n c) n xs) : n ≤ c := by
  rcases h.2 with ⟨hv, h0⟩ | ⟨g, cap, cur, hv, _, _, hle, _⟩
  · omega
  · simp only [Value.slice.injEq] at hv
    obtain ⟨_, _, rfl⟩ := hv
    exact hle
set_option maxHeartbeats 2000000 in
set_option maxRecDepth 100000 in
theorem grAlive_any (hC : AskChoose) (hB : AskCodedBits) (hG : AskGroups) (w : World) : Calls Try.prog 44 #[] w fun e w' => e = .returned (.bool true) ∧ Below w.heap.size w w' := by
  have K1 := hidden (gr_c1 hC)
  have K4 := hidden (gr_cb hB)
  have K5 := hidden (gr_gr hG)
  clear hC hB hG
  go_enter Try.func44, Try.ntmps44
  go_wp2_with fail
  refine (K1.out _).mono ?_
  rintro e w1 ⟨v, V, u, rfl, hT, hu, hb⟩
  obtain ⟨av, cv, hv, hcv⟩ := hT.form
  have hcv1 : 1 ≤ cv := hcv
  simp only [List.length_cons, List.length_nil, Nat.zero_add] at hv
  subst hv
  obtain ⟨gT, bT, mT, eT, cT, eV, hgT⟩ := hT.cell (i := 0) (by decide)
  have hT0 : w1.ownsRow (w.heap.size + 1) 3 1 (V.getD 0 undef) 2 (intsV [1, 1]) := hT.rows.2 0 (by decide)
  have eV : V.getD 0 undef = .slice bT 2 mT := eV
  have cT : w1.cell? ⟨gT, 0, none⟩ = some (.slice bT 2 mT) := cT
  rw [eV] at hT0
  have hIT := hidden (Ints.ofOwn (zs := [1, 1]) hT0 (by decide) (by decide)).2
  obtain ⟨gu, cu, rfl⟩ := Joins.ownsRow_form hu (by decide)
  have hcu := own_cap12 hu
  have hIu := hidden (Ints.ofOwn hu (by decide) (by decide)).2
  have hTb := hidden (hT.tabs gr_fit (by decide))
  have h1 := hb.size
  simp at h1
  have bw : Below w.heap.size w w1 := ((Below.refl w.heap.size w).alloc (Nat.le_refl _) _).trans (hb.mono (by omega))
  subst eT
  clear hu K1 hb hT0 eV
  go_wp2_with fail
  refine (gr_s2 _ _ _ _ (w1.heap.size + 1) _ ?_ ?_).mono ?_
  · exact (hIT.out.below ((Below.refl _ _).alloc (Nat.le_refl _) _)).mono (by omega)
  · exact gr_lit1 _
  rintro e w2 ⟨rfl, b2⟩
  have h2 := b2.size
  simp at h2
  have b12 : Below w1.heap.size w1 w2 := bel_then b2 (by simp) ((Below.refl _ _).alloc (Nat.le_refl _) _)
  clear b2 hIT
  go_wp2_with fail
  refine (gr_s1 _ _ _ _ (w2.heap.size + 1) _ ?_ ?_).mono ?_
  · exact ((hIu.out.below b12).below ((Below.refl w1.heap.size w2).alloc (by omega) _)).mono (by omega)
  · exact gr_lit0 _
  rintro e w3 ⟨rfl, b3⟩
  have h3 := b3.size
  simp at h3
  have b13 : Below w1.heap.size w1 w3 := bel_then b3 (by simp; omega) (b12.alloc b12.size _)
  clear b3
  go_wp2_with fail
  refine (K4.out _ _ _ _ _ (w3.heap.size + 1) _ ?_ ?_ ?_ ?_ ?_ ?_).mono ?_
  · exact gr_lit _
  · exact (hTb.out.below (b13.alloc b13.size _)).mono (by omega)
  · exact (hIu.out.below (b13.alloc b13.size _)).mono (by omega)
  · simp
  · exact hcv1
  · exact hcu
  rintro e w4 ⟨rfl, b4⟩
  have h4 := b4.size
  simp at h4
  have b14 : Below w1.heap.size w1 w4 := bel_then b4 (by simp; omega) (b13.alloc b13.size _)
  clear b4
  go_wp2_with fail
  refine (K5.out _).mono ?_
  rintro e w5 ⟨rfl, b5⟩
  have b15 := bel_then b5 b14.size b14
  go_wp2
  go_ret
  exact ⟨rfl, bw.trans (b15.mono (by omega))⟩
end Go.Proofs.Ytaaahmfkdiogkaa
namespace Go.Proofs.Ytaaahmfkdiogkaa
set_option linter.unusedVariables false
set_option linter.unusedSimpArgs false
open Go.RowKit

set_option maxHeartbeats 2000000 in
set_option maxRecDepth 100000 in
theorem drawPutSels_any (a : Option Addr) (len cap : Nat) (zs : List Int) (w : World) (hcode : Code w w.heap.size a len cap zs) :
    Calls Try.prog 46 #[.slice a len cap] w fun e w' => ∃ v L k, e = .returned (.tuple #[v, .int .i64 k]) ∧ w'.ownsRow w.heap.size 3 1 v L.length (intsV L) ∧ L.length ≤ 12 ∧ (∀ x ∈ L, 0 ≤ x ∧ x ≤ 1000) ∧ 0 ≤ k ∧ k ≤ 5 ∧ Below w.heap.size w w' := by
  go_enter Try.func46, Try.ntmps46
  go_wp2_with fail
  refine (l1New_any _ _ _ _ _ hcode).mono ?_
  rintro e w1 ⟨g, rfl, hc1, b1⟩
  have hg := hc1.1
  go_wp2_with fail
  refine (l1Below_any g _ 6 _ hc1 (by omega)).mono ?_
  rintro e w2 ⟨k, rfl, k0, k1, _, hc2, O2⟩
  have k2 := k1 (by omega)
  clear k1 hc1
  go_wp2_with fail
  refine (l1PickInt_any g _ w2.heap.size 4 _ [1 + k, k, k, k] _ (hc2.alloc _) (by omega) (by omega) (by have := hc2.lt; omega) ?_).mono ?_
  · intro j hj
    rw [(Has.fresh w2 _ _).cell j]
    rcases j with _ | _ | _ | _ | j <;> first | rfl | omega
  rintro e w3 ⟨j, hj, rfl, hc3, O3⟩
  have hpk : 0 ≤ ([1 + k, k, k, k] : List Int).getD j 0 ∧ ([1 + k, k, k, k] : List Int).getD j 0 ≤ 6 := by
    rcases j with _ | _ | _ | _ | j <;> simp <;> omega
  obtain ⟨x, hx⟩ : ∃ x, ([1 + k, k, k, k] : List Int).getD j 0 = x := ⟨_, rfl⟩
  rw [hx] at hpk ⊢
  obtain ⟨q, rfl⟩ : ∃ q : Nat, x = q := ⟨x.toNat, by omega⟩
  have OB := (O2.alloc (.cells #[.int .i64 (1 + k), .int .i64 k, .int .i64 k, .int .i64 k] 3)).trans_ O3
  have hs3 := OB.size
  clear hx hj O2 O3 hc2
  go_wp2_with fail
  refine (l4syms_any g _ q 12 _ hc3 (by omega) (by omega)).mono ?_
  rintro e w4 ⟨v, L, rfl, hown, h1, h2, hc4, O4⟩
  have OC := OB.trans_ O4
  have BC := only_then OC hg b1.size b1
  have hb1 := b1.size
  clear O4 OB hc3 hc4
  go_wp2
  exact bodyPost_ret (v := .tuple #[v, .int .i64 k]) (by simp [results, Try.results46, go_sem]) rfl ⟨v, L, k, rfl, Joins.ownsRow_le hown (by omega), h1, h2, by omega, by omega, BC⟩
set_option maxHeartbeats 4000000 in
set_option maxRecDepth 100000 in
theorem l12draw_any (g B most : Nat) (w : World) (hc : Cur w g B) (hm : most ≤ 1000) :
    Calls Try.prog 90 #[.pointer (some ⟨g, 0, none⟩), .int .i64 most] w fun e w' => ∃ v L n, e = .returned (.tuple #[v, .int .i64 n]) ∧ w'.ownsRow w.heap.size 3 1 v L.length (intsV L) ∧ L.length ≤ most ∧ (∀ x ∈ L, 0 ≤ x ∧ x < n) ∧ 1 ≤ n ∧ n ≤ 8 ∧ Cur w' g B ∧ Only g w w' := by
  have hgl := hc.lt
  go_enter Try.func90, Try.ntmps90
  go_wp2_with fail
  refine (l1Below_any g B 8 _ hc (by omega)).mono ?_
  rintro e wa ⟨r, rfl, r0, r1, _, ha, Oa⟩
  have r2 := r1 (by omega)
  obtain ⟨n, hn⟩ : ∃ n : Int, 1 + r = n := ⟨_, rfl⟩
  have hr : r = n - 1 := by omega
  subst hr
  have e1 : 1 + (n - 1) = n := by omega
  clear r1 hc hn
  go_wp2_with fail
  refine (l8list_any g B n most _ ha (by omega) (by omega) (by omega) (by omega)).mono ?_
  rintro e wb ⟨v, L, rfl, hown, h1, h2, hb, Ob⟩
  have OB := Oa.trans_ Ob
  have hsa := Oa.size
  obtain ⟨N, hN⟩ : ∃ N, L.length = N := ⟨_, rfl⟩
  rw [hN] at hown h1
  have HN := hidden hN
  have HL := hidden h2
  have HO := hidden (Joins.ownsRow_le hown hsa)
  clear hN h2 hown Oa Ob ha
  obtain ⟨av, cv, hv⟩ := own_shape HO.out
  subst hv
  go_wp2
  go_loopw [8] (fun si wr => ∃ (i : Nat) (D : List Int), i ≤ N ∧ si = .int .i64 i ∧ Hid (D.length = N ∧ ∀ x ∈ D, 0 ≤ x ∧ x < n) ∧ Hid (wr.ownsRow w.heap.size 3 1 (.slice av N cv) N (intsV D)) ∧ Cur wr g B ∧ Only g w wr) (fun si _ => N - (intOf si).toNat)
  case atStart => exact ⟨0, L, Nat.zero_le _, rfl, hidden ⟨HN.out, HL.out⟩, HO, hb, OB⟩
  case round =>
    clear hb OB HO
    obtain ⟨i, D, hi, rfl, HD, HO, hb, OB⟩ := hrel
    have hq : (i : Int).tdiv 20 = ((i / 20 : Nat) : Int) := by rw [Int.tdiv_eq_ediv_of_nonneg (by omega)]; omega
    have hq2 : (i : Int) / 20 = ((i / 20 : Nat) : Int) := by omega
    obtain ⟨d, hd⟩ : ∃ d, i / 20 = d := ⟨_, rfl⟩
    rw [hd] at hq hq2
    have hrm : (d : Int).tmod 2 = ((d % 2 : Nat) : Int) := by rw [Int.tmod_eq_emod_of_nonneg (by omega)]; omega
    have hrm2 : (d : Int) % 2 = ((d % 2 : Nat) : Int) := by omega
    have hd2 : d % 2 < 2 := Nat.mod_lt _ (by omega)
    clear hd
    by_cases hlt : i < N
    · obtain ⟨m2, hm2⟩ : ∃ m, d % 2 = m := ⟨_, rfl⟩
      rw [hm2] at hrm hrm2 hd2
      clear hm2
      by_cases h1m : m2 = 1
      · subst h1m
        go_wp2_with fail
        refine (l1Once_any g B 2 _ hb (by omega)).mono ?_
        rintro e wc ⟨b, rfl, hc2, Oc⟩
        have hownc := own_only HO.out Oc hgl
        have OC := OB.trans_ Oc
        clear OB Oc hb HO
        cases b with
        | false =>
          have HOc := hidden hownc
          clear hownc
          go_wp2
          go_roundw
          case rel => exact ⟨i + 1, D, by omega, by go_num, HD, HOc, hc2, OC⟩
          case measure => simp [intOf]; omega
        | true =>
          obtain ⟨gv, rfl, _⟩ : ∃ gv, av = some ⟨gv, 0, none⟩ ∧ gv < wc.heap.size := by
            rcases hownc.2 with ⟨_, h0⟩ | ⟨g2, cap2, cur, hv, _, hcur, _⟩
            · omega
            · simp only [Value.slice.injEq] at hv
              exact ⟨g2, hv.1, (Array.getElem?_eq_some_iff.1 hcur).1⟩
          have d0 := hownc.cellAt i (by omega)
          rw [intsV_get D i (by rw [HD.out.1]; exact hlt)] at d0
          have f0 := hownc.frozenAt i
          have hx := HD.out.2 (D.getD i 0) (getD_mem (by rw [HD.out.1]; exact hlt))
          obtain ⟨x, hxe⟩ : ∃ x, D.getD i 0 = x := ⟨_, rfl⟩
          rw [hxe] at d0 hx
          have HD2 : Hid ((D.set i (n - 1 - x)).length = N ∧ ∀ y ∈ D.set i (n - 1 - x), 0 ≤ y ∧ y < n) := hidden ⟨by rw [List.length_set]; exact HD.out.1, fun y hy => by
            rcases List.mem_or_eq_of_mem_set hy with h | h
            · exact HD.out.2 y h
            · omega⟩
          have HS := hidden (hownc.stored i (.int .i64 (n - 1 - x)))
          rw [intsV_set] at HS
          have gvw := (hownc.lt gv rfl).1
          clear hownc hxe
          go_wp2
          go_roundw
          case rel => exact ⟨i + 1, D.set i (n - 1 - x), by omega, by go_num, HD2, hidden HS.out.1, hc2.grown HS.out.2 (fun q hq => by simp [Value.ownBlock] at hq; omega), OC.grownNew HS.out.2 (fun q hq => by simp [Value.ownBlock] at hq; omega)⟩
          case measure => simp [intOf]; omega
      · have hm0 : m2 = 0 := by omega
        subst hm0
        go_wp2
        go_roundw
        case rel => exact ⟨i + 1, D, by omega, by go_num, HD, HO, hb, OB⟩
        case measure => simp [intOf]; omega
    · obtain rfl : i = N := by omega
      go_wp2
      exact bodyPost_ret (v := .tuple #[.slice av i cv, .int .i64 n]) (by simp [results, Try.results90, go_sem]) rfl ⟨_, D, n, rfl, by rw [HD.out.1]; exact HO.out, by rw [HD.out.1]; omega, HD.out.2, by omega, by omega, hb, OB⟩
end Go.Proofs.Ytaaahmfkdiogkaa
namespace Go.Proofs.Ytaaahmfkdiogkaa
set_option linter.unusedVariables false
set_option linter.unusedSimpArgs false
open Go.RowKit

set_option maxHeartbeats 2000000 in
set_option maxRecDepth 100000 in
theorem implChoose_no (a : Option Addr) (cap B : Nat) (n k : Int) (S : List Int) (w : World) (hz : Ints w B a S) (n1 : -9223372036854775808 ≤ n) (n2 : n ≤ 9223372036854775807) (h : choOk S n k = false) :
    Calls Try.prog 18 #[.slice a S.length cap, .int .i64 n, .int .i64 k] w fun e w' => e = .returned (.tuple #[.slice none 0 0, .slice none 0 0]) ∧ w = w' := by
  by_cases h1 : n < 1
  · clear hz h
    go_enter Try.func18, Try.ntmps18
    go_wp2
    go_ret2
    exact ⟨rfl, rfl⟩
  · by_cases h2 : 260 < n
    · clear hz h
      go_enter Try.func18, Try.ntmps18
      go_wp2
      go_ret2
      exact ⟨rfl, rfl⟩
    · obtain ⟨m, rfl⟩ : ∃ m : Nat, n = m := ⟨n.toNat, by omega⟩
      have KR : Hid (Calls Try.prog 53 #[.slice a S.length cap, .int .i64 m] w fun e w' => e = .returned (.bool (symsB m S)) ∧ w = w') := hidden ((rowOk_any a cap B m S w hz (by omega)).mono fun e w' h => ⟨h.1, h.2.symm⟩)
      have KT := hidden (fun W => tableCountOk_any k W)
      unfold choOk rowB at h
      have hr : (1 : Int) ≤ (m : Int) ∧ (m : Int) ≤ 260 := by omega
      rw [decide_eq_true hr, Int.toNat_natCast, Bool.true_and] at h
      obtain ⟨t1, ht1⟩ : ∃ t, symsB m S = t := ⟨_, rfl⟩
      obtain ⟨t2, ht2⟩ : ∃ t, decide (1 ≤ k ∧ k ≤ 4) = t := ⟨_, rfl⟩
      rw [ht1] at KR h
      rw [ht2] at KT h
      clear hz hr ht1 ht2
      cases t1 with
      | false =>
        clear h
        go_enter Try.func18, Try.ntmps18
        go_wp2_with fail
        refine KR.out.mono ?_
        rintro e w1 ⟨rfl, rfl⟩
        go_wp2
        go_ret2
        exact ⟨rfl, rfl⟩
      | true =>
        cases t2 with
        | true => cases h
        | false =>
          clear h
          go_enter Try.func18, Try.ntmps18
          go_wp2_with fail
          refine KR.out.mono ?_
          rintro e w1 ⟨rfl, rfl⟩
          go_wp2_with fail
          refine (KT.out _).mono ?_
          rintro e w1 ⟨rfl, rfl⟩
          go_wp2
          go_ret2
          exact ⟨rfl, rfl⟩
end Go.Proofs.Ytaaahmfkdiogkaa
