/- The walk of the exact law of UnMtf (what is asked: MeetsF). -/
import Derived.Test.YteaohgipndmciaaExA
namespace Go.Proofs.Yteaohgipndmciaa
set_option linter.unusedVariables false
set_option linter.unusedSimpArgs false
open Go.RowKit Go.ChangeShapes Go.WideShapes Go.ChangeAt

/-- For all arguments in bounds the model and the program answer the same. -/
def MeetsUnMtf : Prop := ∀ (z0 : List Int) (a1 : Int), z0.length ≤ 1048576 → (∀ x ∈ z0, -9223372036854775808 ≤ x ∧ x ≤ 9223372036854775807) → -9223372036854775808 ≤ a1 → a1 ≤ 9223372036854775807 → ∃ (y0 : List Int), (y0.length ≤ 1048576 ∧ ∀ x ∈ y0, -9223372036854775808 ≤ x ∧ x ≤ 9223372036854775807) ∧ (∀ (W : World) (p0 : Addr) (c0 : Nat), Ints W W.heap.size (some p0) z0 → Calls Try.prog 41 #[.slice (some p0) z0.length c0, .int .i64 a1] W fun e w' => ∃ v0, e = .returned (v0) ∧ w'.ownsRow W.heap.size 3 1 v0 y0.length (intsV y0) ∧ Below W.heap.size W w') ∧ (∀ (W : World) (p0 : Addr) (c0 : Nat), Ints W W.heap.size (some p0) z0 → Calls Try.prog 42 #[.slice (some p0) z0.length c0, .int .i64 a1] W fun e w' => ∃ v0, e = .returned (v0) ∧ w'.ownsRow W.heap.size 3 1 v0 y0.length (intsV y0) ∧ Below W.heap.size W w')
set_option maxHeartbeats 4000000 in
set_option maxRecDepth 100000 in
theorem in_FnExactUnMtf (w : World) (a0 : Option Addr) (len0 cap0 : Nat) (z0 : List Int) (HI0 : Hid (Ints w w.heap.size a0 z0)) (HL0 : Hid (z0.length = len0)) (hb0 : len0 ≤ 1048576) (a1 : Int) (b1 : -9223372036854775808 ≤ a1) (d1 : a1 ≤ 9223372036854775807) (y0 : List Int)
    (m0 : Nat) (HY0 : Hid (y0.length = m0)) (hm0 : m0 ≤ 1048576) (HR0 : Hid (∀ x ∈ y0, -9223372036854775808 ≤ x ∧ x ≤ 9223372036854775807))
    (KS : Hid (∀ (W : World) (p0 : Addr) (c0 : Nat), Ints W W.heap.size (some p0) z0 → Calls Try.prog 41 #[.slice (some p0) len0 c0, .int .i64 a1] W fun e w' => ∃ v0, e = .returned (v0) ∧ w'.ownsRow W.heap.size 3 1 v0 m0 (intsV y0) ∧ Below W.heap.size W w'))
    (KI : Hid (∀ (W : World) (p0 : Addr) (c0 : Nat), Ints W W.heap.size (some p0) z0 → Calls Try.prog 42 #[.slice (some p0) len0 c0, .int .i64 a1] W fun e w' => ∃ v0, e = .returned (v0) ∧ w'.ownsRow W.heap.size 3 1 v0 m0 (intsV y0) ∧ Below W.heap.size W w')) :
    Calls Try.prog 9 #[.slice a0 len0 cap0, .int .i64 a1] w fun e w' => e = .returned (.bool true) ∧ Below w.heap.size w w' := by
  have hg0 : ¬ (1048576 : Int) < (len0 : Int) := by omega
  have hn0 : ¬ (1 : Int) + (m0 : Int) < 0 := by omega
  have hk0 : ¬ (1 : Int) + (len0 : Int) < 0 := by omega
  have hq0 : (1 : Int) + (m0 : Int) ≠ (1 : Int) + (m0 : Int) → False := fun h => h rfl
  go_enter Try.func9, Try.ntmps9
  go_wp2_with fail
  refine (toInt_e a0 cap0 z0 w w HL0.out HI0.out (Below.refl w.heap.size w) hb0).mono ?_
  rintro e W1 ⟨g1, rfl, o1, b1⟩
  have B1 : Below w.heap.size w W1 := bel_then b1 (Below.refl w.heap.size w).size (Below.refl w.heap.size w)
  have sB1 := b1.size
  have X1 := hidden o1
  have Q1 := own_ranged o1
  clear o1 b1
  go_wp2_with fail
  refine (KS.out W1 _ _ (own_ints X1.out HI0.out.2.1 hb0)).mono ?_
  rintro e W2 ⟨v0_2, rfl, o0_2, b2⟩
  obtain ⟨gw0, cw0, rfl⟩ := own_form o0_2
  have B2 : Below w.heap.size w W2 := bel_then b2 B1.size B1
  have sB2 := b2.size
  have X1_2 := hidden (own_bel X1.out b2)
  clear X1
  have Yw0 := hidden o0_2
  have Qw0 := own_ranged o0_2
  clear o0_2
  clear b2
  clear X1_2
  go_wp2_with fail
  refine (toInt_e a0 cap0 z0 w W2 HL0.out HI0.out B2 hb0).mono ?_
  rintro e W3 ⟨g3, rfl, o3, b3⟩
  have B3 : Below w.heap.size w W3 := bel_then b3 B2.size B2
  have sB3 := b3.size
  have Yw0_3 := hidden (own_bel Yw0.out b3)
  clear Yw0
  have X3 := hidden o3
  have Q3 := own_ranged o3
  clear o3 b3
  go_wp2_with fail
  refine (KI.out W3 _ _ (own_ints X3.out HI0.out.2.1 hb0)).mono ?_
  rintro e W4 ⟨v0_4, rfl, o0_4, b4⟩
  obtain ⟨gg0, cg0, rfl⟩ := own_form o0_4
  have B4 : Below w.heap.size w W4 := bel_then b4 B3.size B3
  have sB4 := b4.size
  have Yw0_4 := hidden (own_bel Yw0_3.out b4)
  clear Yw0_3
  have X3_4 := hidden (own_bel X3.out b4)
  clear X3
  have Yg0 := hidden o0_4
  have Qg0 := own_ranged o0_4
  clear o0_4
  clear b4
  go_wp2_with fail
  refine (eq_e _ _ _ _ y0 W4 HY0.out (own_ints Yg0.out HR0.out hm0) (own_ints Yw0_4.out HR0.out hm0)).mono ?_
  rintro e W5 ⟨rfl, b5⟩
  have B5 : Below w.heap.size w W5 := bel_then b5 B4.size B4
  have sB5 := b5.size
  have Yw0_5 := hidden (own_bel Yw0_4.out b5)
  clear Yw0_4
  have X3_5 := hidden (own_bel X3_4.out b5)
  clear X3_4
  have Yg0_5 := hidden (own_bel Yg0.out b5)
  clear Yg0
  clear b5
  go_wp2_with fail
  refine (toInt_e a0 cap0 z0 w W5 HL0.out HI0.out B5 hb0).mono ?_
  rintro e W6 ⟨g6, rfl, o6, b6⟩
  have B6 : Below w.heap.size w W6 := bel_then b6 B5.size B5
  have sB6 := b6.size
  have Yw0_6 := hidden (own_bel Yw0_5.out b6)
  clear Yw0_5
  have X3_6 := hidden (own_bel X3_5.out b6)
  clear X3_5
  have Yg0_6 := hidden (own_bel Yg0_5.out b6)
  clear Yg0_5
  have X6 := hidden o6
  have Q6 := own_ranged o6
  clear o6 b6
  go_wp2_with fail
  refine (eq_e _ _ _ _ z0 W6 HL0.out (own_ints X3_6.out HI0.out.2.1 hb0) (own_ints X6.out HI0.out.2.1 hb0)).mono ?_
  rintro e W7 ⟨rfl, b7⟩
  clear X6
  have B7 : Below w.heap.size w W7 := bel_then b7 B6.size B6
  have sB7 := b7.size
  have Yw0_7 := hidden (own_bel Yw0_6.out b7)
  clear Yw0_6
  have X3_7 := hidden (own_bel X3_6.out b7)
  clear X3_6
  have Yg0_7 := hidden (own_bel Yg0_6.out b7)
  clear Yg0_6
  clear b7
  go_wp2_with fail
  refine (mark_e (k := 1) _ z0 W7 X3_7.out hb0 (by omega) _ (by simp)).mono ?_
  rintro e W8 ⟨rfl, o8, gr8⟩
  have B8 : Below w.heap.size w W8 := bel_grown B7 gr8 Q3 (by omega)
  have sB8 := gr8.size
  have Yw0_8 := hidden (Yw0_7.out.kept gr8 (ranged_ne Qw0 Q3 (by omega)))
  clear Yw0_7
  have X3_8 := hidden o8
  clear X3_7
  have Yg0_8 := hidden (Yg0_7.out.kept gr8 (ranged_ne Qg0 Q3 (by omega)))
  clear Yg0_7
  clear o8 gr8
  clear X3_8
  go_wp2_with fail
  refine (eq_e _ _ _ _ y0 W8 HY0.out (own_ints Yg0_8.out HR0.out hm0) (own_ints Yw0_8.out HR0.out hm0)).mono ?_
  rintro e W9 ⟨rfl, b9⟩
  have B9 : Below w.heap.size w W9 := bel_then b9 B8.size B8
  have sB9 := b9.size
  have Yw0_9 := hidden (own_bel Yw0_8.out b9)
  clear Yw0_8
  have Yg0_9 := hidden (own_bel Yg0_8.out b9)
  clear Yg0_8
  clear b9
  go_wp2_with fail
  refine (mark_e (k := 1) _ y0 W9 Yg0_9.out hm0 (by omega) _ (by simp)).mono ?_
  rintro e W10 ⟨rfl, o10, gr10⟩
  have B10 : Below w.heap.size w W10 := bel_grown B9 gr10 Qg0 (by omega)
  have sB10 := gr10.size
  have Yw0_10 := hidden (Yw0_9.out.kept gr10 (ranged_ne Qw0 Qg0 (by omega)))
  clear Yw0_9
  have Yg0_10 := hidden o10
  clear Yg0_9
  clear o10 gr10
  go_wp2_with fail
  refine (held_e _ W10 Yg0_10.out hm0).mono ?_
  rintro e _ ⟨rfl, rfl⟩
  go_wp2_with fail
  refine (toInt_e a0 cap0 z0 w W10 HL0.out HI0.out B10 hb0).mono ?_
  rintro e W11 ⟨g11, rfl, o11, b11⟩
  have B11 : Below w.heap.size w W11 := bel_then b11 B10.size B10
  have sB11 := b11.size
  have Yw0_11 := hidden (own_bel Yw0_10.out b11)
  clear Yw0_10
  have Yg0_11 := hidden (own_bel Yg0_10.out b11)
  clear Yg0_10
  have X11 := hidden o11
  have Q11 := own_ranged o11
  clear o11 b11
  go_wp2_with fail
  refine (KI.out W11 _ _ (own_ints X11.out HI0.out.2.1 hb0)).mono ?_
  rintro e W12 ⟨v0_12, rfl, o0_12, b12⟩
  obtain ⟨gh0, ch0, rfl⟩ := own_form o0_12
  have B12 : Below w.heap.size w W12 := bel_then b12 B11.size B11
  have sB12 := b12.size
  have Yw0_12 := hidden (own_bel Yw0_11.out b12)
  clear Yw0_11
  have Yg0_12 := hidden (own_bel Yg0_11.out b12)
  clear Yg0_11
  have X11_12 := hidden (own_bel X11.out b12)
  clear X11
  have Yh0 := hidden o0_12
  have Qh0 := own_ranged o0_12
  clear o0_12
  clear b12
  clear X11_12
  go_wp2_with fail
  refine (eq_e _ _ _ _ y0 W12 HY0.out (own_ints Yh0.out HR0.out hm0) (own_ints Yw0_12.out HR0.out hm0)).mono ?_
  rintro e W13 ⟨rfl, b13⟩
  have B13 : Below w.heap.size w W13 := bel_then b13 B12.size B12
  have sB13 := b13.size
  have Yw0_13 := hidden (own_bel Yw0_12.out b13)
  clear Yw0_12
  have Yg0_13 := hidden (own_bel Yg0_12.out b13)
  clear Yg0_12
  have Yh0_13 := hidden (own_bel Yh0.out b13)
  clear Yh0
  clear b13
  go_wp2_with fail
  refine (held_e _ W13 Yg0_13.out hm0).mono ?_
  rintro e _ ⟨rfl, rfl⟩
  go_wp2
  go_ret
  exact ⟨rfl, B13⟩
set_option maxRecDepth 100000 in
theorem walk_FnExactUnMtf (hM : MeetsUnMtf) (w : World) (a0 : Option Addr) (len0 cap0 : Nat) (z0 : List Int) (w0 : IsRow .i64 w a0 len0 cap0 z0) (a1 : Int) (b1 : -9223372036854775808 ≤ a1) (d1 : a1 ≤ 9223372036854775807) :
    Calls Try.prog 9 #[.slice a0 len0 cap0, .int .i64 a1] w fun e w' => e = .returned (.bool true) ∧ Below w.heap.size w w' := by
  have hl0 := isrow_lenE w0
  by_cases hb0 : len0 ≤ 1048576
  rotate_left
  · have hx : (1048576 : Int) < (len0 : Int) := by omega
    clear hM
    go_enter Try.func9, Try.ntmps9
    go_wp2
    go_ret
    first | exact ⟨rfl, Below.refl _ _⟩ | exact ⟨rfl, (Below.refl _ _).alloc (Nat.le_refl _) _⟩
  obtain ⟨y0', hl0', hI0⟩ := Ints.ofRowE w0 hb0
  obtain ⟨y0, ⟨hm0, hr0⟩, hs, hi⟩ := hM y0' a1 (by rw [hl0']; exact hb0) hI0.2.1 b1 d1
  rw [hl0'] at hs hi
  exact in_FnExactUnMtf w a0 len0 cap0 y0' (hidden hI0) (hidden hl0') hb0 a1 b1 d1 y0 _ (hidden rfl) hm0 (hidden hr0) (hidden hs) (hidden hi)
end Go.Proofs.Yteaohgipndmciaa
