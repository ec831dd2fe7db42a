/- Texts of one reach, one behind the other: WExOrder, WExCodes, WExPutSyms, WExSymBits, I4N, I4G. What each is about stands in its theorems. -/
import Derived.Test.YtdfbpmkdmpdobaaG7
import Derived.Test.YtdfbpmkdmpdobaaG4
import Derived.Test.YtdfbpmkdmpdobaaG14
import Derived.Test.YtdfbpmkdmpdobaaG3
import Derived.Test.YtdfbpmkdmpdobaaG1
import Derived.BigRegion
import Derived.Deep.DeepCutAuto
import Derived.Deep.LoopGhost
import Derived.Deep.RegionWith
import Derived.Maps.AppendAt
namespace Go.Proofs.Ytdfbpmkdmpdobaa
set_option linter.unusedVariables false
set_option linter.unusedSimpArgs false
open Go.RowKit Go.ChangeShapes Go.WideShapes Go.ChangeAt

/-- For all arguments in bounds the model and the program answer the same. -/
def MeetsOrder : Prop := ∀ (z0 : List Int), z0.length ≤ 1048576 → (∀ x ∈ z0, -9223372036854775808 ≤ x ∧ x ≤ 9223372036854775807) → ∃ (y0 : List Int), (y0.length ≤ 1048576 ∧ ∀ x ∈ y0, -9223372036854775808 ≤ x ∧ x ≤ 9223372036854775807) ∧ (∀ (W : World) (p0 : Addr) (c0 : Nat), Ints W W.heap.size (some p0) z0 → Calls Try.prog 25 #[.slice (some p0) z0.length c0] W fun e w' => ∃ v0, e = .returned (v0) ∧ w'.ownsRow W.heap.size 3 1 v0 y0.length (intsV y0) ∧ Below W.heap.size W w') ∧ (∀ (W : World) (p0 : Addr) (c0 : Nat), Ints W W.heap.size (some p0) z0 → Calls Try.prog 27 #[.slice (some p0) z0.length c0] W fun e w' => ∃ v0, e = .returned (v0) ∧ w'.ownsRow W.heap.size 3 1 v0 y0.length (intsV y0) ∧ Below W.heap.size W w')
set_option maxHeartbeats 4000000 in
set_option maxRecDepth 100000 in
theorem in_FnExactOrder (w : World) (a0 : Option Addr) (len0 cap0 : Nat) (z0 : List Int) (HI0 : Hid (Ints w w.heap.size a0 z0)) (HL0 : Hid (z0.length = len0)) (hb0 : len0 ≤ 1048576) (y0 : List Int)
    (m0 : Nat) (HY0 : Hid (y0.length = m0)) (hm0 : m0 ≤ 1048576) (HR0 : Hid (∀ x ∈ y0, -9223372036854775808 ≤ x ∧ x ≤ 9223372036854775807))
    (KS : Hid (∀ (W : World) (p0 : Addr) (c0 : Nat), Ints W W.heap.size (some p0) z0 → Calls Try.prog 25 #[.slice (some p0) len0 c0] W fun e w' => ∃ v0, e = .returned (v0) ∧ w'.ownsRow W.heap.size 3 1 v0 m0 (intsV y0) ∧ Below W.heap.size W w'))
    (KI : Hid (∀ (W : World) (p0 : Addr) (c0 : Nat), Ints W W.heap.size (some p0) z0 → Calls Try.prog 27 #[.slice (some p0) len0 c0] W fun e w' => ∃ v0, e = .returned (v0) ∧ w'.ownsRow W.heap.size 3 1 v0 m0 (intsV y0) ∧ Below W.heap.size W w')) :
    Calls Try.prog 6 #[.slice a0 len0 cap0] w fun e w' => e = .returned (.bool true) ∧ Below w.heap.size w w' := by
  have hg0 : ¬ (1048576 : Int) < (len0 : Int) := by omega
  have hn0 : ¬ (1 : Int) + (m0 : Int) < 0 := by omega
  have hk0 : ¬ (1 : Int) + (len0 : Int) < 0 := by omega
  have hq0 : (1 : Int) + (m0 : Int) ≠ (1 : Int) + (m0 : Int) → False := fun h => h rfl
  go_enter Try.func6, Try.ntmps6
  go_wp2_with fail
  refine (toInt_e a0 cap0 z0 w w HL0.out HI0.out (Below.refl w.heap.size w) hb0).mono ?_
  rintro e W1 ⟨g1, rfl, o1, b1⟩
  have B1 : Below w.heap.size w W1 := bel_then b1 (Below.refl w.heap.size w).size (Below.refl w.heap.size w)
  have sB1 := b1.size
  have X1 := hidden o1
  have Q1 := own_ranged o1
  clear o1 b1
  go_wp2_with fail
  refine (KS.out W1 _ _ (own_ints X1.out HI0.out.2.1 hb0)).mono ?_
  rintro e W2 ⟨v0_2, rfl, o0_2, b2⟩
  obtain ⟨gw0, cw0, rfl⟩ := own_form o0_2
  have B2 : Below w.heap.size w W2 := bel_then b2 B1.size B1
  have sB2 := b2.size
  have X1_2 := hidden (own_bel X1.out b2)
  clear X1
  have Yw0 := hidden o0_2
  have Qw0 := own_ranged o0_2
  clear o0_2
  clear b2
  clear X1_2
  go_wp2_with fail
  refine (toInt_e a0 cap0 z0 w W2 HL0.out HI0.out B2 hb0).mono ?_
  rintro e W3 ⟨g3, rfl, o3, b3⟩
  have B3 : Below w.heap.size w W3 := bel_then b3 B2.size B2
  have sB3 := b3.size
  have Yw0_3 := hidden (own_bel Yw0.out b3)
  clear Yw0
  have X3 := hidden o3
  have Q3 := own_ranged o3
  clear o3 b3
  go_wp2_with fail
  refine (KI.out W3 _ _ (own_ints X3.out HI0.out.2.1 hb0)).mono ?_
  rintro e W4 ⟨v0_4, rfl, o0_4, b4⟩
  obtain ⟨gg0, cg0, rfl⟩ := own_form o0_4
  have B4 : Below w.heap.size w W4 := bel_then b4 B3.size B3
  have sB4 := b4.size
  have Yw0_4 := hidden (own_bel Yw0_3.out b4)
  clear Yw0_3
  have X3_4 := hidden (own_bel X3.out b4)
  clear X3
  have Yg0 := hidden o0_4
  have Qg0 := own_ranged o0_4
  clear o0_4
  clear b4
  go_wp2_with fail
  refine (eq_e _ _ _ _ y0 W4 HY0.out (own_ints Yg0.out HR0.out hm0) (own_ints Yw0_4.out HR0.out hm0)).mono ?_
  rintro e W5 ⟨rfl, b5⟩
  have B5 : Below w.heap.size w W5 := bel_then b5 B4.size B4
  have sB5 := b5.size
  have Yw0_5 := hidden (own_bel Yw0_4.out b5)
  clear Yw0_4
  have X3_5 := hidden (own_bel X3_4.out b5)
  clear X3_4
  have Yg0_5 := hidden (own_bel Yg0.out b5)
  clear Yg0
  clear b5
  go_wp2_with fail
  refine (toInt_e a0 cap0 z0 w W5 HL0.out HI0.out B5 hb0).mono ?_
  rintro e W6 ⟨g6, rfl, o6, b6⟩
  have B6 : Below w.heap.size w W6 := bel_then b6 B5.size B5
  have sB6 := b6.size
  have Yw0_6 := hidden (own_bel Yw0_5.out b6)
  clear Yw0_5
  have X3_6 := hidden (own_bel X3_5.out b6)
  clear X3_5
  have Yg0_6 := hidden (own_bel Yg0_5.out b6)
  clear Yg0_5
  have X6 := hidden o6
  have Q6 := own_ranged o6
  clear o6 b6
  go_wp2_with fail
  refine (eq_e _ _ _ _ z0 W6 HL0.out (own_ints X3_6.out HI0.out.2.1 hb0) (own_ints X6.out HI0.out.2.1 hb0)).mono ?_
  rintro e W7 ⟨rfl, b7⟩
  clear X6
  have B7 : Below w.heap.size w W7 := bel_then b7 B6.size B6
  have sB7 := b7.size
  have Yw0_7 := hidden (own_bel Yw0_6.out b7)
  clear Yw0_6
  have X3_7 := hidden (own_bel X3_6.out b7)
  clear X3_6
  have Yg0_7 := hidden (own_bel Yg0_6.out b7)
  clear Yg0_6
  clear b7
  go_wp2_with fail
  refine (mark_e (k := 1) _ z0 W7 X3_7.out hb0 (by omega) _ (by simp)).mono ?_
  rintro e W8 ⟨rfl, o8, gr8⟩
  have B8 : Below w.heap.size w W8 := bel_grown B7 gr8 Q3 (by omega)
  have sB8 := gr8.size
  have Yw0_8 := hidden (Yw0_7.out.kept gr8 (ranged_ne Qw0 Q3 (by omega)))
  clear Yw0_7
  have X3_8 := hidden o8
  clear X3_7
  have Yg0_8 := hidden (Yg0_7.out.kept gr8 (ranged_ne Qg0 Q3 (by omega)))
  clear Yg0_7
  clear o8 gr8
  clear X3_8
  go_wp2_with fail
  refine (eq_e _ _ _ _ y0 W8 HY0.out (own_ints Yg0_8.out HR0.out hm0) (own_ints Yw0_8.out HR0.out hm0)).mono ?_
  rintro e W9 ⟨rfl, b9⟩
  have B9 : Below w.heap.size w W9 := bel_then b9 B8.size B8
  have sB9 := b9.size
  have Yw0_9 := hidden (own_bel Yw0_8.out b9)
  clear Yw0_8
  have Yg0_9 := hidden (own_bel Yg0_8.out b9)
  clear Yg0_8
  clear b9
  go_wp2_with fail
  refine (mark_e (k := 1) _ y0 W9 Yg0_9.out hm0 (by omega) _ (by simp)).mono ?_
  rintro e W10 ⟨rfl, o10, gr10⟩
  have B10 : Below w.heap.size w W10 := bel_grown B9 gr10 Qg0 (by omega)
  have sB10 := gr10.size
  have Yw0_10 := hidden (Yw0_9.out.kept gr10 (ranged_ne Qw0 Qg0 (by omega)))
  clear Yw0_9
  have Yg0_10 := hidden o10
  clear Yg0_9
  clear o10 gr10
  go_wp2_with fail
  refine (held_e _ W10 Yg0_10.out hm0).mono ?_
  rintro e _ ⟨rfl, rfl⟩
  go_wp2_with fail
  refine (toInt_e a0 cap0 z0 w W10 HL0.out HI0.out B10 hb0).mono ?_
  rintro e W11 ⟨g11, rfl, o11, b11⟩
  have B11 : Below w.heap.size w W11 := bel_then b11 B10.size B10
  have sB11 := b11.size
  have Yw0_11 := hidden (own_bel Yw0_10.out b11)
  clear Yw0_10
  have Yg0_11 := hidden (own_bel Yg0_10.out b11)
  clear Yg0_10
  have X11 := hidden o11
  have Q11 := own_ranged o11
  clear o11 b11
  go_wp2_with fail
  refine (KI.out W11 _ _ (own_ints X11.out HI0.out.2.1 hb0)).mono ?_
  rintro e W12 ⟨v0_12, rfl, o0_12, b12⟩
  obtain ⟨gh0, ch0, rfl⟩ := own_form o0_12
  have B12 : Below w.heap.size w W12 := bel_then b12 B11.size B11
  have sB12 := b12.size
  have Yw0_12 := hidden (own_bel Yw0_11.out b12)
  clear Yw0_11
  have Yg0_12 := hidden (own_bel Yg0_11.out b12)
  clear Yg0_11
  have X11_12 := hidden (own_bel X11.out b12)
  clear X11
  have Yh0 := hidden o0_12
  have Qh0 := own_ranged o0_12
  clear o0_12
  clear b12
  clear X11_12
  go_wp2_with fail
  refine (eq_e _ _ _ _ y0 W12 HY0.out (own_ints Yh0.out HR0.out hm0) (own_ints Yw0_12.out HR0.out hm0)).mono ?_
  rintro e W13 ⟨rfl, b13⟩
  have B13 : Below w.heap.size w W13 := bel_then b13 B12.size B12
  have sB13 := b13.size
  have Yw0_13 := hidden (own_bel Yw0_12.out b13)
  clear Yw0_12
  have Yg0_13 := hidden (own_bel Yg0_12.out b13)
  clear Yg0_12
  have Yh0_13 := hidden (own_bel Yh0.out b13)
  clear Yh0
  clear b13
  go_wp2_with fail
  refine (held_e _ W13 Yg0_13.out hm0).mono ?_
  rintro e _ ⟨rfl, rfl⟩
  go_wp2
  go_ret
  exact ⟨rfl, B13⟩
set_option maxRecDepth 100000 in
theorem walk_FnExactOrder (hM : MeetsOrder) (w : World) (a0 : Option Addr) (len0 cap0 : Nat) (z0 : List Int) (w0 : IsRow .i64 w a0 len0 cap0 z0) :
    Calls Try.prog 6 #[.slice a0 len0 cap0] w fun e w' => e = .returned (.bool true) ∧ Below w.heap.size w w' := by
  have hl0 := isrow_lenE w0
  by_cases hb0 : len0 ≤ 1048576
  rotate_left
  · have hx : (1048576 : Int) < (len0 : Int) := by omega
    clear hM
    go_enter Try.func6, Try.ntmps6
    go_wp2
    go_ret
    exact ⟨rfl, Below.refl _ _⟩
  obtain ⟨y0', hl0', hI0⟩ := Ints.ofRowE w0 hb0
  obtain ⟨y0, ⟨hm0, hr0⟩, hs, hi⟩ := hM y0' (by rw [hl0']; exact hb0) hI0.2.1
  rw [hl0'] at hs hi
  exact in_FnExactOrder w a0 len0 cap0 y0' (hidden hI0) (hidden hl0') hb0 y0 _ (hidden rfl) hm0 (hidden hr0) (hidden hs) (hidden hi)
end Go.Proofs.Ytdfbpmkdmpdobaa
namespace Go.Proofs.Ytdfbpmkdmpdobaa
set_option linter.unusedVariables false
set_option linter.unusedSimpArgs false
open Go.RowKit Go.ChangeShapes Go.WideShapes Go.ChangeAt

/-- For all arguments in bounds the model and the program answer the same. -/
def MeetsCodes : Prop := ∀ (z0 : List Int), z0.length ≤ 1048576 → (∀ x ∈ z0, -9223372036854775808 ≤ x ∧ x ≤ 9223372036854775807) → ∃ (y0 : List Int), (y0.length ≤ 1048576 ∧ ∀ x ∈ y0, -9223372036854775808 ≤ x ∧ x ≤ 9223372036854775807) ∧ (∀ (W : World) (p0 : Addr) (c0 : Nat), Ints W W.heap.size (some p0) z0 → Calls Try.prog 31 #[.slice (some p0) z0.length c0] W fun e w' => ∃ v0, e = .returned (v0) ∧ w'.ownsRow W.heap.size 3 1 v0 y0.length (intsV y0) ∧ Below W.heap.size W w') ∧ (∀ (W : World) (p0 : Addr) (c0 : Nat), Ints W W.heap.size (some p0) z0 → Calls Try.prog 13 #[.slice (some p0) z0.length c0] W fun e w' => ∃ v0, e = .returned (v0) ∧ w'.ownsRow W.heap.size 3 1 v0 y0.length (intsV y0) ∧ Below W.heap.size W w')
set_option maxHeartbeats 4000000 in
set_option maxRecDepth 100000 in
theorem in_FnExactCodes (w : World) (a0 : Option Addr) (len0 cap0 : Nat) (z0 : List Int) (HI0 : Hid (Ints w w.heap.size a0 z0)) (HL0 : Hid (z0.length = len0)) (hb0 : len0 ≤ 1048576) (y0 : List Int)
    (m0 : Nat) (HY0 : Hid (y0.length = m0)) (hm0 : m0 ≤ 1048576) (HR0 : Hid (∀ x ∈ y0, -9223372036854775808 ≤ x ∧ x ≤ 9223372036854775807))
    (KS : Hid (∀ (W : World) (p0 : Addr) (c0 : Nat), Ints W W.heap.size (some p0) z0 → Calls Try.prog 31 #[.slice (some p0) len0 c0] W fun e w' => ∃ v0, e = .returned (v0) ∧ w'.ownsRow W.heap.size 3 1 v0 m0 (intsV y0) ∧ Below W.heap.size W w'))
    (KI : Hid (∀ (W : World) (p0 : Addr) (c0 : Nat), Ints W W.heap.size (some p0) z0 → Calls Try.prog 13 #[.slice (some p0) len0 c0] W fun e w' => ∃ v0, e = .returned (v0) ∧ w'.ownsRow W.heap.size 3 1 v0 m0 (intsV y0) ∧ Below W.heap.size W w')) :
    Calls Try.prog 7 #[.slice a0 len0 cap0] w fun e w' => e = .returned (.bool true) ∧ Below w.heap.size w w' := by
  have hg0 : ¬ (1048576 : Int) < (len0 : Int) := by omega
  have hn0 : ¬ (1 : Int) + (m0 : Int) < 0 := by omega
  have hk0 : ¬ (1 : Int) + (len0 : Int) < 0 := by omega
  have hq0 : (1 : Int) + (m0 : Int) ≠ (1 : Int) + (m0 : Int) → False := fun h => h rfl
  go_enter Try.func7, Try.ntmps7
  go_wp2_with fail
  refine (toInt_e a0 cap0 z0 w w HL0.out HI0.out (Below.refl w.heap.size w) hb0).mono ?_
  rintro e W1 ⟨g1, rfl, o1, b1⟩
  have B1 : Below w.heap.size w W1 := bel_then b1 (Below.refl w.heap.size w).size (Below.refl w.heap.size w)
  have sB1 := b1.size
  have X1 := hidden o1
  have Q1 := own_ranged o1
  clear o1 b1
  go_wp2_with fail
  refine (KS.out W1 _ _ (own_ints X1.out HI0.out.2.1 hb0)).mono ?_
  rintro e W2 ⟨v0_2, rfl, o0_2, b2⟩
  obtain ⟨gw0, cw0, rfl⟩ := own_form o0_2
  have B2 : Below w.heap.size w W2 := bel_then b2 B1.size B1
  have sB2 := b2.size
  have X1_2 := hidden (own_bel X1.out b2)
  clear X1
  have Yw0 := hidden o0_2
  have Qw0 := own_ranged o0_2
  clear o0_2
  clear b2
  clear X1_2
  go_wp2_with fail
  refine (toInt_e a0 cap0 z0 w W2 HL0.out HI0.out B2 hb0).mono ?_
  rintro e W3 ⟨g3, rfl, o3, b3⟩
  have B3 : Below w.heap.size w W3 := bel_then b3 B2.size B2
  have sB3 := b3.size
  have Yw0_3 := hidden (own_bel Yw0.out b3)
  clear Yw0
  have X3 := hidden o3
  have Q3 := own_ranged o3
  clear o3 b3
  go_wp2_with fail
  refine (KI.out W3 _ _ (own_ints X3.out HI0.out.2.1 hb0)).mono ?_
  rintro e W4 ⟨v0_4, rfl, o0_4, b4⟩
  obtain ⟨gg0, cg0, rfl⟩ := own_form o0_4
  have B4 : Below w.heap.size w W4 := bel_then b4 B3.size B3
  have sB4 := b4.size
  have Yw0_4 := hidden (own_bel Yw0_3.out b4)
  clear Yw0_3
  have X3_4 := hidden (own_bel X3.out b4)
  clear X3
  have Yg0 := hidden o0_4
  have Qg0 := own_ranged o0_4
  clear o0_4
  clear b4
  go_wp2_with fail
  refine (eq_e _ _ _ _ y0 W4 HY0.out (own_ints Yg0.out HR0.out hm0) (own_ints Yw0_4.out HR0.out hm0)).mono ?_
  rintro e W5 ⟨rfl, b5⟩
  have B5 : Below w.heap.size w W5 := bel_then b5 B4.size B4
  have sB5 := b5.size
  have Yw0_5 := hidden (own_bel Yw0_4.out b5)
  clear Yw0_4
  have X3_5 := hidden (own_bel X3_4.out b5)
  clear X3_4
  have Yg0_5 := hidden (own_bel Yg0.out b5)
  clear Yg0
  clear b5
  go_wp2_with fail
  refine (toInt_e a0 cap0 z0 w W5 HL0.out HI0.out B5 hb0).mono ?_
  rintro e W6 ⟨g6, rfl, o6, b6⟩
  have B6 : Below w.heap.size w W6 := bel_then b6 B5.size B5
  have sB6 := b6.size
  have Yw0_6 := hidden (own_bel Yw0_5.out b6)
  clear Yw0_5
  have X3_6 := hidden (own_bel X3_5.out b6)
  clear X3_5
  have Yg0_6 := hidden (own_bel Yg0_5.out b6)
  clear Yg0_5
  have X6 := hidden o6
  have Q6 := own_ranged o6
  clear o6 b6
  go_wp2_with fail
  refine (eq_e _ _ _ _ z0 W6 HL0.out (own_ints X3_6.out HI0.out.2.1 hb0) (own_ints X6.out HI0.out.2.1 hb0)).mono ?_
  rintro e W7 ⟨rfl, b7⟩
  clear X6
  have B7 : Below w.heap.size w W7 := bel_then b7 B6.size B6
  have sB7 := b7.size
  have Yw0_7 := hidden (own_bel Yw0_6.out b7)
  clear Yw0_6
  have X3_7 := hidden (own_bel X3_6.out b7)
  clear X3_6
  have Yg0_7 := hidden (own_bel Yg0_6.out b7)
  clear Yg0_6
  clear b7
  go_wp2_with fail
  refine (mark_e (k := 1) _ z0 W7 X3_7.out hb0 (by omega) _ (by simp)).mono ?_
  rintro e W8 ⟨rfl, o8, gr8⟩
  have B8 : Below w.heap.size w W8 := bel_grown B7 gr8 Q3 (by omega)
  have sB8 := gr8.size
  have Yw0_8 := hidden (Yw0_7.out.kept gr8 (ranged_ne Qw0 Q3 (by omega)))
  clear Yw0_7
  have X3_8 := hidden o8
  clear X3_7
  have Yg0_8 := hidden (Yg0_7.out.kept gr8 (ranged_ne Qg0 Q3 (by omega)))
  clear Yg0_7
  clear o8 gr8
  clear X3_8
  go_wp2_with fail
  refine (eq_e _ _ _ _ y0 W8 HY0.out (own_ints Yg0_8.out HR0.out hm0) (own_ints Yw0_8.out HR0.out hm0)).mono ?_
  rintro e W9 ⟨rfl, b9⟩
  have B9 : Below w.heap.size w W9 := bel_then b9 B8.size B8
  have sB9 := b9.size
  have Yw0_9 := hidden (own_bel Yw0_8.out b9)
  clear Yw0_8
  have Yg0_9 := hidden (own_bel Yg0_8.out b9)
  clear Yg0_8
  clear b9
  go_wp2_with fail
  refine (mark_e (k := 1) _ y0 W9 Yg0_9.out hm0 (by omega) _ (by simp)).mono ?_
  rintro e W10 ⟨rfl, o10, gr10⟩
  have B10 : Below w.heap.size w W10 := bel_grown B9 gr10 Qg0 (by omega)
  have sB10 := gr10.size
  have Yw0_10 := hidden (Yw0_9.out.kept gr10 (ranged_ne Qw0 Qg0 (by omega)))
  clear Yw0_9
  have Yg0_10 := hidden o10
  clear Yg0_9
  clear o10 gr10
  go_wp2_with fail
  refine (held_e _ W10 Yg0_10.out hm0).mono ?_
  rintro e _ ⟨rfl, rfl⟩
  go_wp2_with fail
  refine (toInt_e a0 cap0 z0 w W10 HL0.out HI0.out B10 hb0).mono ?_
  rintro e W11 ⟨g11, rfl, o11, b11⟩
  have B11 : Below w.heap.size w W11 := bel_then b11 B10.size B10
  have sB11 := b11.size
  have Yw0_11 := hidden (own_bel Yw0_10.out b11)
  clear Yw0_10
  have Yg0_11 := hidden (own_bel Yg0_10.out b11)
  clear Yg0_10
  have X11 := hidden o11
  have Q11 := own_ranged o11
  clear o11 b11
  go_wp2_with fail
  refine (KI.out W11 _ _ (own_ints X11.out HI0.out.2.1 hb0)).mono ?_
  rintro e W12 ⟨v0_12, rfl, o0_12, b12⟩
  obtain ⟨gh0, ch0, rfl⟩ := own_form o0_12
  have B12 : Below w.heap.size w W12 := bel_then b12 B11.size B11
  have sB12 := b12.size
  have Yw0_12 := hidden (own_bel Yw0_11.out b12)
  clear Yw0_11
  have Yg0_12 := hidden (own_bel Yg0_11.out b12)
  clear Yg0_11
  have X11_12 := hidden (own_bel X11.out b12)
  clear X11
  have Yh0 := hidden o0_12
  have Qh0 := own_ranged o0_12
  clear o0_12
  clear b12
  clear X11_12
  go_wp2_with fail
  refine (eq_e _ _ _ _ y0 W12 HY0.out (own_ints Yh0.out HR0.out hm0) (own_ints Yw0_12.out HR0.out hm0)).mono ?_
  rintro e W13 ⟨rfl, b13⟩
  have B13 : Below w.heap.size w W13 := bel_then b13 B12.size B12
  have sB13 := b13.size
  have Yw0_13 := hidden (own_bel Yw0_12.out b13)
  clear Yw0_12
  have Yg0_13 := hidden (own_bel Yg0_12.out b13)
  clear Yg0_12
  have Yh0_13 := hidden (own_bel Yh0.out b13)
  clear Yh0
  clear b13
  go_wp2_with fail
  refine (held_e _ W13 Yg0_13.out hm0).mono ?_
  rintro e _ ⟨rfl, rfl⟩
  go_wp2
  go_ret
  exact ⟨rfl, B13⟩
set_option maxRecDepth 100000 in
theorem walk_FnExactCodes (hM : MeetsCodes) (w : World) (a0 : Option Addr) (len0 cap0 : Nat) (z0 : List Int) (w0 : IsRow .i64 w a0 len0 cap0 z0) :
    Calls Try.prog 7 #[.slice a0 len0 cap0] w fun e w' => e = .returned (.bool true) ∧ Below w.heap.size w w' := by
  have hl0 := isrow_lenE w0
  by_cases hb0 : len0 ≤ 1048576
  rotate_left
  · have hx : (1048576 : Int) < (len0 : Int) := by omega
    clear hM
    go_enter Try.func7, Try.ntmps7
    go_wp2
    go_ret
    exact ⟨rfl, Below.refl _ _⟩
  obtain ⟨y0', hl0', hI0⟩ := Ints.ofRowE w0 hb0
  obtain ⟨y0, ⟨hm0, hr0⟩, hs, hi⟩ := hM y0' (by rw [hl0']; exact hb0) hI0.2.1
  rw [hl0'] at hs hi
  exact in_FnExactCodes w a0 len0 cap0 y0' (hidden hI0) (hidden hl0') hb0 y0 _ (hidden rfl) hm0 (hidden hr0) (hidden hs) (hidden hi)
end Go.Proofs.Ytdfbpmkdmpdobaa
namespace Go.Proofs.Ytdfbpmkdmpdobaa
set_option linter.unusedVariables false
set_option linter.unusedSimpArgs false
open Go.RowKit Go.ChangeShapes Go.WideShapes Go.ChangeAt

/-- For all arguments in bounds the model and the program answer the same. -/
def MeetsPutSyms : Prop := ∀ (z0 : List Int) (z1 : List Int), z0.length ≤ 1048576 → (∀ x ∈ z0, -9223372036854775808 ≤ x ∧ x ≤ 9223372036854775807) → z1.length ≤ 1048576 → (∀ x ∈ z1, -9223372036854775808 ≤ x ∧ x ≤ 9223372036854775807) → ∃ (t0 : ByteArray) (r0 : Int) (r1 : Bool), (∀ (W : World) (p0 : Addr) (c0 : Nat) (p1 : Addr) (c1 : Nat), Ints W W.heap.size (some p0) z0 → Ints W W.heap.size (some p1) z1 → Calls Try.prog 18 #[.slice (some p0) z0.length c0, .slice (some p1) z1.length c1] W fun e w' => e = .returned (.tuple #[.agg #[.string t0, .int .i64 r0], .bool r1]) ∧ Below W.heap.size W w') ∧ (∀ (W : World) (p0 : Addr) (c0 : Nat) (p1 : Addr) (c1 : Nat), Ints W W.heap.size (some p0) z0 → Ints W W.heap.size (some p1) z1 → Calls Try.prog 17 #[.slice (some p0) z0.length c0, .slice (some p1) z1.length c1] W fun e w' => e = .returned (.tuple #[.agg #[.string t0, .int .i64 r0], .bool r1]) ∧ Below W.heap.size W w')
set_option maxHeartbeats 4000000 in
set_option maxRecDepth 100000 in
theorem in_FnExactPutSyms (w : World) (a0 : Option Addr) (len0 cap0 : Nat) (z0 : List Int) (HI0 : Hid (Ints w w.heap.size a0 z0)) (HL0 : Hid (z0.length = len0)) (hb0 : len0 ≤ 1048576) (a1 : Option Addr) (len1 cap1 : Nat) (z1 : List Int) (HI1 : Hid (Ints w w.heap.size a1 z1)) (HL1 : Hid (z1.length = len1)) (hb1 : len1 ≤ 1048576) (t0 : ByteArray) (r0 : Int) (r1 : Bool)
    (KS : Hid (∀ (W : World) (p0 : Addr) (c0 : Nat) (p1 : Addr) (c1 : Nat), Ints W W.heap.size (some p0) z0 → Ints W W.heap.size (some p1) z1 → Calls Try.prog 18 #[.slice (some p0) len0 c0, .slice (some p1) len1 c1] W fun e w' => e = .returned (.tuple #[.agg #[.string t0, .int .i64 r0], .bool r1]) ∧ Below W.heap.size W w'))
    (KI : Hid (∀ (W : World) (p0 : Addr) (c0 : Nat) (p1 : Addr) (c1 : Nat), Ints W W.heap.size (some p0) z0 → Ints W W.heap.size (some p1) z1 → Calls Try.prog 17 #[.slice (some p0) len0 c0, .slice (some p1) len1 c1] W fun e w' => e = .returned (.tuple #[.agg #[.string t0, .int .i64 r0], .bool r1]) ∧ Below W.heap.size W w')) :
    Calls Try.prog 8 #[.slice a0 len0 cap0, .slice a1 len1 cap1] w fun e w' => e = .returned (.bool true) ∧ Below w.heap.size w w' := by
  have hg0 : ¬ (1048576 : Int) < (len0 : Int) := by omega
  have hg1 : ¬ (1048576 : Int) < (len1 : Int) := by omega
  have hk0 : ¬ (1 : Int) + (len0 : Int) < 0 := by omega
  have hk1 : ¬ (1 : Int) + (len0 : Int) + (len1 : Int) < 0 := by omega
  go_enter Try.func8, Try.ntmps8
  go_wp2_with fail
  refine (toInt_e a0 cap0 z0 w w HL0.out HI0.out (Below.refl w.heap.size w) hb0).mono ?_
  rintro e W1 ⟨g1, rfl, o1, b1⟩
  have B1 : Below w.heap.size w W1 := bel_then b1 (Below.refl w.heap.size w).size (Below.refl w.heap.size w)
  have sB1 := b1.size
  have X1 := hidden o1
  have Q1 := own_ranged o1
  clear o1 b1
  go_wp2_with fail
  refine (toInt_e a1 cap1 z1 w W1 HL1.out HI1.out B1 hb1).mono ?_
  rintro e W2 ⟨g2, rfl, o2, b2⟩
  have B2 : Below w.heap.size w W2 := bel_then b2 B1.size B1
  have sB2 := b2.size
  have X1_2 := hidden (own_bel X1.out b2)
  clear X1
  have X2 := hidden o2
  have Q2 := own_ranged o2
  clear o2 b2
  go_wp2_with fail
  refine (KS.out W2 _ _ _ _ (own_ints X1_2.out HI0.out.2.1 hb0) (own_ints X2.out HI1.out.2.1 hb1)).mono ?_
  rintro e W3 ⟨rfl, b3⟩
  have B3 : Below w.heap.size w W3 := bel_then b3 B2.size B2
  have sB3 := b3.size
  have X1_3 := hidden (own_bel X1_2.out b3)
  clear X1_2
  have X2_3 := hidden (own_bel X2.out b3)
  clear X2
  clear b3
  obtain ⟨N4, hN4⟩ : ∃ N, N = (W3.alloc (.cells #[.string t0, .int .i64 r0] 32)) := ⟨_, rfl⟩
  have hb4_ : Below W3.heap.size W3 N4 := by rw [hN4]; exact (Below.refl _ _).alloc (Nat.le_refl _) _
  have Hw0 : Hid (Has N4 W3.heap.size 32 #[.string t0, .int .i64 r0]) := hidden (by rw [hN4]; exact Has.fresh _ _ _)
  have lHw0 := Hw0.out.lt
  have B4 : Below w.heap.size w N4 := bel_then hb4_ B3.size B3
  have sB4 := hb4_.size
  have X1_4 := hidden (own_bel X1_3.out hb4_)
  clear X1_3
  have X2_4 := hidden (own_bel X2_3.out hb4_)
  clear X2_3
  clear hb4_
  clear X1_4
  clear X2_4
  go_wp2_with fail
  rw [← hN4]
  refine (toInt_e a0 cap0 z0 w N4 HL0.out HI0.out B4 hb0).mono ?_
  rintro e W5 ⟨g5, rfl, o5, b5⟩
  clear hN4
  have B5 : Below w.heap.size w W5 := bel_then b5 B4.size B4
  have sB5 := b5.size
  have Hw0_5 := hidden (Hw0.out.below b5 Hw0.out.lt)
  clear Hw0
  have X5 := hidden o5
  have Q5 := own_ranged o5
  clear o5 b5
  go_wp2_with fail
  refine (toInt_e a1 cap1 z1 w W5 HL1.out HI1.out B5 hb1).mono ?_
  rintro e W6 ⟨g6, rfl, o6, b6⟩
  have B6 : Below w.heap.size w W6 := bel_then b6 B5.size B5
  have sB6 := b6.size
  have Hw0_6 := hidden (Hw0_5.out.below b6 Hw0_5.out.lt)
  clear Hw0_5
  have X5_6 := hidden (own_bel X5.out b6)
  clear X5
  have X6 := hidden o6
  have Q6 := own_ranged o6
  clear o6 b6
  go_wp2_with fail
  refine (KI.out W6 _ _ _ _ (own_ints X5_6.out HI0.out.2.1 hb0) (own_ints X6.out HI1.out.2.1 hb1)).mono ?_
  rintro e W7 ⟨rfl, b7⟩
  have B7 : Below w.heap.size w W7 := bel_then b7 B6.size B6
  have sB7 := b7.size
  have Hw0_7 := hidden (Hw0_6.out.below b7 Hw0_6.out.lt)
  clear Hw0_6
  have X5_7 := hidden (own_bel X5_6.out b7)
  clear X5_6
  have X6_7 := hidden (own_bel X6.out b7)
  clear X6
  clear b7
  have q8_Hw0a := Hw0_7.out.cell 0
  have q8_Hw0b := Hw0_7.out.cell 1
  have q8_Hw0l := Hw0_7.out.lt
  simp at q8_Hw0a q8_Hw0b
  have q8_Hw0n : ¬ W3.heap.size = W7.heap.size := by omega
  obtain ⟨N8, hN8⟩ : ∃ N, N = (W7.alloc (.cells #[.string t0, .int .i64 r0] 32)) := ⟨_, rfl⟩
  have hb8_ : Below W7.heap.size W7 N8 := by rw [hN8]; exact (Below.refl _ _).alloc (Nat.le_refl _) _
  have Hg0 : Hid (Has N8 W7.heap.size 32 #[.string t0, .int .i64 r0]) := hidden (by rw [hN8]; exact Has.fresh _ _ _)
  have lHg0 := Hg0.out.lt
  have B8 : Below w.heap.size w N8 := bel_then hb8_ B7.size B7
  have sB8 := hb8_.size
  have Hw0_8 := hidden (Hw0_7.out.below hb8_ Hw0_7.out.lt)
  clear Hw0_7
  have X5_8 := hidden (own_bel X5_7.out hb8_)
  clear X5_7
  have X6_8 := hidden (own_bel X6_7.out hb8_)
  clear X6_7
  clear hb8_
  have e8_Hg0a := Hg0.out.cell 0
  have e8_Hg0b := Hg0.out.cell 1
  simp at e8_Hg0a e8_Hg0b
  have e8_Hw0a := Hw0_8.out.cell 0
  have e8_Hw0b := Hw0_8.out.cell 1
  simp at e8_Hw0a e8_Hw0b
  go_wp2_with fail
  rw [← hN8]
  refine (eqBits_e t0 r0 N8).mono ?_
  rintro e W9 ⟨rfl, b9⟩
  clear e8_Hg0a e8_Hg0b e8_Hw0a e8_Hw0b hN8 q8_Hw0a q8_Hw0b q8_Hw0l q8_Hw0n
  have B9 : Below w.heap.size w W9 := bel_then b9 B8.size B8
  have sB9 := b9.size
  have Hw0_9 := hidden (Hw0_8.out.below b9 Hw0_8.out.lt)
  clear Hw0_8
  have X5_9 := hidden (own_bel X5_8.out b9)
  clear X5_8
  have X6_9 := hidden (own_bel X6_8.out b9)
  clear X6_8
  have Hg0_9 := hidden (Hg0.out.below b9 Hg0.out.lt)
  clear Hg0
  clear b9
  go_wp2_with fail
  refine (toInt_e a0 cap0 z0 w W9 HL0.out HI0.out B9 hb0).mono ?_
  rintro e W10 ⟨g10, rfl, o10, b10⟩
  have B10 : Below w.heap.size w W10 := bel_then b10 B9.size B9
  have sB10 := b10.size
  have Hw0_10 := hidden (Hw0_9.out.below b10 Hw0_9.out.lt)
  clear Hw0_9
  have X5_10 := hidden (own_bel X5_9.out b10)
  clear X5_9
  have X6_10 := hidden (own_bel X6_9.out b10)
  clear X6_9
  have Hg0_10 := hidden (Hg0_9.out.below b10 Hg0_9.out.lt)
  clear Hg0_9
  have X10 := hidden o10
  have Q10 := own_ranged o10
  clear o10 b10
  go_wp2_with fail
  refine (eq_e _ _ _ _ z0 W10 HL0.out (own_ints X5_10.out HI0.out.2.1 hb0) (own_ints X10.out HI0.out.2.1 hb0)).mono ?_
  rintro e W11 ⟨rfl, b11⟩
  clear X10
  have B11 : Below w.heap.size w W11 := bel_then b11 B10.size B10
  have sB11 := b11.size
  have Hw0_11 := hidden (Hw0_10.out.below b11 Hw0_10.out.lt)
  clear Hw0_10
  have X5_11 := hidden (own_bel X5_10.out b11)
  clear X5_10
  have X6_11 := hidden (own_bel X6_10.out b11)
  clear X6_10
  have Hg0_11 := hidden (Hg0_10.out.below b11 Hg0_10.out.lt)
  clear Hg0_10
  clear b11
  go_wp2_with fail
  refine (toInt_e a1 cap1 z1 w W11 HL1.out HI1.out B11 hb1).mono ?_
  rintro e W12 ⟨g12, rfl, o12, b12⟩
  have B12 : Below w.heap.size w W12 := bel_then b12 B11.size B11
  have sB12 := b12.size
  have Hw0_12 := hidden (Hw0_11.out.below b12 Hw0_11.out.lt)
  clear Hw0_11
  have X5_12 := hidden (own_bel X5_11.out b12)
  clear X5_11
  have X6_12 := hidden (own_bel X6_11.out b12)
  clear X6_11
  have Hg0_12 := hidden (Hg0_11.out.below b12 Hg0_11.out.lt)
  clear Hg0_11
  have X12 := hidden o12
  have Q12 := own_ranged o12
  clear o12 b12
  go_wp2_with fail
  refine (eq_e _ _ _ _ z1 W12 HL1.out (own_ints X6_12.out HI1.out.2.1 hb1) (own_ints X12.out HI1.out.2.1 hb1)).mono ?_
  rintro e W13 ⟨rfl, b13⟩
  clear X12
  have B13 : Below w.heap.size w W13 := bel_then b13 B12.size B12
  have sB13 := b13.size
  have Hw0_13 := hidden (Hw0_12.out.below b13 Hw0_12.out.lt)
  clear Hw0_12
  have X5_13 := hidden (own_bel X5_12.out b13)
  clear X5_12
  have X6_13 := hidden (own_bel X6_12.out b13)
  clear X6_12
  have Hg0_13 := hidden (Hg0_12.out.below b13 Hg0_12.out.lt)
  clear Hg0_12
  clear b13
  go_wp2
  go_ret
  exact ⟨rfl, B13⟩
set_option maxRecDepth 100000 in
theorem walk_FnExactPutSyms (hM : MeetsPutSyms) (w : World) (a0 : Option Addr) (len0 cap0 : Nat) (z0 : List Int) (w0 : IsRow .i64 w a0 len0 cap0 z0) (a1 : Option Addr) (len1 cap1 : Nat) (z1 : List Int) (w1 : IsRow .i64 w a1 len1 cap1 z1) :
    Calls Try.prog 8 #[.slice a0 len0 cap0, .slice a1 len1 cap1] w fun e w' => e = .returned (.bool true) ∧ Below w.heap.size w w' := by
  have hl0 := isrow_lenE w0
  have hl1 := isrow_lenE w1
  by_cases hb0 : len0 ≤ 1048576
  rotate_left
  · have hx : (1048576 : Int) < (len0 : Int) := by omega
    clear hM
    go_enter Try.func8, Try.ntmps8
    go_wp2
    go_ret
    exact ⟨rfl, Below.refl _ _⟩
  by_cases hb1 : len1 ≤ 1048576
  rotate_left
  · have hx : (1048576 : Int) < (len1 : Int) := by omega
    have hx0 : ¬ (1048576 : Int) < (len0 : Int) := by omega
    clear hM
    go_enter Try.func8, Try.ntmps8
    go_wp2
    go_ret
    exact ⟨rfl, Below.refl _ _⟩
  obtain ⟨y0', hl0', hI0⟩ := Ints.ofRowE w0 hb0
  obtain ⟨y1', hl1', hI1⟩ := Ints.ofRowE w1 hb1
  obtain ⟨t0, r0, r1, hs, hi⟩ := hM y0' y1' (by rw [hl0']; exact hb0) hI0.2.1 (by rw [hl1']; exact hb1) hI1.2.1
  rw [hl0'] at hs hi
  rw [hl1'] at hs hi
  exact in_FnExactPutSyms w a0 len0 cap0 y0' (hidden hI0) (hidden hl0') hb0 a1 len1 cap1 y1' (hidden hI1) (hidden hl1') hb1 t0 r0 r1  (hidden hs) (hidden hi)
end Go.Proofs.Ytdfbpmkdmpdobaa
namespace Go.Proofs.Ytdfbpmkdmpdobaa
set_option linter.unusedVariables false
set_option linter.unusedSimpArgs false
open Go.RowKit Go.ChangeShapes Go.WideShapes Go.ChangeAt

/-- For all arguments in bounds the model and the program answer the same. -/
def MeetsSymBits : Prop := ∀ (z0 : List Int) (z1 : List Int), z0.length ≤ 1048576 → (∀ x ∈ z0, -9223372036854775808 ≤ x ∧ x ≤ 9223372036854775807) → z1.length ≤ 1048576 → (∀ x ∈ z1, -9223372036854775808 ≤ x ∧ x ≤ 9223372036854775807) → ∃ (r0 : Int), (∀ (W : World) (p0 : Addr) (c0 : Nat) (p1 : Addr) (c1 : Nat), Ints W W.heap.size (some p0) z0 → Ints W W.heap.size (some p1) z1 → Calls Try.prog 33 #[.slice (some p0) z0.length c0, .slice (some p1) z1.length c1] W fun e w' => e = .returned (.int .i64 r0) ∧ Below W.heap.size W w') ∧ (∀ (W : World) (p0 : Addr) (c0 : Nat) (p1 : Addr) (c1 : Nat), Ints W W.heap.size (some p0) z0 → Ints W W.heap.size (some p1) z1 → Calls Try.prog 19 #[.slice (some p0) z0.length c0, .slice (some p1) z1.length c1] W fun e w' => e = .returned (.int .i64 r0) ∧ Below W.heap.size W w')
set_option maxHeartbeats 4000000 in
set_option maxRecDepth 100000 in
theorem in_FnExactSymBits (w : World) (a0 : Option Addr) (len0 cap0 : Nat) (z0 : List Int) (HI0 : Hid (Ints w w.heap.size a0 z0)) (HL0 : Hid (z0.length = len0)) (hb0 : len0 ≤ 1048576) (a1 : Option Addr) (len1 cap1 : Nat) (z1 : List Int) (HI1 : Hid (Ints w w.heap.size a1 z1)) (HL1 : Hid (z1.length = len1)) (hb1 : len1 ≤ 1048576) (r0 : Int)
    (KS : Hid (∀ (W : World) (p0 : Addr) (c0 : Nat) (p1 : Addr) (c1 : Nat), Ints W W.heap.size (some p0) z0 → Ints W W.heap.size (some p1) z1 → Calls Try.prog 33 #[.slice (some p0) len0 c0, .slice (some p1) len1 c1] W fun e w' => e = .returned (.int .i64 r0) ∧ Below W.heap.size W w'))
    (KI : Hid (∀ (W : World) (p0 : Addr) (c0 : Nat) (p1 : Addr) (c1 : Nat), Ints W W.heap.size (some p0) z0 → Ints W W.heap.size (some p1) z1 → Calls Try.prog 19 #[.slice (some p0) len0 c0, .slice (some p1) len1 c1] W fun e w' => e = .returned (.int .i64 r0) ∧ Below W.heap.size W w')) :
    Calls Try.prog 9 #[.slice a0 len0 cap0, .slice a1 len1 cap1] w fun e w' => e = .returned (.bool true) ∧ Below w.heap.size w w' := by
  have hg0 : ¬ (1048576 : Int) < (len0 : Int) := by omega
  have hg1 : ¬ (1048576 : Int) < (len1 : Int) := by omega
  have hk0 : ¬ (1 : Int) + (len0 : Int) < 0 := by omega
  have hk1 : ¬ (1 : Int) + (len0 : Int) + (len1 : Int) < 0 := by omega
  go_enter Try.func9, Try.ntmps9
  go_wp2_with fail
  refine (toInt_e a0 cap0 z0 w w HL0.out HI0.out (Below.refl w.heap.size w) hb0).mono ?_
  rintro e W1 ⟨g1, rfl, o1, b1⟩
  have B1 : Below w.heap.size w W1 := bel_then b1 (Below.refl w.heap.size w).size (Below.refl w.heap.size w)
  have sB1 := b1.size
  have X1 := hidden o1
  have Q1 := own_ranged o1
  clear o1 b1
  go_wp2_with fail
  refine (toInt_e a1 cap1 z1 w W1 HL1.out HI1.out B1 hb1).mono ?_
  rintro e W2 ⟨g2, rfl, o2, b2⟩
  have B2 : Below w.heap.size w W2 := bel_then b2 B1.size B1
  have sB2 := b2.size
  have X1_2 := hidden (own_bel X1.out b2)
  clear X1
  have X2 := hidden o2
  have Q2 := own_ranged o2
  clear o2 b2
  go_wp2_with fail
  refine (KS.out W2 _ _ _ _ (own_ints X1_2.out HI0.out.2.1 hb0) (own_ints X2.out HI1.out.2.1 hb1)).mono ?_
  rintro e W3 ⟨rfl, b3⟩
  have B3 : Below w.heap.size w W3 := bel_then b3 B2.size B2
  have sB3 := b3.size
  have X1_3 := hidden (own_bel X1_2.out b3)
  clear X1_2
  have X2_3 := hidden (own_bel X2.out b3)
  clear X2
  clear b3
  clear X1_3
  clear X2_3
  go_wp2_with fail
  refine (toInt_e a0 cap0 z0 w W3 HL0.out HI0.out B3 hb0).mono ?_
  rintro e W4 ⟨g4, rfl, o4, b4⟩
  have B4 : Below w.heap.size w W4 := bel_then b4 B3.size B3
  have sB4 := b4.size
  have X4 := hidden o4
  have Q4 := own_ranged o4
  clear o4 b4
  go_wp2_with fail
  refine (toInt_e a1 cap1 z1 w W4 HL1.out HI1.out B4 hb1).mono ?_
  rintro e W5 ⟨g5, rfl, o5, b5⟩
  have B5 : Below w.heap.size w W5 := bel_then b5 B4.size B4
  have sB5 := b5.size
  have X4_5 := hidden (own_bel X4.out b5)
  clear X4
  have X5 := hidden o5
  have Q5 := own_ranged o5
  clear o5 b5
  go_wp2_with fail
  refine (KI.out W5 _ _ _ _ (own_ints X4_5.out HI0.out.2.1 hb0) (own_ints X5.out HI1.out.2.1 hb1)).mono ?_
  rintro e W6 ⟨rfl, b6⟩
  have B6 : Below w.heap.size w W6 := bel_then b6 B5.size B5
  have sB6 := b6.size
  have X4_6 := hidden (own_bel X4_5.out b6)
  clear X4_5
  have X5_6 := hidden (own_bel X5.out b6)
  clear X5
  clear b6
  go_wp2_with fail
  refine (toInt_e a0 cap0 z0 w W6 HL0.out HI0.out B6 hb0).mono ?_
  rintro e W7 ⟨g7, rfl, o7, b7⟩
  have B7 : Below w.heap.size w W7 := bel_then b7 B6.size B6
  have sB7 := b7.size
  have X4_7 := hidden (own_bel X4_6.out b7)
  clear X4_6
  have X5_7 := hidden (own_bel X5_6.out b7)
  clear X5_6
  have X7 := hidden o7
  have Q7 := own_ranged o7
  clear o7 b7
  go_wp2_with fail
  refine (eq_e _ _ _ _ z0 W7 HL0.out (own_ints X4_7.out HI0.out.2.1 hb0) (own_ints X7.out HI0.out.2.1 hb0)).mono ?_
  rintro e W8 ⟨rfl, b8⟩
  clear X7
  have B8 : Below w.heap.size w W8 := bel_then b8 B7.size B7
  have sB8 := b8.size
  have X4_8 := hidden (own_bel X4_7.out b8)
  clear X4_7
  have X5_8 := hidden (own_bel X5_7.out b8)
  clear X5_7
  clear b8
  go_wp2_with fail
  refine (toInt_e a1 cap1 z1 w W8 HL1.out HI1.out B8 hb1).mono ?_
  rintro e W9 ⟨g9, rfl, o9, b9⟩
  have B9 : Below w.heap.size w W9 := bel_then b9 B8.size B8
  have sB9 := b9.size
  have X4_9 := hidden (own_bel X4_8.out b9)
  clear X4_8
  have X5_9 := hidden (own_bel X5_8.out b9)
  clear X5_8
  have X9 := hidden o9
  have Q9 := own_ranged o9
  clear o9 b9
  go_wp2_with fail
  refine (eq_e _ _ _ _ z1 W9 HL1.out (own_ints X5_9.out HI1.out.2.1 hb1) (own_ints X9.out HI1.out.2.1 hb1)).mono ?_
  rintro e W10 ⟨rfl, b10⟩
  clear X9
  have B10 : Below w.heap.size w W10 := bel_then b10 B9.size B9
  have sB10 := b10.size
  have X4_10 := hidden (own_bel X4_9.out b10)
  clear X4_9
  have X5_10 := hidden (own_bel X5_9.out b10)
  clear X5_9
  clear b10
  go_wp2
  go_ret
  exact ⟨rfl, B10⟩
set_option maxRecDepth 100000 in
theorem walk_FnExactSymBits (hM : MeetsSymBits) (w : World) (a0 : Option Addr) (len0 cap0 : Nat) (z0 : List Int) (w0 : IsRow .i64 w a0 len0 cap0 z0) (a1 : Option Addr) (len1 cap1 : Nat) (z1 : List Int) (w1 : IsRow .i64 w a1 len1 cap1 z1) :
    Calls Try.prog 9 #[.slice a0 len0 cap0, .slice a1 len1 cap1] w fun e w' => e = .returned (.bool true) ∧ Below w.heap.size w w' := by
  have hl0 := isrow_lenE w0
  have hl1 := isrow_lenE w1
  by_cases hb0 : len0 ≤ 1048576
  rotate_left
  · have hx : (1048576 : Int) < (len0 : Int) := by omega
    clear hM
    go_enter Try.func9, Try.ntmps9
    go_wp2
    go_ret
    exact ⟨rfl, Below.refl _ _⟩
  by_cases hb1 : len1 ≤ 1048576
  rotate_left
  · have hx : (1048576 : Int) < (len1 : Int) := by omega
    have hx0 : ¬ (1048576 : Int) < (len0 : Int) := by omega
    clear hM
    go_enter Try.func9, Try.ntmps9
    go_wp2
    go_ret
    exact ⟨rfl, Below.refl _ _⟩
  obtain ⟨y0', hl0', hI0⟩ := Ints.ofRowE w0 hb0
  obtain ⟨y1', hl1', hI1⟩ := Ints.ofRowE w1 hb1
  obtain ⟨r0, hs, hi⟩ := hM y0' y1' (by rw [hl0']; exact hb0) hI0.2.1 (by rw [hl1']; exact hb1) hI1.2.1
  rw [hl0'] at hs hi
  rw [hl1'] at hs hi
  exact in_FnExactSymBits w a0 len0 cap0 y0' (hidden hI0) (hidden hl0') hb0 a1 len1 cap1 y1' (hidden hI1) (hidden hl1') hb1 r0  (hidden hs) (hidden hi)
end Go.Proofs.Ytdfbpmkdmpdobaa
namespace Go.Proofs.Ytdfbpmkdmpdobaa
set_option linter.unusedVariables false
set_option linter.unusedSimpArgs false
open Go.RowKit Go.Maps

/-- What the map says of v in k bits, of which s shows at bit a that they are next. -/
theorem map_hit {ls : List Int} (h : lOk ls = true) {s : ByteArray} {a k i : Nat} (hh : hit ls s a k i) (z : DataW Unit) :
    has (mapD (cdF ls) (lnF ls) ls.length) (keyL (num (row s a k)) k) = true ∧ (mapD (cdF ls) (lnF ls) ls.length).atKey (keyL (num (row s a k)) k) z = .lit (.int .i64 (i : Int)) := by
  obtain ⟨h1, h2, h3, h4⟩ := hh
  rw [h4, ← h2]
  exact mapD_yes _ _ z i _ h1 (fun j hj => ⟨by have := cdF_lt20 h j hj; omega, (lRange_ln (lOk_range h) j hj).2⟩) (fun j hj hc hl => codeN_inj _ _ j i hj h1 (lRange_ln (lOk_range h) i h1).2 hl hc)
theorem map_miss {ls : List Int} (h : lOk ls = true) {s : ByteArray} {a k : Nat} (hk : k ≤ 20) (ha : a + k ≤ 8 * s.size) (hh : ∀ i, ¬ hit ls s a k i) :
    has (mapD (cdF ls) (lnF ls) ls.length) (keyL (num (row s a k)) k) = false := by
  have h2 := num_row_lt s a k
  have h3 : 2 ^ k ≤ 2 ^ 20 := Nat.pow_le_pow_right (by omega) hk
  exact mapD_no _ _ _ _ (by omega) (by omega) _ (fun j hj => ⟨by have := cdF_lt20 h j hj; omega, (lRange_ln (lOk_range h) j hj).2⟩) (fun i hi hc => hh i ⟨hi, hc.2, ha, hc.1.symm⟩)
set_option maxHeartbeats 4000000 in
set_option maxRecDepth 100000 in
theorem next_any (s : ByteArray) (at0 mb g : Nat) (T : TypeId) (ls : List Int) (w : World) (hok : lOk ls = true) (hs : s.size ≤ 1048576) (hat0 : at0 ≤ 8 * s.size) (hM : MapAt w mb ls) (hR : Has w g T #[.string s, .int .i64 at0]) (hne : mb ≠ g) :
    Calls Try.prog 56 #[.map (some mb), .pointer (some ⟨g, 0, none⟩)] w fun e w' => Only g w w' ∧
      ((∃ n i, hit ls s at0 n i ∧ e = .returned (.tuple #[.int .i64 i, .bool true]) ∧ Has w' g T #[.string s, .int .i64 ((at0 + n : Nat) : Int)]) ∨
       ((∀ n i, ¬ hit ls s at0 n i) ∧ e = .returned (.tuple #[.int .i64 (-1), .bool false]))) := by
  have hr := lOk_range hok
  have HOK := hidden hok
  have HLN := hidden (lRange_ln hr)
  have hgl := hR.lt
  have hml := hM.lt
  have hC := Has.fresh w 90 #[.int .i64 0, .int .i64 0]
  have hR0 := hR.alloc (.cells #[.int .i64 0, .int .i64 0] 90)
  have hM0 := hM.alloc (.cells #[.int .i64 0, .int .i64 0] 90)
  have hO0 := (Only.refl g w).alloc (.cells #[.int .i64 0, .int .i64 0] 90)
  have HNE := hidden hne
  clear hok hr hM hR hne
  go_enter Try.func56, Try.ntmps56
  go_wp2
  go_loopg [] 20 (fun gk wr => ∃ k v p : Nat, Hid (k + gk = 20) ∧ k ≤ 20 ∧ Hid (p = at0 + k) ∧ p ≤ 8 * s.size ∧ Hid (v = num (row s at0 k)) ∧ Hid (∀ n i, n ≤ k → ¬ hit ls s at0 n i) ∧ Has wr w.heap.size 90 #[.int .i64 v, .int .i64 k] ∧ Has wr g T #[.string s, .int .i64 p] ∧ MapAt wr mb ls ∧ Only g w wr)
  case atStart => exact ⟨0, 0, at0, hidden rfl, by omega, hidden rfl, hat0, hidden rfl, hidden (fun n i hn hh => by
    have := HLN.out i hh.1
    have := hh.2.1
    omega), hC, hR0, hM0, hO0⟩
  case round =>
    obtain ⟨k, v, p, HG, hk, HP, hp, HV, HNO, hC, hR, hM, hO⟩ := hrel
    have hv20 : v < 1048576 := by
      rw [HV.out]
      have h3 : 2 ^ k ≤ 2 ^ 20 := Nat.pow_le_pow_right (by omega) hk
      exact Nat.lt_of_lt_of_le (num_row_lt s at0 k) h3
    have c0 := hC.cell 0
    have c1 := hC.cell 1
    have f0 := hC.free 0
    have f1 := hC.free 1
    have r0 := hR.cell 0
    have r1 := hR.cell 1
    simp at c0 c1 r0 r1
    by_cases hk20 : k < 20
    · have hkI : (k : Int) < 20 := by omega
      by_cases hp8 : p < 8 * s.size
      · have hpI : (p : Int) < 8 * (s.size : Int) := by omega
        have hx2 := num_row_lt s p 1
        have HV2 : Hid (num (row s at0 (k + 1)) = v * 2 + num (row s p 1)) := hidden (by
          rw [row_add, num_append, row_len, ← HV.out, ← HP.out])
        obtain ⟨x, hx⟩ : ∃ x, num (row s p 1) = x := ⟨_, rfl⟩
        rw [hx] at hx2 HV2
        have hHI := HP.out
        have HHIT := hidden (fun i (h : hit ls s at0 (k + 1) i) => map_hit HOK.out h (.lit (.int .i64 0)))
        have HMISS := hidden (fun h => map_miss HOK.out (s := s) (a := at0) (k := k + 1) (by omega) (by omega) h)
        rw [HV2.out] at HHIT HMISS
        obtain ⟨v2, hv2⟩ : ∃ v2, v * 2 + x = v2 := ⟨_, rfl⟩
        rw [hv2] at HHIT HMISS HV2
        have HE : Hid (bits BinOp.or IntKind.i64 (IntKind.i64.wrap ((v : Int) * 2)) (x : Int) = (v2 : Int)) := hidden (by
          have h1 := shl_or v 1 x (by omega) (by omega) hx2
          rw [← hv2, show IntKind.i64.wrap ((v : Int) * 2) = wrap64 ((v : Int) * 2 ^ 1) by rw [IntWalk.i64_in _ (by omega), show ((v : Int) * 2 ^ 1) = ((v * 2 : Nat) : Int) by simp, wrap64_n _ (by omega)]; simp, h1])
        have HKEY : Hid (keyOf Try.prog 90 (.agg #[.int .i64 (v2 : Int), .int .i64 ((k : Int) + 1)]) = some (keyL v2 (k + 1))) := hidden (by
          have := key_code v2 (k + 1) (by omega) (by omega)
          rwa [show ((k + 1 : Nat) : Int) = (k : Int) + 1 by omega] at this)
        have HV2I := hidden hv2
        clear hv2
        have HX := hidden hx
        clear hx hHI
        go_wp2
        go_quiet (fail)
        go_upto_region 3 with (fail)
        go_cut [] (fun wx => Has wx w.heap.size 90 #[.int .i64 v2, .int .i64 k] ∧ Has wx g T #[.string s, .int .i64 ((p + 1 : Nat) : Int)] ∧ MapAt wx mb ls ∧ Only g w wx)
        case first =>
          go_region_with (go_at_call 67; (refine (take_any s p 1 g T _ hs (by omega) (by omega) ?hW).mono ?_); (case hW => exact hR); rintro e w1 ⟨rfl, hR1, hO1⟩; rw [HX.out]; have hC1 := hO1.has (t := 90) (cs := #[.int .i64 (v : Int), .int .i64 (k : Int)]) hC (by omega); have d0 : w1.cell? ⟨w.heap.size, 0, none⟩ = some (.int .i64 (v : Int)) := hC1.cell 0; have e0 := hC1.free 0)
          all_goals
            have hM1 : MapAt w1 mb ls := by
              refine MapAt.only ?_ hO1 HNE.out
              exact hM
            have hO2 : Only g w w1 := by
              refine World.grownBy.trans ?_ hO1
              exact hO.drewN _
            rw [HE.out]
            clear d0 e0
            go_wp2
            go_meet
            case rel => exact ⟨hC1.store 0 _, hR1.storeAway (by simp; omega) _, hM1.setCell (by simp; omega) _, hO2.store (.inr (Nat.le_refl _)) _⟩
        case rest =>
          obtain ⟨hC3, hR3, ⟨nm, hM3⟩, hO3⟩ := hcut
          have d0 := hC3.cell 0
          have d1 := hC3.cell 1
          have e0 := hC3.free 0
          have e1 := hC3.free 1
          simp at d0 d1
          clear c0 c1 f0 f1 r0 r1 hC hR hM hO hR0 hM0 hO0
          have hkey := HKEY.out
          by_cases hit1 : ∃ i, hit ls s at0 (k + 1) i
          · obtain ⟨i, hi⟩ := hit1
            have hH := HHIT.out i hi
            have HH := hidden hH
            go_wp2_with (at_lookup; refine wpList_lookup_own_ok_int _ rfl _ _ 71 rfl 90 3 .i64 codeLaw Try.underlying71 Try.underlying3 (zeroInt _) mb nm _ rfl (hM3.setCell (by simp; omega) _) _ _ rfl hkey ?_; intro c hat hwc; rw [HH.out.1])
            have hci : c = (i : Int) := by
              have h1 := hat.symm.trans HH.out.2
              simpa using h1
            subst hci
            go_ret2
            have hRf := hR3.storeAway (p := ⟨w.heap.size, 1, none⟩) (by simp; omega) (.int .i64 ((k : Int) + 1))
            rw [show p + 1 = at0 + (k + 1) by have := HP.out; omega] at hRf
            exact ⟨hO3.store (.inr (Nat.le_refl _)) _, .inl ⟨k + 1, i, hi, rfl, hRf⟩⟩
          · have hM0 := HMISS.out (fun i h => hit1 ⟨i, h⟩)
            have HH := hidden hM0
            have HN := hidden hit1
            clear hM0 hit1
            go_wp2_with (at_lookup; refine wpList_lookup_own_ok_int _ rfl _ _ 71 rfl 90 3 .i64 codeLaw Try.underlying71 Try.underlying3 (zeroInt _) mb nm _ rfl (hM3.setCell (by simp; omega) _) _ _ rfl hkey ?_; intro c hat hwc; rw [HH.out])
            go_roundg (gk - 1)
            case measure => have := HG.out; omega
            case rel =>
              have hCf := hC3.store 1 (.int .i64 ((k : Int) + 1))
              have hRf := hR3.storeAway (p := ⟨w.heap.size, 1, none⟩) (by simp; omega) (.int .i64 ((k : Int) + 1))
              refine ⟨k + 1, v2, p + 1, hidden (by have := HG.out; omega), by omega, hidden (by have := HP.out; omega), by omega, hidden HV2.out.symm, hidden fun n i hn hh => ?_, by simpa using hCf, hRf, ⟨nm, hM3.setCell (by simp; omega) _⟩, hO3.store (.inr (Nat.le_refl _)) _⟩
              by_cases e : n = k + 1
              · subst e; exact HN.out ⟨i, hh⟩
              · exact HNO.out n i (by omega) hh
      · have hpN : decide ((p : Int) < 8 * (s.size : Int)) = false := by simp; omega
        have hpI : ¬ (p : Int) < 8 * (s.size : Int) := by omega
        have HF : Hid (∀ n i, ¬ hit ls s at0 n i) := hidden (fun n i hh => HNO.out n i (by have := hh.2.2.1; have := HP.out; omega) hh)
        clear hp8
        go_wp2
        go_quiet (fail)
        go_wp2
        go_ret2
        exact ⟨hO.drewN _, .inr ⟨HF.out, rfl⟩⟩
    · have hkN : decide ((k : Int) < 20) = false := by simp; omega
      have hkI : ¬ (k : Int) < 20 := by omega
      have HF : Hid (∀ n i, ¬ hit ls s at0 n i) := hidden (fun n i hh => HNO.out n i (by have := HLN.out i hh.1; have := hh.2.1; omega) hh)
      clear hk20
      go_wp2
      go_quiet (fail)
      go_wp2
      go_ret2
      exact ⟨hO.drewN _, .inr ⟨HF.out, rfl⟩⟩
end Go.Proofs.Ytdfbpmkdmpdobaa
namespace Go.Proofs.Ytdfbpmkdmpdobaa
set_option linter.unusedVariables false
set_option linter.unusedSimpArgs false
open Go.RowKit Go.Maps

/-- What reading n symbols answers. -/
def SymsPost (ls : List Int) (s : ByteArray) (at0 n : Nat) (w : World) (e : Ending) (w' : World) : Prop :=
  ((∃ (ys : List Nat) (c : Nat) (v : Value), ys.length = n ∧ Reads ls s at0 ys c ∧ e = .returned (.tuple #[v, .agg #[.string s, .int .i64 (c : Int)], .bool true]) ∧ w'.ownsRow w.heap.size 3 1 v n (natsL ys)) ∨
   ((¬ ∃ (ys : List Nat) (c : Nat), ys.length = n ∧ Reads ls s at0 ys c) ∧ e = .returned (.tuple #[.slice none 0 0, .agg #[.string ⟨#[]⟩, .int .i64 0], .bool false]))) ∧ Below w.heap.size w w'
theorem reads_stop {ls : List Int} (h : lOk ls = true) {s : ByteArray} {a c n : Nat} {ys : List Nat} (hr : Reads ls s a ys c) (hn : ys.length < n) (hno : ∀ m i, ¬ hit ls s c m i) : ¬ ∃ (zs : List Nat) (c : Nat), zs.length = n ∧ Reads ls s a zs c := by
  rintro ⟨zs, c2, hl, h2⟩
  rw [← List.take_append_drop ys.length zs] at h2
  obtain ⟨c3, h3, h4⟩ := h2.split
  obtain ⟨_, rfl⟩ := Reads.one h hr h3 (by rw [List.length_take]; omega)
  cases hd : zs.drop ys.length with
  | nil =>
    have := congrArg List.length hd
    rw [List.length_drop] at this
    simp at this; omega
  | cons x T =>
    rw [hd] at h4
    cases h4 with
    | cons _ m _ _ _ hh _ => exact hno _ _ hh
set_option maxHeartbeats 4000000 in
set_option maxRecDepth 100000 in
theorem getSyms_any (a : Option Addr) (cap B at0 n : Nat) (ls : List Int) (s : ByteArray) (w : World) (hz : Ints w B a ls) (hB : B ≤ w.heap.size) (hok : lOk ls = true) (hs : s.size ≤ 1048576) (ha : at0 ≤ 8 * s.size) (hn2 : n ≤ 2000) :
    Calls Try.prog 20 #[.slice a ls.length cap, .agg #[.string s, .int .i64 at0], .int .i64 n] w (SymsPost ls s at0 n w) := by
  obtain ⟨i0, hi, hz0, hz1, hz2⟩ := info_parts Try.infoInt
  have K1 := hidden (fun W h => implLensOk_any a cap B ls W h)
  rw [hok] at K1
  have K2 := hidden (fun W => implRdOk_yes s at0 W hs ha)
  have K3 := hidden (fun W h h2 => codeMapOf_any a cap B ls W h h2 hok)
  have K4 := hidden (fun (W : World) (c mb g : Nat) (hc : c ≤ 8 * s.size) (hM : MapAt W mb ls) (hR : Has W g 73 #[.string s, .int .i64 c]) (hne : mb ≠ g) => next_any s c mb g 73 ls W hok hs hc hM hR hne)
  have HSTOP := hidden (fun (c : Nat) (ys : List Nat) (h1 : Reads ls s at0 ys c) (h2 : ys.length < n) h3 => reads_stop hok h1 h2 h3)
  have HMEM := hidden (fun (ys : List Nat) (c : Nat) (h1 : Reads ls s at0 ys c) => h1.le ha)
  have HI := hidden hz
  have hR := (Has.fresh w 37 #[.string s, .int .i64 at0]).alloc (.cells #[.string ⟨#[]⟩, .int .i64 0] 37)
  have bb : Below w.heap.size w ((w.alloc (.cells #[.string s, .int .i64 at0] 37)).alloc (.cells #[.string ⟨#[]⟩, .int .i64 0] 37)) := ((Below.refl _ _).alloc (Nat.le_refl _) _).alloc (by simp) _
  have hS := Has.freshAt (w := w.alloc (.cells #[.string s, .int .i64 at0] 37)) (g := w.heap.size + 1) (by simp) 37 #[.string ⟨#[]⟩, .int .i64 0]
  obtain ⟨m, hm⟩ : ∃ m, ls.length = m := ⟨_, rfl⟩
  rw [hm] at K1 K3 ⊢
  clear hz hm hok
  go_enter Try.func20, Try.ntmps20
  go_wp2_with fail
  refine (K1.out _ (HI.out.below (bb.mono hB))).mono ?_
  rintro e w1 ⟨rfl, hw1⟩
  rw [← hw1] at hR hS bb
  clear hw1
  have c0 := hR.cell 0
  have c1 := hR.cell 1
  simp at c0 c1
  have hs1 := bb.size
  go_wp2_with fail
  refine (K2.out _).mono ?_
  rintro e w2 ⟨rfl, b2⟩
  replace bb := bel_then b2 hs1 bb
  replace hR := hR.below b2 hR.lt
  replace hS := hS.below b2 hS.lt
  have hs2 := bb.size
  clear c0 c1 b2
  go_wp2_with fail
  refine (K3.out _ (HI.out.below (bb.mono hB)) (Nat.le_trans hB hs2)).mono ?_
  rintro e w3 ⟨mb, rfl, hmb, hM, b3⟩
  replace bb := bel_then b3 hs2 bb
  replace hR := hR.below b3 hR.lt
  replace hS := hS.below b3 hS.lt
  have hs3 := bb.size
  have hRl := hR.lt
  have hSl := hS.lt
  have hMl := hM.lt
  have c0 := hR.cell 0
  have c1 := hR.cell 1
  simp at c0 c1
  have hG := Has.fresh w3 73 #[.string s, .int .i64 at0]
  have hM4 := hM.alloc (.cells #[.string s, .int .i64 at0] 73)
  have hS4 := hS.alloc (.cells #[.string s, .int .i64 at0] 73)
  have bb4 : Below w.heap.size w (w3.alloc (.cells #[.string s, .int .i64 at0] 73)) := bb.alloc hs3 _
  clear b3 hR hS hM
  go_wp2_with (at_make; refine wpList_make_own _ rfl _ _ 23 rfl (w3.heap.size + 1) 3 i0 (.int .i64 0) 1 Try.underlying23 hi hz0 hz1 _ _ _ n rfl rfl rfl ?b2 ?b3 ?b4 ?_)
  case b2 => rw [hz2]; omega
  case b3 => unfold maxLen; omega
  case b4 => simp
  intro w4 hownA hg0
  have hB4 : Below w.heap.size w w4 := bb4.grown hg0 (by simp; omega) (by simp)
  have hG5 := hG.grown hg0 (by simp)
  have hS5 := hS4.grown hg0 (by simp)
  have hM5 : MapAt w4 mb ls := by
    obtain ⟨q, hq⟩ := hM4
    exact ⟨q, hq.kept hg0 (by simp)⟩
  have hs45 := hg0.size
  simp at hs45
  obtain ⟨g, hg⟩ : ∃ g, w3.heap.size = g := ⟨_, rfl⟩
  rw [hg] at hownA hG5 hs45 hRl hSl hMl hs3
  simp only [hg]
  clear hG hM4 hS4 bb4 hg0 c0 c1 hs1 hs2 bb
  go_wp2
  go_loopw [11, 12, 13, 37] (fun v _ _ si wr => ∃ (k c : Nat) (ys : List Nat), k ≤ n ∧ si = .int .i64 k ∧ Hid (ys.length = k) ∧ Hid (Reads ls s at0 ys c) ∧ wr.ownsRow (g + 1) 3 1 v k (natsL ys) ∧ Has wr g 73 #[.string s, .int .i64 (c : Int)] ∧ Has wr (w.heap.size + 1) 37 #[.string ⟨#[]⟩, .int .i64 0] ∧ MapAt wr mb ls ∧ Below w.heap.size w wr ∧ g + 1 ≤ wr.heap.size) (fun _ _ _ si _ => n - (intOf si).toNat)
  case atStart => exact ⟨0, at0, [], by omega, rfl, hidden rfl, hidden (.nil _), hownA, hG5, hS5, hM5, hB4, by omega⟩
  case round =>
    obtain ⟨k, c, ys, hk, rfl, HL, HRD, hown, hG, hS, hM, hbl, hgs⟩ := hrel
    by_cases hlt : k < n
    · have hcle := HMEM.out ys c HRD.out
      have K5 := hidden (K4.out _ c mb g hcle hM hG (by omega))
      have HGX := hidden hG
      clear hcle hG
      go_wp2_with fail
      refine K5.out.mono ?_
      rintro e w5 ⟨hO5, hcase⟩
      have hsz5 := hO5.size
      have hS6 := hO5.has hS (by omega)
      have hM6 := hM.only hO5 (by omega)
      have hbl6 : Below w.heap.size w w5 := only_then hO5 (by omega) hbl.size hbl
      have hown6 : w5.ownsRow (g + 1) 3 1 u11 k (natsL ys) := hown.kept hO5 (.inr fun e => by have := (hown.lt g e).1; omega)
      have hgs6 : g + 1 ≤ w5.heap.size := by omega
      clear hown hS hM hbl hO5 K5
      rcases hcase with ⟨q, i, hh, rfl, hG6⟩ | ⟨hno, rfl⟩
      · have HH := hidden hh
        clear hh
        go_wp2_with (at_builtin; refine wpList_append_own_at _ rfl _ _ 23 rfl (g + 1) 3 i0 (.int .i64 0) 1 8 Try.underlying23 hi hz0 hz1 hz2 rfl (by decide) _ _ _ rfl (hown6.alloc _) ⟨w5.heap.size, 0, none⟩ 1 1 [.int .i64 (i : Int)] rfl rfl ?ca2 ?ca3 ?ca4 ?ca5 ?ca6 ?_)
        case ca2 => exact cell_one _ _ _
        case ca3 => exact fun u hu => by simp at hu; subst hu; rfl
        case ca4 => unfold maxLen; omega
        case ca5 => omega
        case ca6 => simp; omega
        intro v6 w6 hown7 hgrow _ _
        have hne : ∀ x, x < g + 1 → some x ≠ u11.ownBlock := fun x hx e => by have := (hown6.lt x e.symm).1; omega
        have hbl7 : Below w.heap.size w w6 := (hbl6.alloc (by omega) _).grown hgrow (by simp; omega) (fun b hb => by have := (hown6.lt b hb).1; omega)
        have hG7 := (hG6.alloc (.cells #[.int .i64 (i : Int)] 3)).grown hgrow (hne g (by omega))
        have hS7 := (hS6.alloc (.cells #[.int .i64 (i : Int)] 3)).grown hgrow (hne _ (by omega))
        have hM7 : MapAt w6 mb ls := by
          obtain ⟨x, hx⟩ := hM6.alloc (.cells #[.int .i64 (i : Int)] 3)
          exact ⟨x, hx.kept hgrow (hne _ (by omega))⟩
        have hgs7 : g + 1 ≤ w6.heap.size := by have := hgrow.size; simp at this; omega
        have hown8 : w6.ownsRow (g + 1) 3 1 v6 (k + 1) (natsL (ys ++ [i])) := by rw [natsL_append]; exact hown7
        clear hne hbl6 hG6 hS6 hM6 hgrow hown7 hown6
        go_wp2
        go_roundw
        case rel => exact ⟨k + 1, c + q, ys ++ [i], by omega, by go_num, hidden (by rw [List.length_append, HL.out]; rfl), hidden (HRD.out.snoc HH.out), hown8, hG7, hS7, hM7, hbl7, hgs7⟩
        case measure => simp [intOf]; omega
      · have HP := hidden (HSTOP.out c ys HRD.out (by rw [HL.out]; exact hlt) hno)
        have e0 := hS6.cell 0
        have e1 := hS6.cell 1
        have f0 := hS6.free 0
        have f1 := hS6.free 1
        simp at e0 e1
        have hsb := hbl6.size
        clear hno hS6 hM6 hown6
        go_wp2
        refine bodyPost_ret (v := .tuple #[.slice none 0 0, .agg #[.string ⟨#[]⟩, .int .i64 0], .bool false]) (by simp [results, Try.results20, go_sem, e0, e1, f0, f1]) rfl ⟨.inr ⟨HP.out, rfl⟩, ?_⟩
        repeat (first | exact Below.refl _ _ | assumption | refine Below.alloc ?_ (by (try simp); (try omega)) _ | refine Below.setCell ?_ (by (try simp); (try omega)) _ | refine Below.drew ?_ | refine bel_then (by assumption) (by (try simp); (try omega)) ?_)
    · have e : k = n := by omega
      subst e
      have d0 := hG.cell 0
      have d1 := hG.cell 1
      have e0 := hS.cell 0
      have e1 := hS.cell 1
      have f0 := hS.free 0
      have f1 := hS.free 1
      simp at d0 d1 e0 e1
      have hsb := hbl.size
      have HOWN := hidden hown
      clear hG hS hM hown
      go_wp2
      go_region
      all_goals (try go_wp2)
      all_goals
        refine bodyPost_ret (v := .tuple #[u11, .agg #[.string s, .int .i64 (c : Int)], .bool true]) (by simp [results, Try.results20, go_sem, d0, d1, e0, e1, f0, f1]) rfl ⟨.inl ⟨ys, c, u11, HL.out, HRD.out, rfl, ?_⟩, ?_⟩
        · exact Joins.ownsRow_le (own_away (own_away HOWN.out (p := ⟨w.heap.size + 1, 0, none⟩) (by simp; omega) _) (p := ⟨w.heap.size + 1, 1, none⟩) (by simp; omega) _).drew (show w.heap.size ≤ g + 1 by omega)
        · repeat (first | exact Below.refl _ _ | assumption | refine Below.alloc ?_ (by (try simp); (try omega)) _ | refine Below.setCell ?_ (by (try simp); (try omega)) _ | refine Below.drew ?_ | refine bel_then (by assumption) (by (try simp); (try omega)) ?_)
end Go.Proofs.Ytdfbpmkdmpdobaa
