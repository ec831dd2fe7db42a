/- The walk of the exact law of SymBits (what is asked: MeetsF). -/
import Derived.Test.YtdfbpmkdmpdobaaExA
import Derived.Test.YtdfbpmkdmpdobaaC4B
namespace Go.Proofs.Ytdfbpmkdmpdobaa
set_option linter.unusedVariables false
set_option linter.unusedSimpArgs false
open Go.RowKit Go.ChangeShapes Go.WideShapes Go.ChangeAt

/-- For all arguments in bounds the model and the program answer the same. -/
def MeetsSymBits : Prop := ∀ (z0 : List Int) (z1 : List Int), z0.length ≤ 1048576 → (∀ x ∈ z0, -9223372036854775808 ≤ x ∧ x ≤ 9223372036854775807) → z1.length ≤ 1048576 → (∀ x ∈ z1, -9223372036854775808 ≤ x ∧ x ≤ 9223372036854775807) → ∃ (r0 : Int), (∀ (W : World) (p0 : Addr) (c0 : Nat) (p1 : Addr) (c1 : Nat), Ints W W.heap.size (some p0) z0 → Ints W W.heap.size (some p1) z1 → Calls Try.prog 33 #[.slice (some p0) z0.length c0, .slice (some p1) z1.length c1] W fun e w' => e = .returned (.int .i64 r0) ∧ Below W.heap.size W w') ∧ (∀ (W : World) (p0 : Addr) (c0 : Nat) (p1 : Addr) (c1 : Nat), Ints W W.heap.size (some p0) z0 → Ints W W.heap.size (some p1) z1 → Calls Try.prog 19 #[.slice (some p0) z0.length c0, .slice (some p1) z1.length c1] W fun e w' => e = .returned (.int .i64 r0) ∧ Below W.heap.size W w')
set_option maxHeartbeats 4000000 in
set_option maxRecDepth 100000 in
theorem in_FnExactSymBits (w : World) (a0 : Option Addr) (len0 cap0 : Nat) (z0 : List Int) (HI0 : Hid (Ints w w.heap.size a0 z0)) (HL0 : Hid (z0.length = len0)) (hb0 : len0 ≤ 1048576) (a1 : Option Addr) (len1 cap1 : Nat) (z1 : List Int) (HI1 : Hid (Ints w w.heap.size a1 z1)) (HL1 : Hid (z1.length = len1)) (hb1 : len1 ≤ 1048576) (r0 : Int)
    (KS : Hid (∀ (W : World) (p0 : Addr) (c0 : Nat) (p1 : Addr) (c1 : Nat), Ints W W.heap.size (some p0) z0 → Ints W W.heap.size (some p1) z1 → Calls Try.prog 33 #[.slice (some p0) len0 c0, .slice (some p1) len1 c1] W fun e w' => e = .returned (.int .i64 r0) ∧ Below W.heap.size W w'))
    (KI : Hid (∀ (W : World) (p0 : Addr) (c0 : Nat) (p1 : Addr) (c1 : Nat), Ints W W.heap.size (some p0) z0 → Ints W W.heap.size (some p1) z1 → Calls Try.prog 19 #[.slice (some p0) len0 c0, .slice (some p1) len1 c1] W fun e w' => e = .returned (.int .i64 r0) ∧ Below W.heap.size W w')) :
    Calls Try.prog 9 #[.slice a0 len0 cap0, .slice a1 len1 cap1] w fun e w' => e = .returned (.bool true) ∧ Below w.heap.size w w' := by
  have hg0 : ¬ (1048576 : Int) < (len0 : Int) := by omega
  have hg1 : ¬ (1048576 : Int) < (len1 : Int) := by omega
  have hk0 : ¬ (1 : Int) + (len0 : Int) < 0 := by omega
  have hk1 : ¬ (1 : Int) + (len0 : Int) + (len1 : Int) < 0 := by omega
  go_enter Try.func9, Try.ntmps9
  go_wp2_with fail
  refine (toInt_e a0 cap0 z0 w w HL0.out HI0.out (Below.refl w.heap.size w) hb0).mono ?_
  rintro e W1 ⟨g1, rfl, o1, b1⟩
  have B1 : Below w.heap.size w W1 := bel_then b1 (Below.refl w.heap.size w).size (Below.refl w.heap.size w)
  have sB1 := b1.size
  have X1 := hidden o1
  have Q1 := own_ranged o1
  clear o1 b1
  go_wp2_with fail
  refine (toInt_e a1 cap1 z1 w W1 HL1.out HI1.out B1 hb1).mono ?_
  rintro e W2 ⟨g2, rfl, o2, b2⟩
  have B2 : Below w.heap.size w W2 := bel_then b2 B1.size B1
  have sB2 := b2.size
  have X1_2 := hidden (own_bel X1.out b2)
  clear X1
  have X2 := hidden o2
  have Q2 := own_ranged o2
  clear o2 b2
  go_wp2_with fail
  refine (KS.out W2 _ _ _ _ (own_ints X1_2.out HI0.out.2.1 hb0) (own_ints X2.out HI1.out.2.1 hb1)).mono ?_
  rintro e W3 ⟨rfl, b3⟩
  have B3 : Below w.heap.size w W3 := bel_then b3 B2.size B2
  have sB3 := b3.size
  have X1_3 := hidden (own_bel X1_2.out b3)
  clear X1_2
  have X2_3 := hidden (own_bel X2.out b3)
  clear X2
  clear b3
  clear X1_3
  clear X2_3
  go_wp2_with fail
  refine (toInt_e a0 cap0 z0 w W3 HL0.out HI0.out B3 hb0).mono ?_
  rintro e W4 ⟨g4, rfl, o4, b4⟩
  have B4 : Below w.heap.size w W4 := bel_then b4 B3.size B3
  have sB4 := b4.size
  have X4 := hidden o4
  have Q4 := own_ranged o4
  clear o4 b4
  go_wp2_with fail
  refine (toInt_e a1 cap1 z1 w W4 HL1.out HI1.out B4 hb1).mono ?_
  rintro e W5 ⟨g5, rfl, o5, b5⟩
  have B5 : Below w.heap.size w W5 := bel_then b5 B4.size B4
  have sB5 := b5.size
  have X4_5 := hidden (own_bel X4.out b5)
  clear X4
  have X5 := hidden o5
  have Q5 := own_ranged o5
  clear o5 b5
  go_wp2_with fail
  refine (KI.out W5 _ _ _ _ (own_ints X4_5.out HI0.out.2.1 hb0) (own_ints X5.out HI1.out.2.1 hb1)).mono ?_
  rintro e W6 ⟨rfl, b6⟩
  have B6 : Below w.heap.size w W6 := bel_then b6 B5.size B5
  have sB6 := b6.size
  have X4_6 := hidden (own_bel X4_5.out b6)
  clear X4_5
  have X5_6 := hidden (own_bel X5.out b6)
  clear X5
  clear b6
  go_wp2_with fail
  refine (toInt_e a0 cap0 z0 w W6 HL0.out HI0.out B6 hb0).mono ?_
  rintro e W7 ⟨g7, rfl, o7, b7⟩
  have B7 : Below w.heap.size w W7 := bel_then b7 B6.size B6
  have sB7 := b7.size
  have X4_7 := hidden (own_bel X4_6.out b7)
  clear X4_6
  have X5_7 := hidden (own_bel X5_6.out b7)
  clear X5_6
  have X7 := hidden o7
  have Q7 := own_ranged o7
  clear o7 b7
  go_wp2_with fail
  refine (eq_e _ _ _ _ z0 W7 HL0.out (own_ints X4_7.out HI0.out.2.1 hb0) (own_ints X7.out HI0.out.2.1 hb0)).mono ?_
  rintro e W8 ⟨rfl, b8⟩
  clear X7
  have B8 : Below w.heap.size w W8 := bel_then b8 B7.size B7
  have sB8 := b8.size
  have X4_8 := hidden (own_bel X4_7.out b8)
  clear X4_7
  have X5_8 := hidden (own_bel X5_7.out b8)
  clear X5_7
  clear b8
  go_wp2_with fail
  refine (toInt_e a1 cap1 z1 w W8 HL1.out HI1.out B8 hb1).mono ?_
  rintro e W9 ⟨g9, rfl, o9, b9⟩
  have B9 : Below w.heap.size w W9 := bel_then b9 B8.size B8
  have sB9 := b9.size
  have X4_9 := hidden (own_bel X4_8.out b9)
  clear X4_8
  have X5_9 := hidden (own_bel X5_8.out b9)
  clear X5_8
  have X9 := hidden o9
  have Q9 := own_ranged o9
  clear o9 b9
  go_wp2_with fail
  refine (eq_e _ _ _ _ z1 W9 HL1.out (own_ints X5_9.out HI1.out.2.1 hb1) (own_ints X9.out HI1.out.2.1 hb1)).mono ?_
  rintro e W10 ⟨rfl, b10⟩
  clear X9
  have B10 : Below w.heap.size w W10 := bel_then b10 B9.size B9
  have sB10 := b10.size
  have X4_10 := hidden (own_bel X4_9.out b10)
  clear X4_9
  have X5_10 := hidden (own_bel X5_9.out b10)
  clear X5_9
  clear b10
  go_wp2
  go_ret
  exact ⟨rfl, B10⟩
set_option maxRecDepth 100000 in
theorem walk_FnExactSymBits (hM : MeetsSymBits) (w : World) (a0 : Option Addr) (len0 cap0 : Nat) (z0 : List Int) (w0 : IsRow .i64 w a0 len0 cap0 z0) (a1 : Option Addr) (len1 cap1 : Nat) (z1 : List Int) (w1 : IsRow .i64 w a1 len1 cap1 z1) :
    Calls Try.prog 9 #[.slice a0 len0 cap0, .slice a1 len1 cap1] w fun e w' => e = .returned (.bool true) ∧ Below w.heap.size w w' := by
  have hl0 := isrow_lenE w0
  have hl1 := isrow_lenE w1
  by_cases hb0 : len0 ≤ 1048576
  rotate_left
  · have hx : (1048576 : Int) < (len0 : Int) := by omega
    clear hM
    go_enter Try.func9, Try.ntmps9
    go_wp2
    go_ret
    exact ⟨rfl, Below.refl _ _⟩
  by_cases hb1 : len1 ≤ 1048576
  rotate_left
  · have hx : (1048576 : Int) < (len1 : Int) := by omega
    have hx0 : ¬ (1048576 : Int) < (len0 : Int) := by omega
    clear hM
    go_enter Try.func9, Try.ntmps9
    go_wp2
    go_ret
    exact ⟨rfl, Below.refl _ _⟩
  obtain ⟨y0', hl0', hI0⟩ := Ints.ofRowE w0 hb0
  obtain ⟨y1', hl1', hI1⟩ := Ints.ofRowE w1 hb1
  obtain ⟨r0, hs, hi⟩ := hM y0' y1' (by rw [hl0']; exact hb0) hI0.2.1 (by rw [hl1']; exact hb1) hI1.2.1
  rw [hl0'] at hs hi
  rw [hl1'] at hs hi
  exact in_FnExactSymBits w a0 len0 cap0 y0' (hidden hI0) (hidden hl0') hb0 a1 len1 cap1 y1' (hidden hI1) (hidden hl1') hb1 r0  (hidden hs) (hidden hi)
end Go.Proofs.Ytdfbpmkdmpdobaa
