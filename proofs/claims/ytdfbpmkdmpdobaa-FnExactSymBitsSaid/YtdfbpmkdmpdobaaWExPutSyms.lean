/- The walk of the exact law of PutSyms (what is asked: MeetsF). -/
import Derived.Test.YtdfbpmkdmpdobaaExA
import Derived.Test.YtdfbpmkdmpdobaaC4B
namespace Go.Proofs.Ytdfbpmkdmpdobaa
set_option linter.unusedVariables false
set_option linter.unusedSimpArgs false
open Go.RowKit Go.ChangeShapes Go.WideShapes Go.ChangeAt

/-- For all arguments in bounds the model and the program answer the same. -/
def MeetsPutSyms : Prop := ∀ (z0 : List Int) (z1 : List Int), z0.length ≤ 1048576 → (∀ x ∈ z0, -9223372036854775808 ≤ x ∧ x ≤ 9223372036854775807) → z1.length ≤ 1048576 → (∀ x ∈ z1, -9223372036854775808 ≤ x ∧ x ≤ 9223372036854775807) → ∃ (t0 : ByteArray) (r0 : Int) (r1 : Bool), (∀ (W : World) (p0 : Addr) (c0 : Nat) (p1 : Addr) (c1 : Nat), Ints W W.heap.size (some p0) z0 → Ints W W.heap.size (some p1) z1 → Calls Try.prog 18 #[.slice (some p0) z0.length c0, .slice (some p1) z1.length c1] W fun e w' => e = .returned (.tuple #[.agg #[.string t0, .int .i64 r0], .bool r1]) ∧ Below W.heap.size W w') ∧ (∀ (W : World) (p0 : Addr) (c0 : Nat) (p1 : Addr) (c1 : Nat), Ints W W.heap.size (some p0) z0 → Ints W W.heap.size (some p1) z1 → Calls Try.prog 17 #[.slice (some p0) z0.length c0, .slice (some p1) z1.length c1] W fun e w' => e = .returned (.tuple #[.agg #[.string t0, .int .i64 r0], .bool r1]) ∧ Below W.heap.size W w')
set_option maxHeartbeats 4000000 in
set_option maxRecDepth 100000 in
theorem in_FnExactPutSyms (w : World) (a0 : Option Addr) (len0 cap0 : Nat) (z0 : List Int) (HI0 : Hid (Ints w w.heap.size a0 z0)) (HL0 : Hid (z0.length = len0)) (hb0 : len0 ≤ 1048576) (a1 : Option Addr) (len1 cap1 : Nat) (z1 : List Int) (HI1 : Hid (Ints w w.heap.size a1 z1)) (HL1 : Hid (z1.length = len1)) (hb1 : len1 ≤ 1048576) (t0 : ByteArray) (r0 : Int) (r1 : Bool)
    (KS : Hid (∀ (W : World) (p0 : Addr) (c0 : Nat) (p1 : Addr) (c1 : Nat), Ints W W.heap.size (some p0) z0 → Ints W W.heap.size (some p1) z1 → Calls Try.prog 18 #[.slice (some p0) len0 c0, .slice (some p1) len1 c1] W fun e w' => e = .returned (.tuple #[.agg #[.string t0, .int .i64 r0], .bool r1]) ∧ Below W.heap.size W w'))
    (KI : Hid (∀ (W : World) (p0 : Addr) (c0 : Nat) (p1 : Addr) (c1 : Nat), Ints W W.heap.size (some p0) z0 → Ints W W.heap.size (some p1) z1 → Calls Try.prog 17 #[.slice (some p0) len0 c0, .slice (some p1) len1 c1] W fun e w' => e = .returned (.tuple #[.agg #[.string t0, .int .i64 r0], .bool r1]) ∧ Below W.heap.size W w')) :
    Calls Try.prog 8 #[.slice a0 len0 cap0, .slice a1 len1 cap1] w fun e w' => e = .returned (.bool true) ∧ Below w.heap.size w w' := by
  have hg0 : ¬ (1048576 : Int) < (len0 : Int) := by omega
  have hg1 : ¬ (1048576 : Int) < (len1 : Int) := by omega
  have hk0 : ¬ (1 : Int) + (len0 : Int) < 0 := by omega
  have hk1 : ¬ (1 : Int) + (len0 : Int) + (len1 : Int) < 0 := by omega
  go_enter Try.func8, Try.ntmps8
  go_wp2_with fail
  refine (toInt_e a0 cap0 z0 w w HL0.out HI0.out (Below.refl w.heap.size w) hb0).mono ?_
  rintro e W1 ⟨g1, rfl, o1, b1⟩
  have B1 : Below w.heap.size w W1 := bel_then b1 (Below.refl w.heap.size w).size (Below.refl w.heap.size w)
  have sB1 := b1.size
  have X1 := hidden o1
  have Q1 := own_ranged o1
  clear o1 b1
  go_wp2_with fail
  refine (toInt_e a1 cap1 z1 w W1 HL1.out HI1.out B1 hb1).mono ?_
  rintro e W2 ⟨g2, rfl, o2, b2⟩
  have B2 : Below w.heap.size w W2 := bel_then b2 B1.size B1
  have sB2 := b2.size
  have X1_2 := hidden (own_bel X1.out b2)
  clear X1
  have X2 := hidden o2
  have Q2 := own_ranged o2
  clear o2 b2
  go_wp2_with fail
  refine (KS.out W2 _ _ _ _ (own_ints X1_2.out HI0.out.2.1 hb0) (own_ints X2.out HI1.out.2.1 hb1)).mono ?_
  rintro e W3 ⟨rfl, b3⟩
  have B3 : Below w.heap.size w W3 := bel_then b3 B2.size B2
  have sB3 := b3.size
  have X1_3 := hidden (own_bel X1_2.out b3)
  clear X1_2
  have X2_3 := hidden (own_bel X2.out b3)
  clear X2
  clear b3
  obtain ⟨N4, hN4⟩ : ∃ N, N = (W3.alloc (.cells #[.string t0, .int .i64 r0] 32)) := ⟨_, rfl⟩
  have hb4_ : Below W3.heap.size W3 N4 := by rw [hN4]; exact (Below.refl _ _).alloc (Nat.le_refl _) _
  have Hw0 : Hid (Has N4 W3.heap.size 32 #[.string t0, .int .i64 r0]) := hidden (by rw [hN4]; exact Has.fresh _ _ _)
  have lHw0 := Hw0.out.lt
  have B4 : Below w.heap.size w N4 := bel_then hb4_ B3.size B3
  have sB4 := hb4_.size
  have X1_4 := hidden (own_bel X1_3.out hb4_)
  clear X1_3
  have X2_4 := hidden (own_bel X2_3.out hb4_)
  clear X2_3
  clear hb4_
  clear X1_4
  clear X2_4
  go_wp2_with fail
  rw [← hN4]
  refine (toInt_e a0 cap0 z0 w N4 HL0.out HI0.out B4 hb0).mono ?_
  rintro e W5 ⟨g5, rfl, o5, b5⟩
  clear hN4
  have B5 : Below w.heap.size w W5 := bel_then b5 B4.size B4
  have sB5 := b5.size
  have Hw0_5 := hidden (Hw0.out.below b5 Hw0.out.lt)
  clear Hw0
  have X5 := hidden o5
  have Q5 := own_ranged o5
  clear o5 b5
  go_wp2_with fail
  refine (toInt_e a1 cap1 z1 w W5 HL1.out HI1.out B5 hb1).mono ?_
  rintro e W6 ⟨g6, rfl, o6, b6⟩
  have B6 : Below w.heap.size w W6 := bel_then b6 B5.size B5
  have sB6 := b6.size
  have Hw0_6 := hidden (Hw0_5.out.below b6 Hw0_5.out.lt)
  clear Hw0_5
  have X5_6 := hidden (own_bel X5.out b6)
  clear X5
  have X6 := hidden o6
  have Q6 := own_ranged o6
  clear o6 b6
  go_wp2_with fail
  refine (KI.out W6 _ _ _ _ (own_ints X5_6.out HI0.out.2.1 hb0) (own_ints X6.out HI1.out.2.1 hb1)).mono ?_
  rintro e W7 ⟨rfl, b7⟩
  have B7 : Below w.heap.size w W7 := bel_then b7 B6.size B6
  have sB7 := b7.size
  have Hw0_7 := hidden (Hw0_6.out.below b7 Hw0_6.out.lt)
  clear Hw0_6
  have X5_7 := hidden (own_bel X5_6.out b7)
  clear X5_6
  have X6_7 := hidden (own_bel X6.out b7)
  clear X6
  clear b7
  have q8_Hw0a := Hw0_7.out.cell 0
  have q8_Hw0b := Hw0_7.out.cell 1
  have q8_Hw0l := Hw0_7.out.lt
  simp at q8_Hw0a q8_Hw0b
  have q8_Hw0n : ¬ W3.heap.size = W7.heap.size := by omega
  obtain ⟨N8, hN8⟩ : ∃ N, N = (W7.alloc (.cells #[.string t0, .int .i64 r0] 32)) := ⟨_, rfl⟩
  have hb8_ : Below W7.heap.size W7 N8 := by rw [hN8]; exact (Below.refl _ _).alloc (Nat.le_refl _) _
  have Hg0 : Hid (Has N8 W7.heap.size 32 #[.string t0, .int .i64 r0]) := hidden (by rw [hN8]; exact Has.fresh _ _ _)
  have lHg0 := Hg0.out.lt
  have B8 : Below w.heap.size w N8 := bel_then hb8_ B7.size B7
  have sB8 := hb8_.size
  have Hw0_8 := hidden (Hw0_7.out.below hb8_ Hw0_7.out.lt)
  clear Hw0_7
  have X5_8 := hidden (own_bel X5_7.out hb8_)
  clear X5_7
  have X6_8 := hidden (own_bel X6_7.out hb8_)
  clear X6_7
  clear hb8_
  have e8_Hg0a := Hg0.out.cell 0
  have e8_Hg0b := Hg0.out.cell 1
  simp at e8_Hg0a e8_Hg0b
  have e8_Hw0a := Hw0_8.out.cell 0
  have e8_Hw0b := Hw0_8.out.cell 1
  simp at e8_Hw0a e8_Hw0b
  go_wp2_with fail
  rw [← hN8]
  refine (eqBits_e t0 r0 N8).mono ?_
  rintro e W9 ⟨rfl, b9⟩
  clear e8_Hg0a e8_Hg0b e8_Hw0a e8_Hw0b hN8 q8_Hw0a q8_Hw0b q8_Hw0l q8_Hw0n
  have B9 : Below w.heap.size w W9 := bel_then b9 B8.size B8
  have sB9 := b9.size
  have Hw0_9 := hidden (Hw0_8.out.below b9 Hw0_8.out.lt)
  clear Hw0_8
  have X5_9 := hidden (own_bel X5_8.out b9)
  clear X5_8
  have X6_9 := hidden (own_bel X6_8.out b9)
  clear X6_8
  have Hg0_9 := hidden (Hg0.out.below b9 Hg0.out.lt)
  clear Hg0
  clear b9
  go_wp2_with fail
  refine (toInt_e a0 cap0 z0 w W9 HL0.out HI0.out B9 hb0).mono ?_
  rintro e W10 ⟨g10, rfl, o10, b10⟩
  have B10 : Below w.heap.size w W10 := bel_then b10 B9.size B9
  have sB10 := b10.size
  have Hw0_10 := hidden (Hw0_9.out.below b10 Hw0_9.out.lt)
  clear Hw0_9
  have X5_10 := hidden (own_bel X5_9.out b10)
  clear X5_9
  have X6_10 := hidden (own_bel X6_9.out b10)
  clear X6_9
  have Hg0_10 := hidden (Hg0_9.out.below b10 Hg0_9.out.lt)
  clear Hg0_9
  have X10 := hidden o10
  have Q10 := own_ranged o10
  clear o10 b10
  go_wp2_with fail
  refine (eq_e _ _ _ _ z0 W10 HL0.out (own_ints X5_10.out HI0.out.2.1 hb0) (own_ints X10.out HI0.out.2.1 hb0)).mono ?_
  rintro e W11 ⟨rfl, b11⟩
  clear X10
  have B11 : Below w.heap.size w W11 := bel_then b11 B10.size B10
  have sB11 := b11.size
  have Hw0_11 := hidden (Hw0_10.out.below b11 Hw0_10.out.lt)
  clear Hw0_10
  have X5_11 := hidden (own_bel X5_10.out b11)
  clear X5_10
  have X6_11 := hidden (own_bel X6_10.out b11)
  clear X6_10
  have Hg0_11 := hidden (Hg0_10.out.below b11 Hg0_10.out.lt)
  clear Hg0_10
  clear b11
  go_wp2_with fail
  refine (toInt_e a1 cap1 z1 w W11 HL1.out HI1.out B11 hb1).mono ?_
  rintro e W12 ⟨g12, rfl, o12, b12⟩
  have B12 : Below w.heap.size w W12 := bel_then b12 B11.size B11
  have sB12 := b12.size
  have Hw0_12 := hidden (Hw0_11.out.below b12 Hw0_11.out.lt)
  clear Hw0_11
  have X5_12 := hidden (own_bel X5_11.out b12)
  clear X5_11
  have X6_12 := hidden (own_bel X6_11.out b12)
  clear X6_11
  have Hg0_12 := hidden (Hg0_11.out.below b12 Hg0_11.out.lt)
  clear Hg0_11
  have X12 := hidden o12
  have Q12 := own_ranged o12
  clear o12 b12
  go_wp2_with fail
  refine (eq_e _ _ _ _ z1 W12 HL1.out (own_ints X6_12.out HI1.out.2.1 hb1) (own_ints X12.out HI1.out.2.1 hb1)).mono ?_
  rintro e W13 ⟨rfl, b13⟩
  clear X12
  have B13 : Below w.heap.size w W13 := bel_then b13 B12.size B12
  have sB13 := b13.size
  have Hw0_13 := hidden (Hw0_12.out.below b13 Hw0_12.out.lt)
  clear Hw0_12
  have X5_13 := hidden (own_bel X5_12.out b13)
  clear X5_12
  have X6_13 := hidden (own_bel X6_12.out b13)
  clear X6_12
  have Hg0_13 := hidden (Hg0_12.out.below b13 Hg0_12.out.lt)
  clear Hg0_12
  clear b13
  go_wp2
  go_ret
  exact ⟨rfl, B13⟩
set_option maxRecDepth 100000 in
theorem walk_FnExactPutSyms (hM : MeetsPutSyms) (w : World) (a0 : Option Addr) (len0 cap0 : Nat) (z0 : List Int) (w0 : IsRow .i64 w a0 len0 cap0 z0) (a1 : Option Addr) (len1 cap1 : Nat) (z1 : List Int) (w1 : IsRow .i64 w a1 len1 cap1 z1) :
    Calls Try.prog 8 #[.slice a0 len0 cap0, .slice a1 len1 cap1] w fun e w' => e = .returned (.bool true) ∧ Below w.heap.size w w' := by
  have hl0 := isrow_lenE w0
  have hl1 := isrow_lenE w1
  by_cases hb0 : len0 ≤ 1048576
  rotate_left
  · have hx : (1048576 : Int) < (len0 : Int) := by omega
    clear hM
    go_enter Try.func8, Try.ntmps8
    go_wp2
    go_ret
    exact ⟨rfl, Below.refl _ _⟩
  by_cases hb1 : len1 ≤ 1048576
  rotate_left
  · have hx : (1048576 : Int) < (len1 : Int) := by omega
    have hx0 : ¬ (1048576 : Int) < (len0 : Int) := by omega
    clear hM
    go_enter Try.func8, Try.ntmps8
    go_wp2
    go_ret
    exact ⟨rfl, Below.refl _ _⟩
  obtain ⟨y0', hl0', hI0⟩ := Ints.ofRowE w0 hb0
  obtain ⟨y1', hl1', hI1⟩ := Ints.ofRowE w1 hb1
  obtain ⟨t0, r0, r1, hs, hi⟩ := hM y0' y1' (by rw [hl0']; exact hb0) hI0.2.1 (by rw [hl1']; exact hb1) hI1.2.1
  rw [hl0'] at hs hi
  rw [hl1'] at hs hi
  exact in_FnExactPutSyms w a0 len0 cap0 y0' (hidden hI0) (hidden hl0') hb0 a1 len1 cap1 y1' (hidden hI1) (hidden hl1') hb1 t0 r0 r1  (hidden hs) (hidden hi)
end Go.Proofs.Ytdfbpmkdmpdobaa
