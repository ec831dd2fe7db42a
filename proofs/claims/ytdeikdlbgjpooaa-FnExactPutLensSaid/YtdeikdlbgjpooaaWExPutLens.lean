/- The walk of the exact law of PutLens (what is asked: MeetsF). -/
import Derived.Test.YtdeikdlbgjpooaaExA
import Derived.Test.YtdeikdlbgjpooaaC5P
namespace Go.Proofs.Ytdeikdlbgjpooaa
set_option linter.unusedVariables false
set_option linter.unusedSimpArgs false
open Go.RowKit Go.ChangeShapes Go.WideShapes Go.ChangeAt

/-- For all arguments in bounds the model and the program answer the same. -/
def MeetsPutLens : Prop := ∀ (z0 : List Int), z0.length ≤ 1048576 → (∀ x ∈ z0, -9223372036854775808 ≤ x ∧ x ≤ 9223372036854775807) → ∃ (t0 : ByteArray) (r0 : Int) (r1 : Bool), (∀ (W : World) (p0 : Addr) (c0 : Nat), Ints W W.heap.size (some p0) z0 → Calls Try.prog 6 #[.slice (some p0) z0.length c0] W fun e w' => e = .returned (.tuple #[.agg #[.string t0, .int .i64 r0], .bool r1]) ∧ Below W.heap.size W w') ∧ (∀ (W : World) (p0 : Addr) (c0 : Nat), Ints W W.heap.size (some p0) z0 → Calls Try.prog 8 #[.slice (some p0) z0.length c0] W fun e w' => e = .returned (.tuple #[.agg #[.string t0, .int .i64 r0], .bool r1]) ∧ Below W.heap.size W w')
set_option maxHeartbeats 4000000 in
set_option maxRecDepth 100000 in
theorem in_FnExactPutLens (w : World) (a0 : Option Addr) (len0 cap0 : Nat) (z0 : List Int) (HI0 : Hid (Ints w w.heap.size a0 z0)) (HL0 : Hid (z0.length = len0)) (hb0 : len0 ≤ 1048576) (t0 : ByteArray) (r0 : Int) (r1 : Bool)
    (KS : Hid (∀ (W : World) (p0 : Addr) (c0 : Nat), Ints W W.heap.size (some p0) z0 → Calls Try.prog 6 #[.slice (some p0) len0 c0] W fun e w' => e = .returned (.tuple #[.agg #[.string t0, .int .i64 r0], .bool r1]) ∧ Below W.heap.size W w'))
    (KI : Hid (∀ (W : World) (p0 : Addr) (c0 : Nat), Ints W W.heap.size (some p0) z0 → Calls Try.prog 8 #[.slice (some p0) len0 c0] W fun e w' => e = .returned (.tuple #[.agg #[.string t0, .int .i64 r0], .bool r1]) ∧ Below W.heap.size W w')) :
    Calls Try.prog 3 #[.slice a0 len0 cap0] w fun e w' => e = .returned (.bool true) ∧ Below w.heap.size w w' := by
  have hg0 : ¬ (1048576 : Int) < (len0 : Int) := by omega
  have hk0 : ¬ (1 : Int) + (len0 : Int) < 0 := by omega
  go_enter Try.func3, Try.ntmps3
  go_wp2_with fail
  refine (toInt_e a0 cap0 z0 w w HL0.out HI0.out (Below.refl w.heap.size w) hb0).mono ?_
  rintro e W1 ⟨g1, rfl, o1, b1⟩
  have B1 : Below w.heap.size w W1 := bel_then b1 (Below.refl w.heap.size w).size (Below.refl w.heap.size w)
  have sB1 := b1.size
  have X1 := hidden o1
  have Q1 := own_ranged o1
  clear o1 b1
  go_wp2_with fail
  refine (KS.out W1 _ _ (own_ints X1.out HI0.out.2.1 hb0)).mono ?_
  rintro e W2 ⟨rfl, b2⟩
  have B2 : Below w.heap.size w W2 := bel_then b2 B1.size B1
  have sB2 := b2.size
  have X1_2 := hidden (own_bel X1.out b2)
  clear X1
  clear b2
  obtain ⟨N3, hN3⟩ : ∃ N, N = (W2.alloc (.cells #[.string t0, .int .i64 r0] 24)) := ⟨_, rfl⟩
  have hb3_ : Below W2.heap.size W2 N3 := by rw [hN3]; exact (Below.refl _ _).alloc (Nat.le_refl _) _
  have Hw0 : Hid (Has N3 W2.heap.size 24 #[.string t0, .int .i64 r0]) := hidden (by rw [hN3]; exact Has.fresh _ _ _)
  have lHw0 := Hw0.out.lt
  have B3 : Below w.heap.size w N3 := bel_then hb3_ B2.size B2
  have sB3 := hb3_.size
  have X1_3 := hidden (own_bel X1_2.out hb3_)
  clear X1_2
  clear hb3_
  clear X1_3
  go_wp2_with fail
  rw [← hN3]
  refine (toInt_e a0 cap0 z0 w N3 HL0.out HI0.out B3 hb0).mono ?_
  rintro e W4 ⟨g4, rfl, o4, b4⟩
  clear hN3
  have B4 : Below w.heap.size w W4 := bel_then b4 B3.size B3
  have sB4 := b4.size
  have Hw0_4 := hidden (Hw0.out.below b4 Hw0.out.lt)
  clear Hw0
  have X4 := hidden o4
  have Q4 := own_ranged o4
  clear o4 b4
  go_wp2_with fail
  refine (KI.out W4 _ _ (own_ints X4.out HI0.out.2.1 hb0)).mono ?_
  rintro e W5 ⟨rfl, b5⟩
  have B5 : Below w.heap.size w W5 := bel_then b5 B4.size B4
  have sB5 := b5.size
  have Hw0_5 := hidden (Hw0_4.out.below b5 Hw0_4.out.lt)
  clear Hw0_4
  have X4_5 := hidden (own_bel X4.out b5)
  clear X4
  clear b5
  have q6_Hw0a := Hw0_5.out.cell 0
  have q6_Hw0b := Hw0_5.out.cell 1
  have q6_Hw0l := Hw0_5.out.lt
  simp at q6_Hw0a q6_Hw0b
  have q6_Hw0n : ¬ W2.heap.size = W5.heap.size := by omega
  obtain ⟨N6, hN6⟩ : ∃ N, N = (W5.alloc (.cells #[.string t0, .int .i64 r0] 24)) := ⟨_, rfl⟩
  have hb6_ : Below W5.heap.size W5 N6 := by rw [hN6]; exact (Below.refl _ _).alloc (Nat.le_refl _) _
  have Hg0 : Hid (Has N6 W5.heap.size 24 #[.string t0, .int .i64 r0]) := hidden (by rw [hN6]; exact Has.fresh _ _ _)
  have lHg0 := Hg0.out.lt
  have B6 : Below w.heap.size w N6 := bel_then hb6_ B5.size B5
  have sB6 := hb6_.size
  have Hw0_6 := hidden (Hw0_5.out.below hb6_ Hw0_5.out.lt)
  clear Hw0_5
  have X4_6 := hidden (own_bel X4_5.out hb6_)
  clear X4_5
  clear hb6_
  have e6_Hg0a := Hg0.out.cell 0
  have e6_Hg0b := Hg0.out.cell 1
  simp at e6_Hg0a e6_Hg0b
  have e6_Hw0a := Hw0_6.out.cell 0
  have e6_Hw0b := Hw0_6.out.cell 1
  simp at e6_Hw0a e6_Hw0b
  go_wp2_with fail
  rw [← hN6]
  refine (eqBits_e t0 r0 N6).mono ?_
  rintro e W7 ⟨rfl, b7⟩
  clear e6_Hg0a e6_Hg0b e6_Hw0a e6_Hw0b hN6 q6_Hw0a q6_Hw0b q6_Hw0l q6_Hw0n
  have B7 : Below w.heap.size w W7 := bel_then b7 B6.size B6
  have sB7 := b7.size
  have Hw0_7 := hidden (Hw0_6.out.below b7 Hw0_6.out.lt)
  clear Hw0_6
  have X4_7 := hidden (own_bel X4_6.out b7)
  clear X4_6
  have Hg0_7 := hidden (Hg0.out.below b7 Hg0.out.lt)
  clear Hg0
  clear b7
  go_wp2_with fail
  refine (toInt_e a0 cap0 z0 w W7 HL0.out HI0.out B7 hb0).mono ?_
  rintro e W8 ⟨g8, rfl, o8, b8⟩
  have B8 : Below w.heap.size w W8 := bel_then b8 B7.size B7
  have sB8 := b8.size
  have Hw0_8 := hidden (Hw0_7.out.below b8 Hw0_7.out.lt)
  clear Hw0_7
  have X4_8 := hidden (own_bel X4_7.out b8)
  clear X4_7
  have Hg0_8 := hidden (Hg0_7.out.below b8 Hg0_7.out.lt)
  clear Hg0_7
  have X8 := hidden o8
  have Q8 := own_ranged o8
  clear o8 b8
  go_wp2_with fail
  refine (eq_e _ _ _ _ z0 W8 HL0.out (own_ints X4_8.out HI0.out.2.1 hb0) (own_ints X8.out HI0.out.2.1 hb0)).mono ?_
  rintro e W9 ⟨rfl, b9⟩
  clear X8
  have B9 : Below w.heap.size w W9 := bel_then b9 B8.size B8
  have sB9 := b9.size
  have Hw0_9 := hidden (Hw0_8.out.below b9 Hw0_8.out.lt)
  clear Hw0_8
  have X4_9 := hidden (own_bel X4_8.out b9)
  clear X4_8
  have Hg0_9 := hidden (Hg0_8.out.below b9 Hg0_8.out.lt)
  clear Hg0_8
  clear b9
  go_wp2
  go_ret
  exact ⟨rfl, B9⟩
set_option maxRecDepth 100000 in
theorem walk_FnExactPutLens (hM : MeetsPutLens) (w : World) (a0 : Option Addr) (len0 cap0 : Nat) (z0 : List Int) (w0 : IsRow .i64 w a0 len0 cap0 z0) :
    Calls Try.prog 3 #[.slice a0 len0 cap0] w fun e w' => e = .returned (.bool true) ∧ Below w.heap.size w w' := by
  have hl0 := isrow_lenE w0
  by_cases hb0 : len0 ≤ 1048576
  rotate_left
  · have hx : (1048576 : Int) < (len0 : Int) := by omega
    clear hM
    go_enter Try.func3, Try.ntmps3
    go_wp2
    go_ret
    first | exact ⟨rfl, Below.refl _ _⟩ | exact ⟨rfl, (Below.refl _ _).alloc (Nat.le_refl _) _⟩
  obtain ⟨y0', hl0', hI0⟩ := Ints.ofRowE w0 hb0
  obtain ⟨t0, r0, r1, hs, hi⟩ := hM y0' (by rw [hl0']; exact hb0) hI0.2.1
  rw [hl0'] at hs hi
  exact in_FnExactPutLens w a0 len0 cap0 y0' (hidden hI0) (hidden hl0') hb0 t0 r0 r1  (hidden hs) (hidden hi)
end Go.Proofs.Ytdeikdlbgjpooaa
