/- The walk of the exact law of GetOrder (what is asked: MeetsF). -/
import Derived.Test.YtabhbijohjemiaaExA
namespace Go.Proofs.Ytabhbijohjemiaa
set_option linter.unusedVariables false
set_option linter.unusedSimpArgs false
open Go.RowKit Go.ChangeShapes Go.WideShapes Go.ChangeAt

/-- For all arguments in bounds the model and the program answer the same. -/
def MeetsGetOrder : Prop := ∀ (s0 : ByteArray) (a0 : Int) (s1 : ByteArray), s0.size ≤ 1048576 → -9223372036854775808 ≤ a0 → a0 ≤ 9223372036854775807 → s1.size ≤ 1048576 → ∃ (r0 : ByteArray) (t1 : ByteArray) (r1 : Int) (r2 : Bool), (∀ (W : World), Calls Try.prog 40 #[.agg #[.string s0, .int .i64 a0], .string s1] W fun e w' => e = .returned (.tuple #[.string r0, .agg #[.string t1, .int .i64 r1], .bool r2]) ∧ Below W.heap.size W w') ∧ (∀ (W : World), Calls Try.prog 28 #[.agg #[.string s0, .int .i64 a0], .string s1] W fun e w' => e = .returned (.tuple #[.string r0, .agg #[.string t1, .int .i64 r1], .bool r2]) ∧ Below W.heap.size W w')
set_option maxHeartbeats 4000000 in
set_option maxRecDepth 100000 in
theorem in_FnExactGetOrder (w : World) (s0 : ByteArray) (a0 : Int) (hb0 : s0.size ≤ 1048576) (b0 : -9223372036854775808 ≤ a0) (d0 : a0 ≤ 9223372036854775807) (s1 : ByteArray) (hb1 : s1.size ≤ 1048576) (r0 : ByteArray) (t1 : ByteArray) (r1 : Int) (r2 : Bool)
    (KS : Hid (∀ (W : World), Calls Try.prog 40 #[.agg #[.string s0, .int .i64 a0], .string s1] W fun e w' => e = .returned (.tuple #[.string r0, .agg #[.string t1, .int .i64 r1], .bool r2]) ∧ Below W.heap.size W w'))
    (KI : Hid (∀ (W : World), Calls Try.prog 28 #[.agg #[.string s0, .int .i64 a0], .string s1] W fun e w' => e = .returned (.tuple #[.string r0, .agg #[.string t1, .int .i64 r1], .bool r2]) ∧ Below W.heap.size W w')) :
    Calls Try.prog 12 #[.agg #[.string s0, .int .i64 a0], .string s1] w fun e w' => e = .returned (.bool true) ∧ Below w.heap.size w w' := by
  have hg1 : ¬ (1048576 : Int) < (s1.size : Int) := by omega
  go_enter Try.func12, Try.ntmps12
  obtain ⟨N1, hN1⟩ : ∃ N, N = (w.alloc (.cells #[.string s0, .int .i64 a0] 45)) := ⟨_, rfl⟩
  have hb1_ : Below w.heap.size w N1 := by rw [hN1]; exact (Below.refl _ _).alloc (Nat.le_refl _) _
  have HA : Hid (Has N1 w.heap.size 45 #[.string s0, .int .i64 a0]) := hidden (by rw [hN1]; exact Has.fresh _ _ _)
  have lHA := HA.out.lt
  go_wp2_with fail
  rw [← hN1]
  refine (szRd_ok s0 a0 1048576 N1 hb0 (Nat.le_refl _)).mono ?_
  rintro e W2 ⟨rfl, b2⟩
  clear hN1
  have B2 : Below w.heap.size w W2 := bel_then b2 hb1_.size hb1_
  have sB2 := b2.size
  have HA_2 := hidden (HA.out.below b2 HA.out.lt)
  clear HA
  clear b2
  have e2_HAa := HA_2.out.cell 0
  have e2_HAb := HA_2.out.cell 1
  simp at e2_HAa e2_HAb
  go_wp2_with fail
  refine (toRd_e s0 a0 W2).mono ?_
  rintro e W3 ⟨rfl, b3⟩
  clear e2_HAa e2_HAb
  have B3 : Below w.heap.size w W3 := bel_then b3 B2.size B2
  have sB3 := b3.size
  have HA_3 := hidden (HA_2.out.below b3 HA_2.out.lt)
  clear HA_2
  clear b3
  go_wp2_with fail
  refine (KS.out W3  ).mono ?_
  rintro e W4 ⟨rfl, b4⟩
  have B4 : Below w.heap.size w W4 := bel_then b4 B3.size B3
  have sB4 := b4.size
  have HA_4 := hidden (HA_3.out.below b4 HA_3.out.lt)
  clear HA_3
  clear b4
  have q5_HAa := HA_4.out.cell 0
  have q5_HAb := HA_4.out.cell 1
  have q5_HAl := HA_4.out.lt
  simp at q5_HAa q5_HAb
  have q5_HAn : ¬ w.heap.size = W4.heap.size := by omega
  obtain ⟨N5, hN5⟩ : ∃ N, N = (W4.alloc (.cells #[.string t1, .int .i64 r1] 30)) := ⟨_, rfl⟩
  have hb5_ : Below W4.heap.size W4 N5 := by rw [hN5]; exact (Below.refl _ _).alloc (Nat.le_refl _) _
  have Hw1 : Hid (Has N5 W4.heap.size 30 #[.string t1, .int .i64 r1]) := hidden (by rw [hN5]; exact Has.fresh _ _ _)
  have lHw1 := Hw1.out.lt
  have B5 : Below w.heap.size w N5 := bel_then hb5_ B4.size B4
  have sB5 := hb5_.size
  have HA_5 := hidden (HA_4.out.below hb5_ HA_4.out.lt)
  clear HA_4
  clear hb5_
  have e5_HAa := HA_5.out.cell 0
  have e5_HAb := HA_5.out.cell 1
  simp at e5_HAa e5_HAb
  go_wp2_with fail
  rw [← hN5]
  refine (toRd_e s0 a0 N5).mono ?_
  rintro e W6 ⟨rfl, b6⟩
  clear e5_HAa e5_HAb hN5 q5_HAa q5_HAb q5_HAl q5_HAn
  have B6 : Below w.heap.size w W6 := bel_then b6 B5.size B5
  have sB6 := b6.size
  have HA_6 := hidden (HA_5.out.below b6 HA_5.out.lt)
  clear HA_5
  have Hw1_6 := hidden (Hw1.out.below b6 Hw1.out.lt)
  clear Hw1
  clear b6
  go_wp2_with fail
  refine (KI.out W6  ).mono ?_
  rintro e W7 ⟨rfl, b7⟩
  have B7 : Below w.heap.size w W7 := bel_then b7 B6.size B6
  have sB7 := b7.size
  have HA_7 := hidden (HA_6.out.below b7 HA_6.out.lt)
  clear HA_6
  have Hw1_7 := hidden (Hw1_6.out.below b7 Hw1_6.out.lt)
  clear Hw1_6
  clear b7
  have q8_HAa := HA_7.out.cell 0
  have q8_HAb := HA_7.out.cell 1
  have q8_HAl := HA_7.out.lt
  simp at q8_HAa q8_HAb
  have q8_HAn : ¬ w.heap.size = W7.heap.size := by omega
  have q8_Hw1a := Hw1_7.out.cell 0
  have q8_Hw1b := Hw1_7.out.cell 1
  have q8_Hw1l := Hw1_7.out.lt
  simp at q8_Hw1a q8_Hw1b
  have q8_Hw1n : ¬ W4.heap.size = W7.heap.size := by omega
  obtain ⟨N8, hN8⟩ : ∃ N, N = (W7.alloc (.cells #[.string t1, .int .i64 r1] 30)) := ⟨_, rfl⟩
  have hb8_ : Below W7.heap.size W7 N8 := by rw [hN8]; exact (Below.refl _ _).alloc (Nat.le_refl _) _
  have Hg1 : Hid (Has N8 W7.heap.size 30 #[.string t1, .int .i64 r1]) := hidden (by rw [hN8]; exact Has.fresh _ _ _)
  have lHg1 := Hg1.out.lt
  have B8 : Below w.heap.size w N8 := bel_then hb8_ B7.size B7
  have sB8 := hb8_.size
  have HA_8 := hidden (HA_7.out.below hb8_ HA_7.out.lt)
  clear HA_7
  have Hw1_8 := hidden (Hw1_7.out.below hb8_ Hw1_7.out.lt)
  clear Hw1_7
  clear hb8_
  have e8_Hg1a := Hg1.out.cell 0
  have e8_Hg1b := Hg1.out.cell 1
  simp at e8_Hg1a e8_Hg1b
  have e8_Hw1a := Hw1_8.out.cell 0
  have e8_Hw1b := Hw1_8.out.cell 1
  simp at e8_Hw1a e8_Hw1b
  go_wp2_with fail
  rw [← hN8]
  refine (eqRd_e t1 r1 N8).mono ?_
  rintro e W9 ⟨rfl, b9⟩
  clear e8_Hg1a e8_Hg1b e8_Hw1a e8_Hw1b hN8 q8_HAa q8_HAb q8_HAl q8_HAn q8_Hw1a q8_Hw1b q8_Hw1l q8_Hw1n
  have B9 : Below w.heap.size w W9 := bel_then b9 B8.size B8
  have sB9 := b9.size
  have HA_9 := hidden (HA_8.out.below b9 HA_8.out.lt)
  clear HA_8
  have Hw1_9 := hidden (Hw1_8.out.below b9 Hw1_8.out.lt)
  clear Hw1_8
  have Hg1_9 := hidden (Hg1.out.below b9 Hg1.out.lt)
  clear Hg1
  clear b9
  go_wp2
  go_ret
  exact ⟨rfl, B9⟩
set_option maxRecDepth 100000 in
theorem walk_FnExactGetOrder (hM : MeetsGetOrder) (w : World) (s0 : ByteArray) (a0 : Int) (w0 : s0.size ≤ maxLen) (b0 : -9223372036854775808 ≤ a0) (d0 : a0 ≤ 9223372036854775807) (s1 : ByteArray) (w1 : s1.size ≤ maxLen) :
    Calls Try.prog 12 #[.agg #[.string s0, .int .i64 a0], .string s1] w fun e w' => e = .returned (.bool true) ∧ Below w.heap.size w w' := by
  by_cases hb1 : s1.size ≤ 1048576
  rotate_left
  · have hx : (1048576 : Int) < (s1.size : Int) := by omega
    unfold maxLen at *
    clear hM
    go_enter Try.func12, Try.ntmps12
    go_wp2
    go_ret
    first | exact ⟨rfl, Below.refl _ _⟩ | exact ⟨rfl, (Below.refl _ _).alloc (Nat.le_refl _) _⟩
  by_cases hb0 : s0.size ≤ 1048576
  rotate_left
  · have hx : 1048576 < s0.size := by omega
    have hx1 : ¬ (1048576 : Int) < (s1.size : Int) := by omega
    have c0 := (Has.fresh w 45 #[.string s0, .int .i64 a0]).cell 0
    have c1 := (Has.fresh w 45 #[.string s0, .int .i64 a0]).cell 1
    simp at c0 c1
    clear hM
    go_enter Try.func12, Try.ntmps12
    go_wp2_with fail
    refine (szRd_no s0 a0 1048576 _ hx w0 (Nat.le_refl _)).mono ?_
    rintro e w1 ⟨rfl, b1⟩
    go_wp2
    go_ret
    exact ⟨rfl, bel_then b1 (by simp) ((Below.refl _ _).alloc (Nat.le_refl _) _)⟩
  obtain ⟨r0, t1, r1, r2, hs, hi⟩ := hM s0 a0 s1 hb0 b0 d0 hb1
  exact in_FnExactGetOrder w s0 a0 hb0 b0 d0 s1 hb1 r0 t1 r1 r2  (hidden hs) (hidden hi)
end Go.Proofs.Ytabhbijohjemiaa
