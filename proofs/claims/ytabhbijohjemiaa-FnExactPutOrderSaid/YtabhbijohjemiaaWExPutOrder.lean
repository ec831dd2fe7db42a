/- The walk of the exact law of PutOrder (what is asked: MeetsF). -/
import Derived.Test.YtabhbijohjemiaaExA
namespace Go.Proofs.Ytabhbijohjemiaa
set_option linter.unusedVariables false
set_option linter.unusedSimpArgs false
open Go.RowKit Go.ChangeShapes Go.WideShapes Go.ChangeAt

/-- For all arguments in bounds the model and the program answer the same. -/
def MeetsPutOrder : Prop := ∀ (s0 : ByteArray), s0.size ≤ 1048576 → ∃ (t0 : ByteArray) (r0 : Int) (r1 : Bool), (∀ (W : World), Calls Try.prog 39 #[.string s0] W fun e w' => e = .returned (.tuple #[.agg #[.string t0, .int .i64 r0], .bool r1]) ∧ Below W.heap.size W w') ∧ (∀ (W : World), Calls Try.prog 22 #[.string s0] W fun e w' => e = .returned (.tuple #[.agg #[.string t0, .int .i64 r0], .bool r1]) ∧ Below W.heap.size W w')
set_option maxHeartbeats 4000000 in
set_option maxRecDepth 100000 in
theorem in_FnExactPutOrder (w : World) (s0 : ByteArray) (hb0 : s0.size ≤ 1048576) (t0 : ByteArray) (r0 : Int) (r1 : Bool)
    (KS : Hid (∀ (W : World), Calls Try.prog 39 #[.string s0] W fun e w' => e = .returned (.tuple #[.agg #[.string t0, .int .i64 r0], .bool r1]) ∧ Below W.heap.size W w'))
    (KI : Hid (∀ (W : World), Calls Try.prog 22 #[.string s0] W fun e w' => e = .returned (.tuple #[.agg #[.string t0, .int .i64 r0], .bool r1]) ∧ Below W.heap.size W w')) :
    Calls Try.prog 11 #[.string s0] w fun e w' => e = .returned (.bool true) ∧ Below w.heap.size w w' := by
  have hg0 : ¬ (1048576 : Int) < (s0.size : Int) := by omega
  go_enter Try.func11, Try.ntmps11
  go_wp2_with fail
  refine (KS.out w  ).mono ?_
  rintro e W1 ⟨rfl, b1⟩
  have B1 : Below w.heap.size w W1 := bel_then b1 (Below.refl w.heap.size w).size (Below.refl w.heap.size w)
  have sB1 := b1.size
  clear b1
  obtain ⟨N2, hN2⟩ : ∃ N, N = (W1.alloc (.cells #[.string t0, .int .i64 r0] 25)) := ⟨_, rfl⟩
  have hb2_ : Below W1.heap.size W1 N2 := by rw [hN2]; exact (Below.refl _ _).alloc (Nat.le_refl _) _
  have Hw0 : Hid (Has N2 W1.heap.size 25 #[.string t0, .int .i64 r0]) := hidden (by rw [hN2]; exact Has.fresh _ _ _)
  have lHw0 := Hw0.out.lt
  have B2 : Below w.heap.size w N2 := bel_then hb2_ B1.size B1
  have sB2 := hb2_.size
  clear hb2_
  go_wp2_with fail
  rw [← hN2]
  refine (KI.out N2  ).mono ?_
  rintro e W3 ⟨rfl, b3⟩
  clear hN2
  have B3 : Below w.heap.size w W3 := bel_then b3 B2.size B2
  have sB3 := b3.size
  have Hw0_3 := hidden (Hw0.out.below b3 Hw0.out.lt)
  clear Hw0
  clear b3
  have q4_Hw0a := Hw0_3.out.cell 0
  have q4_Hw0b := Hw0_3.out.cell 1
  have q4_Hw0l := Hw0_3.out.lt
  simp at q4_Hw0a q4_Hw0b
  have q4_Hw0n : ¬ W1.heap.size = W3.heap.size := by omega
  obtain ⟨N4, hN4⟩ : ∃ N, N = (W3.alloc (.cells #[.string t0, .int .i64 r0] 25)) := ⟨_, rfl⟩
  have hb4_ : Below W3.heap.size W3 N4 := by rw [hN4]; exact (Below.refl _ _).alloc (Nat.le_refl _) _
  have Hg0 : Hid (Has N4 W3.heap.size 25 #[.string t0, .int .i64 r0]) := hidden (by rw [hN4]; exact Has.fresh _ _ _)
  have lHg0 := Hg0.out.lt
  have B4 : Below w.heap.size w N4 := bel_then hb4_ B3.size B3
  have sB4 := hb4_.size
  have Hw0_4 := hidden (Hw0_3.out.below hb4_ Hw0_3.out.lt)
  clear Hw0_3
  clear hb4_
  have e4_Hg0a := Hg0.out.cell 0
  have e4_Hg0b := Hg0.out.cell 1
  simp at e4_Hg0a e4_Hg0b
  have e4_Hw0a := Hw0_4.out.cell 0
  have e4_Hw0b := Hw0_4.out.cell 1
  simp at e4_Hw0a e4_Hw0b
  go_wp2_with fail
  rw [← hN4]
  refine (eqBits_e t0 r0 N4).mono ?_
  rintro e W5 ⟨rfl, b5⟩
  clear e4_Hg0a e4_Hg0b e4_Hw0a e4_Hw0b hN4 q4_Hw0a q4_Hw0b q4_Hw0l q4_Hw0n
  have B5 : Below w.heap.size w W5 := bel_then b5 B4.size B4
  have sB5 := b5.size
  have Hw0_5 := hidden (Hw0_4.out.below b5 Hw0_4.out.lt)
  clear Hw0_4
  have Hg0_5 := hidden (Hg0.out.below b5 Hg0.out.lt)
  clear Hg0
  clear b5
  go_wp2
  go_ret
  exact ⟨rfl, B5⟩
set_option maxRecDepth 100000 in
theorem walk_FnExactPutOrder (hM : MeetsPutOrder) (w : World) (s0 : ByteArray) (w0 : s0.size ≤ maxLen) :
    Calls Try.prog 11 #[.string s0] w fun e w' => e = .returned (.bool true) ∧ Below w.heap.size w w' := by
  by_cases hb0 : s0.size ≤ 1048576
  rotate_left
  · have hx : (1048576 : Int) < (s0.size : Int) := by omega
    unfold maxLen at *
    clear hM
    go_enter Try.func11, Try.ntmps11
    go_wp2
    go_ret
    first | exact ⟨rfl, Below.refl _ _⟩ | exact ⟨rfl, (Below.refl _ _).alloc (Nat.le_refl _) _⟩
  obtain ⟨t0, r0, r1, hs, hi⟩ := hM s0 hb0
  exact in_FnExactPutOrder w s0 hb0 t0 r0 r1  (hidden hs) (hidden hi)
end Go.Proofs.Ytabhbijohjemiaa
