/- The walk of the exact law of RanksOk (what is asked: MeetsF). -/
import Derived.Test.YteaohgipndmciaaExA
namespace Go.Proofs.Yteaohgipndmciaa
set_option linter.unusedVariables false
set_option linter.unusedSimpArgs false
open Go.RowKit Go.ChangeShapes Go.WideShapes Go.ChangeAt

/-- For all arguments in bounds the model and the program answer the same. -/
def MeetsRanksOk : Prop := ∀ (z0 : List Int) (a1 : Int), z0.length ≤ 1048576 → (∀ x ∈ z0, -9223372036854775808 ≤ x ∧ x ≤ 9223372036854775807) → -9223372036854775808 ≤ a1 → a1 ≤ 9223372036854775807 → ∃ (r0 : Bool), (∀ (W : World) (p0 : Addr) (c0 : Nat), Ints W W.heap.size (some p0) z0 → Calls Try.prog 33 #[.slice (some p0) z0.length c0, .int .i64 a1] W fun e w' => e = .returned (.bool r0) ∧ Below W.heap.size W w') ∧ (∀ (W : World) (p0 : Addr) (c0 : Nat), Ints W W.heap.size (some p0) z0 → Calls Try.prog 35 #[.slice (some p0) z0.length c0, .int .i64 a1] W fun e w' => e = .returned (.bool r0) ∧ Below W.heap.size W w')
set_option maxHeartbeats 4000000 in
set_option maxRecDepth 100000 in
theorem in_FnExactRanksOk (w : World) (a0 : Option Addr) (len0 cap0 : Nat) (z0 : List Int) (HI0 : Hid (Ints w w.heap.size a0 z0)) (HL0 : Hid (z0.length = len0)) (hb0 : len0 ≤ 1048576) (a1 : Int) (b1 : -9223372036854775808 ≤ a1) (d1 : a1 ≤ 9223372036854775807) (r0 : Bool)
    (KS : Hid (∀ (W : World) (p0 : Addr) (c0 : Nat), Ints W W.heap.size (some p0) z0 → Calls Try.prog 33 #[.slice (some p0) len0 c0, .int .i64 a1] W fun e w' => e = .returned (.bool r0) ∧ Below W.heap.size W w'))
    (KI : Hid (∀ (W : World) (p0 : Addr) (c0 : Nat), Ints W W.heap.size (some p0) z0 → Calls Try.prog 35 #[.slice (some p0) len0 c0, .int .i64 a1] W fun e w' => e = .returned (.bool r0) ∧ Below W.heap.size W w')) :
    Calls Try.prog 7 #[.slice a0 len0 cap0, .int .i64 a1] w fun e w' => e = .returned (.bool true) ∧ Below w.heap.size w w' := by
  have hg0 : ¬ (1048576 : Int) < (len0 : Int) := by omega
  have hk0 : ¬ (1 : Int) + (len0 : Int) < 0 := by omega
  go_enter Try.func7, Try.ntmps7
  go_wp2_with fail
  refine (toInt_e a0 cap0 z0 w w HL0.out HI0.out (Below.refl w.heap.size w) hb0).mono ?_
  rintro e W1 ⟨g1, rfl, o1, b1⟩
  have B1 : Below w.heap.size w W1 := bel_then b1 (Below.refl w.heap.size w).size (Below.refl w.heap.size w)
  have sB1 := b1.size
  have X1 := hidden o1
  have Q1 := own_ranged o1
  clear o1 b1
  go_wp2_with fail
  refine (KS.out W1 _ _ (own_ints X1.out HI0.out.2.1 hb0)).mono ?_
  rintro e W2 ⟨rfl, b2⟩
  have B2 : Below w.heap.size w W2 := bel_then b2 B1.size B1
  have sB2 := b2.size
  have X1_2 := hidden (own_bel X1.out b2)
  clear X1
  clear b2
  clear X1_2
  go_wp2_with fail
  refine (toInt_e a0 cap0 z0 w W2 HL0.out HI0.out B2 hb0).mono ?_
  rintro e W3 ⟨g3, rfl, o3, b3⟩
  have B3 : Below w.heap.size w W3 := bel_then b3 B2.size B2
  have sB3 := b3.size
  have X3 := hidden o3
  have Q3 := own_ranged o3
  clear o3 b3
  go_wp2_with fail
  refine (KI.out W3 _ _ (own_ints X3.out HI0.out.2.1 hb0)).mono ?_
  rintro e W4 ⟨rfl, b4⟩
  have B4 : Below w.heap.size w W4 := bel_then b4 B3.size B3
  have sB4 := b4.size
  have X3_4 := hidden (own_bel X3.out b4)
  clear X3
  clear b4
  go_wp2_with fail
  refine (toInt_e a0 cap0 z0 w W4 HL0.out HI0.out B4 hb0).mono ?_
  rintro e W5 ⟨g5, rfl, o5, b5⟩
  have B5 : Below w.heap.size w W5 := bel_then b5 B4.size B4
  have sB5 := b5.size
  have X3_5 := hidden (own_bel X3_4.out b5)
  clear X3_4
  have X5 := hidden o5
  have Q5 := own_ranged o5
  clear o5 b5
  go_wp2_with fail
  refine (eq_e _ _ _ _ z0 W5 HL0.out (own_ints X3_5.out HI0.out.2.1 hb0) (own_ints X5.out HI0.out.2.1 hb0)).mono ?_
  rintro e W6 ⟨rfl, b6⟩
  clear X5
  have B6 : Below w.heap.size w W6 := bel_then b6 B5.size B5
  have sB6 := b6.size
  have X3_6 := hidden (own_bel X3_5.out b6)
  clear X3_5
  clear b6
  go_wp2
  go_ret
  exact ⟨rfl, B6⟩
set_option maxRecDepth 100000 in
theorem walk_FnExactRanksOk (hM : MeetsRanksOk) (w : World) (a0 : Option Addr) (len0 cap0 : Nat) (z0 : List Int) (w0 : IsRow .i64 w a0 len0 cap0 z0) (a1 : Int) (b1 : -9223372036854775808 ≤ a1) (d1 : a1 ≤ 9223372036854775807) :
    Calls Try.prog 7 #[.slice a0 len0 cap0, .int .i64 a1] w fun e w' => e = .returned (.bool true) ∧ Below w.heap.size w w' := by
  have hl0 := isrow_lenE w0
  by_cases hb0 : len0 ≤ 1048576
  rotate_left
  · have hx : (1048576 : Int) < (len0 : Int) := by omega
    clear hM
    go_enter Try.func7, Try.ntmps7
    go_wp2
    go_ret
    first | exact ⟨rfl, Below.refl _ _⟩ | exact ⟨rfl, (Below.refl _ _).alloc (Nat.le_refl _) _⟩
  obtain ⟨y0', hl0', hI0⟩ := Ints.ofRowE w0 hb0
  obtain ⟨r0, hs, hi⟩ := hM y0' a1 (by rw [hl0']; exact hb0) hI0.2.1 b1 d1
  rw [hl0'] at hs hi
  exact in_FnExactRanksOk w a0 len0 cap0 y0' (hidden hI0) (hidden hl0') hb0 a1 b1 d1 r0  (hidden hs) (hidden hi)
end Go.Proofs.Yteaohgipndmciaa
