/- The walk of the exact law of GammaBits (what is asked: MeetsF). -/
import Derived.Test.YtpngomjkapccdaaExA
import Derived.Test.YtpngomjkapccdaaGam
namespace Go.Proofs.Ytpngomjkapccdaa
set_option linter.unusedVariables false
set_option linter.unusedSimpArgs false
open Go.RowKit Go.ChangeShapes Go.WideShapes Go.ChangeAt

/-- For all arguments in bounds the model and the program answer the same. -/
def MeetsGammaBits : Prop := ∀ (a0 : Int), -9223372036854775808 ≤ a0 → a0 ≤ 9223372036854775807 → ∃ (r0 : Int), (∀ (W : World), Calls Try.prog 16 #[.int .i64 a0] W fun e w' => e = .returned (.int .i64 r0) ∧ Below W.heap.size W w') ∧ (∀ (W : World), Calls Try.prog 17 #[.int .i64 a0] W fun e w' => e = .returned (.int .i64 r0) ∧ Below W.heap.size W w')
set_option maxHeartbeats 4000000 in
set_option maxRecDepth 100000 in
theorem in_FnExactGammaBits (w : World) (a0 : Int) (b0 : -9223372036854775808 ≤ a0) (d0 : a0 ≤ 9223372036854775807) (r0 : Int)
    (KS : Hid (∀ (W : World), Calls Try.prog 16 #[.int .i64 a0] W fun e w' => e = .returned (.int .i64 r0) ∧ Below W.heap.size W w'))
    (KI : Hid (∀ (W : World), Calls Try.prog 17 #[.int .i64 a0] W fun e w' => e = .returned (.int .i64 r0) ∧ Below W.heap.size W w')) :
    Calls Try.prog 5 #[.int .i64 a0] w fun e w' => e = .returned (.bool true) ∧ Below w.heap.size w w' := by
  go_enter Try.func5, Try.ntmps5
  go_wp2_with fail
  refine (KS.out w  ).mono ?_
  rintro e W1 ⟨rfl, b1⟩
  have B1 : Below w.heap.size w W1 := bel_then b1 (Below.refl w.heap.size w).size (Below.refl w.heap.size w)
  have sB1 := b1.size
  clear b1
  go_wp2_with fail
  refine (KI.out W1  ).mono ?_
  rintro e W2 ⟨rfl, b2⟩
  have B2 : Below w.heap.size w W2 := bel_then b2 B1.size B1
  have sB2 := b2.size
  clear b2
  go_wp2
  go_ret
  exact ⟨rfl, B2⟩
set_option maxRecDepth 100000 in
theorem walk_FnExactGammaBits (hM : MeetsGammaBits) (w : World) (a0 : Int) (b0 : -9223372036854775808 ≤ a0) (d0 : a0 ≤ 9223372036854775807) :
    Calls Try.prog 5 #[.int .i64 a0] w fun e w' => e = .returned (.bool true) ∧ Below w.heap.size w w' := by
  obtain ⟨r0, hs, hi⟩ := hM a0 b0 d0
  exact in_FnExactGammaBits w a0 b0 d0 r0  (hidden hs) (hidden hi)
end Go.Proofs.Ytpngomjkapccdaa
