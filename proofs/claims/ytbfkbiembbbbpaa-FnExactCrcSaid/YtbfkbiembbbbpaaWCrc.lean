/- Chapter 2: the walks of the laws that hold each function against its model. -/
import Derived.Test.YtbfkbiembbbbpaaC2From
namespace Go.Proofs.Ytbfkbiembbbbpaa
set_option linter.unusedVariables false
set_option linter.unusedSimpArgs false
open Go.RowKit

set_option maxHeartbeats 1000000 in
theorem walk_FnExactCrcEntry (w : World) (b : Int) (b1 : -9223372036854775808 ≤ b) (b2 : b ≤ 9223372036854775807) :
    Calls Try.prog 9 #[.int .i64 b] w fun e w' => e = .returned (.bool true) ∧ Below w.heap.size w w' := by
  go_enter Try.func9, Try.ntmps9
  go_wp2_with (go_at_call 37; refine (specCrcEntry_any b _ b1 b2).mono ?_; rintro e w' ⟨rfl, rfl⟩)
  go_wp2_with (go_at_call 29; refine (implCrcEntry_any b _ b1 b2).mono ?_; rintro e w' ⟨rfl, rfl⟩)
  go_ret
  exact ⟨rfl, Below.refl _ _⟩
set_option maxHeartbeats 1000000 in
theorem walk_FnExactCrcStep (w : World) (m : Int) (m1 : -9223372036854775808 ≤ m) (m2 : m ≤ 9223372036854775807) (b : Int) (b1 : -9223372036854775808 ≤ b) (b2 : b ≤ 9223372036854775807) :
    Calls Try.prog 10 #[.int .i64 m, .int .i64 b] w fun e w' => e = .returned (.bool true) ∧ Below w.heap.size w w' := by
  go_enter Try.func10, Try.ntmps10
  go_wp2_with (go_at_call 30; refine (specCrcStep_any m b _ m1 m2 b1 b2).mono ?_; rintro e w' ⟨rfl, rfl⟩)
  go_wp2_with (go_at_call 28; refine (implCrcStep_any m b _ m1 m2 b1 b2).mono ?_; rintro e w' ⟨rfl, rfl⟩)
  go_ret
  exact ⟨rfl, Below.refl _ _⟩
set_option maxHeartbeats 1000000 in
theorem walk_FnExactCrcFrom (w : World) (m : Int) (m1 : -9223372036854775808 ≤ m) (m2 : m ≤ 9223372036854775807) (s : ByteArray) (hs : s.size ≤ maxLen) :
    Calls Try.prog 11 #[.int .i64 m, .string s] w fun e w' => e = .returned (.bool true) ∧ Below w.heap.size w w' := by
  have hs' := hs
  unfold maxLen at hs'
  by_cases hlong : 1048576 < s.size
  · go_enter Try.func11, Try.ntmps11
    go_wp2
    go_ret
    exact ⟨rfl, Below.refl _ _⟩
  · go_enter Try.func11, Try.ntmps11
    go_wp2_with (go_at_call 25; refine (specCrcFrom_any m s _ m1 m2 hs).mono ?_; rintro e w' ⟨rfl, rfl⟩)
    go_wp2_with (go_at_call 24; refine (implCrcFrom_any m s _ m1 m2 hs).mono ?_; rintro e w1 ⟨rfl, B⟩)
    go_ret
    exact ⟨rfl, B⟩
set_option maxHeartbeats 1000000 in
theorem walk_FnExactCrc (w : World) (s : ByteArray) (hs : s.size ≤ maxLen) :
    Calls Try.prog 12 #[.string s] w fun e w' => e = .returned (.bool true) ∧ Below w.heap.size w w' := by
  have hs' := hs
  unfold maxLen at hs'
  by_cases hlong : 1048576 < s.size
  · go_enter Try.func12, Try.ntmps12
    go_wp2
    go_ret
    exact ⟨rfl, Below.refl _ _⟩
  · go_enter Try.func12, Try.ntmps12
    go_wp2_with (go_at_call 33; refine (specCrc_any s _ hs).mono ?_; rintro e w' ⟨rfl, rfl⟩)
    go_wp2_with (go_at_call 32; refine (implCrc_any s _ hs).mono ?_; rintro e w1 ⟨rfl, B⟩)
    go_ret
    exact ⟨rfl, B⟩
end Go.Proofs.Ytbfkbiembbbbpaa
