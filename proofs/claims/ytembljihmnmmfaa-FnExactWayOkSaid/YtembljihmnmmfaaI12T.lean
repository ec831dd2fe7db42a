/- Chapter 12, the program: may there be so many tables? -/
import Derived.Test.YtembljihmnmmfaaRet
import Derived.Test.YtembljihmnmmfaaMem
namespace Go.Proofs.Ytembljihmnmmfaa
set_option linter.unusedVariables false
set_option linter.unusedSimpArgs false
open Go.RowKit

set_option maxHeartbeats 1000000 in
theorem tableCountOk_any (k : Int) (w : World) :
    Calls Try.prog 7 #[.int .i64 k] w fun e w' => e = .returned (.bool (decide (1 ≤ k ∧ k ≤ 4))) ∧ w = w' := by
  by_cases h1 : 1 ≤ k
  · by_cases h4 : k ≤ 4
    · rw [show decide (1 ≤ k ∧ k ≤ 4) = true by simp [h1, h4]]
      go_enter Try.func7, Try.ntmps7
      go_wp2
      go_ret
      exact ⟨rfl, rfl⟩
    · rw [show decide (1 ≤ k ∧ k ≤ 4) = false by simp [h1, h4]]
      go_enter Try.func7, Try.ntmps7
      go_wp2
      go_ret
      exact ⟨rfl, rfl⟩
  · rw [show decide (1 ≤ k ∧ k ≤ 4) = false by simp [h1]]
    go_enter Try.func7, Try.ntmps7
    go_wp2
    go_ret
    exact ⟨rfl, rfl⟩
end Go.Proofs.Ytembljihmnmmfaa
