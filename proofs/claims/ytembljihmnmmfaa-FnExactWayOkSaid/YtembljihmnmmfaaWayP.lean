/- Chapter 13, plain: ways of a block. -/
import Derived.Test.YtembljihmnmmfaaRet
import Derived.Test.YtembljihmnmmfaaMem
namespace Go.Proofs.Ytembljihmnmmfaa
set_option linter.unusedVariables false
set_option linter.unusedSimpArgs false
open Go.RowKit

/-- Is it a way? -/
def wayOk (m : Int) (b : Bool) (t : Int) : Bool := (decide (m = 0) && (!b && decide (t = 0))) || ((decide (m = 1) || decide (m = 2)) && (decide (1 ≤ t) && decide (t ≤ 4))) || (decide (m = 3) && decide (t = 0))
theorem wayOk_range {m t : Int} {b : Bool} (h : wayOk m b t = true) : 0 ≤ m ∧ m ≤ 3 ∧ 0 ≤ t ∧ t ≤ 4 := by
  simp only [wayOk, Bool.or_eq_true, Bool.and_eq_true, decide_eq_true_eq] at h
  omega
end Go.Proofs.Ytembljihmnmmfaa
