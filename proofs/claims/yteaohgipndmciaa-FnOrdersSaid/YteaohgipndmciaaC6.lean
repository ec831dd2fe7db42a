/- Chapter 6: numbers are written (the model). -/
import Derived.Test.YteaohgipndmciaaGam
import Derived.Test.YteaohgipndmciaaC1Close
import Derived.Test.YteaohgipndmciaaNats
namespace Go.Proofs.Yteaohgipndmciaa
set_option linter.unusedVariables false
set_option linter.unusedSimpArgs false
open Go.RowKit

/-- How many bits a number has; -1 where it is none. -/
def gamOk (n : Int) : Bool := decide (1 ≤ n ∧ n ≤ 1048575)
theorem gamOk_iff (n : Int) : gamOk n = true ↔ 1 ≤ n ∧ n ≤ 1048575 := by simp [gamOk]
def gamB (n : Int) : Int := if gamOk n = true then ((gamL n.toNat).length : Int) else -1
end Go.Proofs.Yteaohgipndmciaa
