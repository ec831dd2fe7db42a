/- Merged: C1SRd0, C1IOk, C1. -/
import Derived.Test.YteaohgipndmciaaC1One
import Derived.Test.YteaohgipndmciaaMem
namespace Go.Proofs.Yteaohgipndmciaa
set_option linter.unusedVariables false
set_option linter.unusedSimpArgs false
open Go.RowKit

end Go.Proofs.Yteaohgipndmciaa
namespace Go.Proofs.Yteaohgipndmciaa
set_option linter.unusedVariables false
set_option linter.unusedSimpArgs false
open Go.RowKit

theorem okB_no {s : ByteArray} {n : Int} (h : ¬ (0 ≤ n ∧ n ≤ 400000 ∧ s.size = (n.toNat + 7) / 8)) : okB s n = false := by
  rw [Bool.eq_false_iff, Ne, okB_iff]; omega

end Go.Proofs.Yteaohgipndmciaa
namespace Go.Proofs.Yteaohgipndmciaa
set_option linter.unusedVariables false
set_option linter.unusedSimpArgs false
open Go.RowKit


end Go.Proofs.Yteaohgipndmciaa
