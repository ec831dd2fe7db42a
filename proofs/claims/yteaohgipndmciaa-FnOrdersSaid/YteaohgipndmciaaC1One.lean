/- Chapter 1: one bit (the model). -/
import Derived.Test.YteaohgipndmciaaRet
import Derived.Test.YteaohgipndmciaaMath
namespace Go.Proofs.Yteaohgipndmciaa
set_option linter.unusedVariables false
set_option linter.unusedSimpArgs false
open Go.RowKit

end Go.Proofs.Yteaohgipndmciaa
