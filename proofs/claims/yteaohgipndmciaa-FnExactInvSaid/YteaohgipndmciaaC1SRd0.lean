/- Chapter 1: is a reader valid (the model). -/
import Derived.Test.YteaohgipndmciaaC1One
import Derived.Test.YteaohgipndmciaaMem
namespace Go.Proofs.Yteaohgipndmciaa
set_option linter.unusedVariables false
set_option linter.unusedSimpArgs false
open Go.RowKit

end Go.Proofs.Yteaohgipndmciaa
