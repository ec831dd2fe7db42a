/- Merged: C1Open, C1SPut. -/
import Derived.Test.YteaohgipndmciaaO3
import Derived.Test.YteaohgipndmciaaO1
import Derived.Test.YteaohgipndmciaaStr
import Derived.Test.YteaohgipndmciaaC1Ok
import Derived.Test.YteaohgipndmciaaC1Close
import Derived.Maps.AppendAt
namespace Go.Proofs.Yteaohgipndmciaa
set_option linter.unusedVariables false
set_option linter.unusedSimpArgs false
open Go.RowKit

end Go.Proofs.Yteaohgipndmciaa
namespace Go.Proofs.Yteaohgipndmciaa
set_option linter.unusedVariables false
set_option linter.unusedSimpArgs false
open Go.RowKit

end Go.Proofs.Yteaohgipndmciaa
