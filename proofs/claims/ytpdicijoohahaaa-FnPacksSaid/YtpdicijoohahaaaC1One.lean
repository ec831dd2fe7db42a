/- Chapter 1: one bit (the model). -/
import Derived.Test.YtpdicijoohahaaaRet
import Derived.Test.YtpdicijoohahaaaMath
namespace Go.Proofs.Ytpdicijoohahaaa
set_option linter.unusedVariables false
set_option linter.unusedSimpArgs false
open Go.RowKit

end Go.Proofs.Ytpdicijoohahaaa
