/- Chapter 1: is a reader valid (the model). -/
import Derived.Test.YtpdicijoohahaaaC1One
import Derived.Test.YtpdicijoohahaaaMem
namespace Go.Proofs.Ytpdicijoohahaaa
set_option linter.unusedVariables false
set_option linter.unusedSimpArgs false
open Go.RowKit

end Go.Proofs.Ytpdicijoohahaaa
