/- Merged: C1WPut. -/
import Derived.Test.YtpjgoikdfkaefaaGreatQZ10
import Derived.Test.YtpjgoikdfkaefaaGreatQZ12
import Derived.BigRegion
import Derived.Deep.DeepCutAuto
namespace Go.Proofs.YtpjgoikdfkaefaaGreat
set_option linter.unusedVariables false
set_option linter.unusedSimpArgs false
open Go.RowKit

end Go.Proofs.YtpjgoikdfkaefaaGreat
