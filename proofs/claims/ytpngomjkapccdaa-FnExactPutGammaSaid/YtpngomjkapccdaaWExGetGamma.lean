/- The walk of the exact law of GetGamma (what is asked: MeetsF). -/
import Derived.Test.YtpngomjkapccdaaExA
import Derived.Test.YtpngomjkapccdaaGam
import Derived.Test.YtpngomjkapccdaaSent
namespace Go.Proofs.Ytpngomjkapccdaa
set_option linter.unusedVariables false
set_option linter.unusedSimpArgs false
open Go.RowKit Go.ChangeShapes Go.WideShapes Go.ChangeAt

end Go.Proofs.Ytpngomjkapccdaa
