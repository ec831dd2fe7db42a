/- The walk of the exact law of GammaBits (what is asked: MeetsF). -/
import Derived.Test.YtpngomjkapccdaaDoorExA
import Derived.Test.YtpngomjkapccdaaDoorGam
namespace Go.Proofs.YtpngomjkapccdaaDoor
set_option linter.unusedVariables false
set_option linter.unusedSimpArgs false
open Go.RowKit Go.ChangeShapes Go.WideShapes Go.ChangeAt

end Go.Proofs.YtpngomjkapccdaaDoor
