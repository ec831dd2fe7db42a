/- Chapter 1: one bit (the model). -/
import Derived.Test.YtpngomjkapccdaaRet
import Derived.Test.YtpngomjkapccdaaMath
namespace Go.Proofs.Ytpngomjkapccdaa
set_option linter.unusedVariables false
set_option linter.unusedSimpArgs false
open Go.RowKit

end Go.Proofs.Ytpngomjkapccdaa
