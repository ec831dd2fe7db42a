/- Chapter 1: is a reader valid (the model). -/
import Derived.Test.YtpngomjkapccdaaC1One
import Derived.Test.YtpngomjkapccdaaMem
namespace Go.Proofs.Ytpngomjkapccdaa
set_option linter.unusedVariables false
set_option linter.unusedSimpArgs false
open Go.RowKit

end Go.Proofs.Ytpngomjkapccdaa
