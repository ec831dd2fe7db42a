/- What is known of the program's sentinel: its variable holds a pointer behind the library's own error type; a call that turns nothing below keeps it so. -/
import Derived.Test.YtpngomjkapccdaaBase
namespace Go.Proofs.Ytpngomjkapccdaa
set_option linter.unusedVariables false
open Go.RowKit

end Go.Proofs.Ytpngomjkapccdaa
