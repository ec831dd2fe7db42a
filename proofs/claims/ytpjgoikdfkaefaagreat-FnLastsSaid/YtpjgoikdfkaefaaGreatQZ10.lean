/- Merged: C1Up. -/
import Derived.Test.YtpjgoikdfkaefaaGreatQZ3
import Derived.RegionTactic
import Derived.ChangeAlike
import Derived.Deep.QuietTactic
import Derived.BigQuiet
import Derived.Deep.RegionWith
namespace Go.Proofs.YtpjgoikdfkaefaaGreat
set_option linter.unusedVariables false
set_option linter.unusedSimpArgs false
open Go.RowKit

/-- How many bits are to skip. -/
def upN (a : Nat) : Nat := (8 - a % 8) % 8
theorem upN_lt (a : Nat) : upN a ≤ 7 := by unfold upN; omega
theorem upN_div (a : Nat) : (a + upN a) % 8 = 0 := by unfold upN; omega
end Go.Proofs.YtpjgoikdfkaefaaGreat
