/- Texts of one reach, one behind the other: C5B. What each is about stands in its theorems. -/
import Derived.Test.YtpngomjkapccdaaG4
import Derived.Deep.RegionHeld3
namespace Go.Proofs.Ytpngomjkapccdaa
set_option linter.unusedVariables false
set_option linter.unusedSimpArgs false
open Go.RowKit

theorem put5_le {ls : List Int} (h : lOk ls = true) : (put5 ls).length ≤ 20000 := by
  have hr := lOk_range h
  have := putN_le hr ls.length (Nat.le_refl _)
  have := hr.2.1
  unfold put5
  omega
end Go.Proofs.Ytpngomjkapccdaa
