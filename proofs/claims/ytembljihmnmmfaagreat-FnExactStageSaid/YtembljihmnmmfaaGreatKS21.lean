/- Texts of the proof, merged. -/
import Derived.RangeFuncNested
import Derived.RangeFuncBound
import Derived.RangeFuncCalls
import Derived.RangeFuncLeaves
import Derived.RangeFuncBox
import Derived.RangeFuncWrites
import Derived.Shelf.Abstract
import Derived.Shelf.RegionOpen
import Derived.WalkKit
import Derived.OwnWalkIn
import Derived.TacticsInMore
import Derived.LoopNIn
import Derived.LoopIn
import Derived.Lib.MinMax
import Derived.Maps.AppendAt
import Derived.RegionTactic
import Derived.ChangeAlike
import Derived.Deep.QuietTactic
import Derived.BigQuiet
import Derived.OwnWalk
import Derived.Deep.RegionHeld3
import Derived.Test.YtembljihmnmmfaaGreatKS13
import Derived.Test.YtembljihmnmmfaaGreatKS5
namespace Go.Proofs.YtembljihmnmmfaaGreat
section
set_option linter.unusedVariables false
set_option linter.unusedSimpArgs false
open Go.RowKit Go.Shelf
attribute [local go_sem] Oper.semAt_some

theorem wide_fn12 (f : FuncId) : Fence.wide.fn f := trivial
attribute [local go_sem, local simp] wide_fn12
/-- Group k of the row of len cells at ⟨b, off⟩, a slice of this row. -/
def chV (b off len k : Nat) : Value := .slice (some ⟨b, off + 10 * k, none⟩) (min 10 (len - 10 * k)) (min 10 (len - 10 * k))
end
section
set_option linter.unusedVariables false
set_option linter.unusedSimpArgs false
open Go.RowKit

end
end Go.Proofs.YtembljihmnmmfaaGreat
