/- Chapter 13: WayOk: the model and the program answer the same. -/
import Derived.Test.YtembljihmnmmfaaWExWayOk
import Derived.Test.YtembljihmnmmfaaC13W
import Derived.Test.YtembljihmnmmfaaI13A
namespace Go.Proofs.Ytembljihmnmmfaa
set_option linter.unusedVariables false
set_option linter.unusedSimpArgs false
open Go.RowKit

theorem meetsWayOk : MeetsWayOk := fun m b t _ _ _ _ => ⟨wayOk m b t, fun W => specWayOk_any m t b W, fun W => implWayOk_any m t b W⟩
end Go.Proofs.Ytembljihmnmmfaa
