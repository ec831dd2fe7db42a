/- Texts of the proof, merged. -/
import Derived.Deep.RegionHeld3
import Derived.Deep.LoopGhost
import Derived.RegionTactic
import Derived.ChangeAlike
import Derived.Deep.QuietTactic
import Derived.BigQuiet
import Derived.Maps.AppendAt
import Derived.OwnWalk
import Derived.Deep.DrawnRows
import Derived.BigRegion
import Derived.Deep.DeepCutAuto
import Derived.Deep.RegionWith
import Derived.Test.YtembljihmnmmfaaGreatKS5
import Derived.Test.YtembljihmnmmfaaGreatKS12
import Derived.Test.YtembljihmnmmfaaGreatKS4
import Derived.Test.YtembljihmnmmfaaGreatKS1
namespace Go.Proofs.YtembljihmnmmfaaGreat
set_option linter.unusedVariables false
set_option linter.unusedSimpArgs false
open Go.RowKit

theorem Writes.drewN {w : World} {base g : Nat} {l : List Nat} (h : Writes w base g l) (n : Nat) : Writes (w.drewN n) base g l := h
end Go.Proofs.YtembljihmnmmfaaGreat
