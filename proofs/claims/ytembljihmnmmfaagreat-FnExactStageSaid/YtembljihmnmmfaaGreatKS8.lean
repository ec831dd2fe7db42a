/- Texts of the proof, merged. -/
import Derived.Deep.WholeRow
import Derived.Laws.CopyOwn
import Derived.Laws.ResultCell
import Derived.Test.YtembljihmnmmfaaGreatKS4
namespace Go.Proofs.YtembljihmnmmfaaGreat
set_option linter.unusedVariables false
set_option linter.unusedSimpArgs false
open Go.RowKit

theorem Has.setRow {w : World} {g : Nat} {t : TypeId} {cs : Array Value} (h : Has w g t cs) (new : Array Value) : Has (w.setRow g new) g t new := setRow_heap w g cs new t (0, 0) h

end Go.Proofs.YtembljihmnmmfaaGreat
