/- Chapter 7: the model and the program answer the same: OrderOk. -/
import Derived.Test.YtabhbijohjemiaaWExOrderOk
import Derived.Test.YtabhbijohjemiaaI7C
namespace Go.Proofs.Ytabhbijohjemiaa
set_option linter.unusedVariables false
set_option linter.unusedSimpArgs false
open Go.RowKit

theorem meetsOrderOk : MeetsOrderOk := fun s0 hs => ⟨_, fun W => specOrderOk_any s0 W hs, fun W => implOrderOk_any s0 W hs⟩
end Go.Proofs.Ytabhbijohjemiaa
