/- Chapter 5: the program's answers, in the form that the laws ask for. -/
import Derived.Test.YtdeikdlbgjpooaaC5A
import Derived.Test.YtdeikdlbgjpooaaI5C
import Derived.Test.YtdeikdlbgjpooaaI5P
import Derived.Test.YtdeikdlbgjpooaaI5G
import Derived.Test.YtdeikdlbgjpooaaI5N
namespace Go.Proofs.Ytdeikdlbgjpooaa
set_option linter.unusedVariables false
set_option linter.unusedSimpArgs false
open Go.RowKit

theorem askPutLens : AskPutLens := fun a cap B ls w hz hB hok => implPutLens_yes a cap B ls w hz hB hok
theorem askPutLensNo : AskPutLensNo := fun a cap B ls w hz hB hok => implPutLens_no a cap B ls w hz hB hok
theorem askLensCost : AskLensCost := fun a cap B ls w hz hB => implLensCost_any a cap B ls w hz
theorem askGetLens : AskGetLens := fun s at0 n w hs ha h1 h2 => implGetLens_any s at0 n w hs ha h1 h2
theorem askGetLensNo : AskGetLensNo := fun s at0 n w hs b1 b2 _ _ h => implGetLens_no s at0 n w hs b1 b2 h
end Go.Proofs.Ytdeikdlbgjpooaa
