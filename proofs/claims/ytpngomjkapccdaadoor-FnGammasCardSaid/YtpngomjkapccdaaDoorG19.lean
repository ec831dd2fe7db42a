/- Texts of one reach, one behind the other: Ask6G. What each is about stands in its theorems. -/
import Derived.Test.YtpngomjkapccdaaDoorG9
import Derived.Test.YtpngomjkapccdaaDoorG18
namespace Go.Proofs.YtpngomjkapccdaaDoor

theorem askGetGamma : AskGetGamma := fun s at0 w hS hs ha => implGetGamma_yes s at0 w hS hs ha
theorem askGetGammaNo : AskGetGammaNo := fun s at0 w hs b1 b2 h => implGetGamma_no s at0 w hs b1 b2 h
end Go.Proofs.YtpngomjkapccdaaDoor
