/- Texts of one reach, one behind the other: Ask6. What each is about stands in its theorems. -/
import Derived.Test.YtpngomjkapccdaaG8
import Derived.Test.YtpngomjkapccdaaG15
namespace Go.Proofs.Ytpngomjkapccdaa

theorem askPutGamma : AskPutGamma := fun n w h1 h2 => implPutGamma_yes n w h1 h2
theorem askPutGammaNo : AskPutGammaNo := fun n w _ _ h => implPutGamma_no n w h
theorem askGammaBits : AskGammaBits := fun n w _ _ => implGammaBits_any n w
end Go.Proofs.Ytpngomjkapccdaa
