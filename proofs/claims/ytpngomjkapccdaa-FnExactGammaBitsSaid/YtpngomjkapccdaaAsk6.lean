/- Chapter 6: what was asked of the program's functions, answered: how numbers are written. -/
import Derived.Test.YtpngomjkapccdaaC6A
import Derived.Test.YtpngomjkapccdaaI6P
namespace Go.Proofs.Ytpngomjkapccdaa

theorem askPutGamma : AskPutGamma := fun n w h1 h2 => implPutGamma_yes n w h1 h2
theorem askPutGammaNo : AskPutGammaNo := fun n w _ _ h => implPutGamma_no n w h
theorem askGammaBits : AskGammaBits := fun n w _ _ => implGammaBits_any n w
end Go.Proofs.Ytpngomjkapccdaa
