/- Chapter 6: what was asked of the program's functions, answered: how numbers are read. -/
import Derived.Test.YtpngomjkapccdaaDoorC6A
import Derived.Test.YtpngomjkapccdaaDoorI6G
namespace Go.Proofs.YtpngomjkapccdaaDoor

theorem askGetGamma : AskGetGamma := fun s at0 w hS hs ha => implGetGamma_yes s at0 w hS hs ha
theorem askGetGammaNo : AskGetGammaNo := fun s at0 w hs b1 b2 h => implGetGamma_no s at0 w hs b1 b2 h
end Go.Proofs.YtpngomjkapccdaaDoor
