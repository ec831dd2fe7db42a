/- Chapter 7: the model and the program answer the same: Used, ByCount. -/
import Derived.Test.YtabhbijohjemiaaWExUsed
import Derived.Test.YtabhbijohjemiaaWExByCount
import Derived.Test.YtabhbijohjemiaaC7
import Derived.Test.YtabhbijohjemiaaI7V
namespace Go.Proofs.Ytabhbijohjemiaa
set_option linter.unusedVariables false
set_option linter.unusedSimpArgs false
open Go.RowKit

theorem meetsUsed : MeetsUsed := fun s0 hs => ⟨_, fun W => specUsed_any s0 W hs, fun W => implUsed_any s0 W hs⟩
theorem meetsByCount : MeetsByCount := fun s0 hs => by
  refine ⟨strOf (srt (ltC fun b => (bytesOf s0).count b) (usedL (bytesOf s0))), fun W => ?_, fun W => ?_⟩
  · refine (specByCount_any s0 W hs).mono ?_
    rintro e w' ⟨R, hR, rfl, hb⟩
    rw [ranked_unique hR (srt_ranked (byt_bytesOf s0))]
    exact ⟨rfl, hb⟩
  · refine (implByCount_any s0 W hs).mono ?_
    rintro e w' ⟨R, hR, rfl, hb⟩
    rw [ranked_unique hR (srt_ranked (byt_bytesOf s0))]
    exact ⟨rfl, hb⟩
end Go.Proofs.Ytabhbijohjemiaa
