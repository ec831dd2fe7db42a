/- Chapter 7: the model and the program answer the same: PutOrder. -/
import Derived.Test.YtabhbijohjemiaaWExPutOrder
import Derived.Test.YtabhbijohjemiaaI7O
namespace Go.Proofs.Ytabhbijohjemiaa
set_option linter.unusedVariables false
set_option linter.unusedSimpArgs false
open Go.RowKit

theorem meetsPutOrder : MeetsPutOrder := fun s0 hs => by
  by_cases hok : ordOk (bytesOf s0) = true
  · by_cases hex : ∃ D, Packs D (putO (usedL (bytesOf s0)) (bytesOf s0))
    · obtain ⟨D, hD⟩ := hex
      refine ⟨strOf D, ((putO (usedL (bytesOf s0)) (bytesOf s0)).length : Int), true, ?_, ?_⟩
      · intro W
        refine (specPutOrder_yes s0 W hs hok).mono ?_
        rintro e w' ⟨D2, hD2, he, hb⟩
        rw [hD2.unique hD] at he
        exact ⟨he, hb⟩
      · intro W
        refine (implPutOrder_yes s0 W hs hok).mono ?_
        rintro e w' ⟨D2, hD2, he, hb⟩
        rw [hD2.unique hD] at he
        exact ⟨he, hb⟩
    · refine ⟨⟨#[]⟩, 0, true, ?_, ?_⟩
      · intro W
        refine (specPutOrder_yes s0 W hs hok).mono ?_
        rintro e w' ⟨D2, hD2, he, hb⟩
        exact absurd ⟨D2, hD2⟩ hex
      · intro W
        refine (implPutOrder_yes s0 W hs hok).mono ?_
        rintro e w' ⟨D2, hD2, he, hb⟩
        exact absurd ⟨D2, hD2⟩ hex
  · have hno := bool_false hok
    exact ⟨⟨#[]⟩, 0, false, fun W => specPutOrder_no s0 W hs hno, fun W => implPutOrder_no s0 W hs hno⟩
end Go.Proofs.Ytabhbijohjemiaa
