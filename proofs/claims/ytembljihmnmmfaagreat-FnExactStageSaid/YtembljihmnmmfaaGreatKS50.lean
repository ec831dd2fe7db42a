/- Texts of the proof, merged. -/
import Derived.Deep.WholeRow
import Derived.Deep.LoopGhost
import Derived.Laws.CopyOwn
import Derived.Laws.ResultCell
import Derived.Deep.RegionHeld3
import Derived.Deep.DrawnRows
import Derived.RegionTactic
import Derived.ChangeAlike
import Derived.Deep.QuietTactic
import Derived.BigQuiet
import Derived.Maps.AppendAt
import Derived.OwnWalk
import Derived.BigRegion
import Derived.Deep.DeepCutAuto
import Derived.Deep.RegionWith
import Derived.StillTailTactics
import Derived.Lib.SmallJoins
import Derived.Test.YtembljihmnmmfaaGreatKS39
import Derived.Test.YtembljihmnmmfaaGreatKS12
import Derived.Test.YtembljihmnmmfaaGreatKS40
import Derived.Test.YtembljihmnmmfaaGreatKS1
import Derived.Test.YtembljihmnmmfaaGreatKS4
import Derived.Test.YtembljihmnmmfaaGreatKS5
import Derived.Test.YtembljihmnmmfaaGreatKS8
import Derived.Test.YtembljihmnmmfaaGreatKS27
import Derived.Test.YtembljihmnmmfaaGreatKS13
import Derived.Test.YtembljihmnmmfaaGreatKS22
import Derived.Test.YtembljihmnmmfaaGreatKS49
import Derived.Test.YtembljihmnmmfaaGreatKS19
import Derived.Test.YtembljihmnmmfaaGreatKS36
import Derived.Test.YtembljihmnmmfaaGreatKS48
import Derived.Test.YtembljihmnmmfaaGreatKS17
namespace Go.Proofs.YtembljihmnmmfaaGreat
set_option linter.unusedVariables false
set_option linter.unusedSimpArgs false
open Go.RowKit

theorem Keeps.own {g n base : Nat} {e : TypeId} {v : Value} {xs : List Value} {w w' : World} (h : Keeps g w w') (he : e ≠ 5 ∧ e ≠ 102) (hg : ∃ cs, Has w g 102 cs) (ho : w.ownsRow base e 1 v n xs) : w'.ownsRow base e 1 v n xs := by
  refine ⟨ho.1, ho.2.imp id ?_⟩
  rintro ⟨k, cap, cur, rfl, hb, hc, hr⟩
  refine ⟨k, cap, cur, rfl, hb, h k _ ?_ ?_ hc, hr⟩
  · rintro rfl
    obtain ⟨cs, hcs⟩ := hg
    unfold Has at hcs
    rw [hcs] at hc
    injection hc with hc
    injection hc with _ h2 _
    exact he.2 h2.symm
  · intro cs fr e2
    injection e2 with _ h2 _
    exact he.1 h2
theorem Writes.has {w : World} {base g : Nat} {l : List Nat} (h : Writes w base g l) : ∃ cs, Has w g 102 cs := by
  obtain ⟨v, D, hB, _⟩ := h
  exact ⟨_, hB⟩
end Go.Proofs.YtembljihmnmmfaaGreat
