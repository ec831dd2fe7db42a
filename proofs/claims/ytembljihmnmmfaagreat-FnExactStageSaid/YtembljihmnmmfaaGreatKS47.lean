/- Texts of the proof, merged. -/
import Derived.Deep.WholeRow
import Derived.Deep.LoopGhost
import Derived.Laws.CopyOwn
import Derived.Laws.ResultCell
import Derived.Deep.RegionHeld3
import Derived.Deep.DrawnRows
import Derived.RegionTactic
import Derived.ChangeAlike
import Derived.Deep.QuietTactic
import Derived.BigQuiet
import Derived.Maps.AppendAt
import Derived.OwnWalk
import Derived.Test.YtembljihmnmmfaaGreatKS39
import Derived.Test.YtembljihmnmmfaaGreatKS12
import Derived.Test.YtembljihmnmmfaaGreatKS40
import Derived.Test.YtembljihmnmmfaaGreatKS1
import Derived.Test.YtembljihmnmmfaaGreatKS4
import Derived.Test.YtembljihmnmmfaaGreatKS5
import Derived.Test.YtembljihmnmmfaaGreatKS8
import Derived.Test.YtembljihmnmmfaaGreatKS27
import Derived.Test.YtembljihmnmmfaaGreatKS13
import Derived.Test.YtembljihmnmmfaaGreatKS22
namespace Go.Proofs.YtembljihmnmmfaaGreat
set_option linter.unusedVariables false
set_option linter.unusedSimpArgs false
open Go.RowKit

theorem way_4 {m t : Int} {b : Bool} (h : wayOk m b t = true) : (m = 0 ∧ b = false ∧ t = 0) ∨ (m = 1 ∧ 1 ≤ t ∧ t ≤ 4) ∨ (m = 2 ∧ 1 ≤ t ∧ t ≤ 4) ∨ (m = 3 ∧ t = 0) := by
  simp only [wayOk, Bool.or_eq_true, Bool.and_eq_true, decide_eq_true_eq, Bool.not_eq_true'] at h
  rcases h with (⟨h1, h2, h3⟩ | ⟨h1 | h1, h2, h3⟩) | ⟨h1, h2⟩
  · exact .inl ⟨h1, h2, h3⟩
  · exact .inr (.inl ⟨h1, h2, h3⟩)
  · exact .inr (.inr (.inl ⟨h1, h2, h3⟩))
  · exact .inr (.inr (.inr ⟨h1, h2⟩))
end Go.Proofs.YtembljihmnmmfaaGreat
