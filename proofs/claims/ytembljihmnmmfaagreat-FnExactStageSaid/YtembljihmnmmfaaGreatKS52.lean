/- Texts of the proof, merged. -/
import Derived.RegionTactic
import Derived.ChangeAlike
import Derived.Deep.QuietTactic
import Derived.BigQuiet
import Derived.OwnWalk
import Derived.Maps.AppendAt
import Derived.Deep.RegionHeld3
import Derived.BigRegion
import Derived.Deep.DeepCutAuto
import Derived.Deep.RegionWith
import Derived.Test.YtembljihmnmmfaaGreatKS50
import Derived.Test.YtembljihmnmmfaaGreatKS51
import Derived.Test.YtembljihmnmmfaaGreatKS27
import Derived.Test.YtembljihmnmmfaaGreatKS5
import Derived.Test.YtembljihmnmmfaaGreatKS4
import Derived.Test.YtembljihmnmmfaaGreatKS35
import Derived.Test.YtembljihmnmmfaaGreatKS20
import Derived.Test.YtembljihmnmmfaaGreatKS13
import Derived.Test.YtembljihmnmmfaaGreatKS22
import Derived.Test.YtembljihmnmmfaaGreatKS12
import Derived.Test.YtembljihmnmmfaaGreatKS45
import Derived.Test.YtembljihmnmmfaaGreatKS46
import Derived.Test.YtembljihmnmmfaaGreatKS1
import Derived.Deep.WholeRow
import Derived.Deep.LoopGhost
import Derived.Laws.CopyOwn
import Derived.Laws.ResultCell
import Derived.Deep.DrawnRows
import Derived.Test.YtembljihmnmmfaaGreatKS11
import Derived.Test.YtembljihmnmmfaaGreatKS39
import Derived.Test.YtembljihmnmmfaaGreatKS40
import Derived.Test.YtembljihmnmmfaaGreatKS8
import Derived.Test.YtembljihmnmmfaaGreatKS47
namespace Go.Proofs.YtembljihmnmmfaaGreat
set_option linter.unusedVariables false
set_option linter.unusedSimpArgs false
open Go.RowKit

theorem Keeps.rows {g base : Nat} {V : List Value} {T : List (List Int)} {w w' : World} (h : Keeps g w w') (hg : ∃ cs, Has w g 102 cs) (hR : RowsAt w base V T) : RowsAt w' base V T :=
  ⟨hR.1, fun j hj => h.own (by decide) hg (hR.2 j hj)⟩
end Go.Proofs.YtembljihmnmmfaaGreat
namespace Go.Proofs.YtembljihmnmmfaaGreat
set_option linter.unusedVariables false
set_option linter.unusedSimpArgs false
open Go.RowKit

theorem implStage_any (s : ByteArray) (m t : Int) (b : Bool) (w : World) (hs : s.size ≤ 1048576) :
    Calls Tryz.prog 8 #[.string s, .agg #[.int .i64 m, .bool b, .int .i64 t]] w fun e w' => ∃ v, e = .returned v ∧ w'.ownsRow w.heap.size 3 1 v (stgZ s m b t).length (intsV (stgZ s m b t)) ∧ Below w.heap.size w w' := by
  by_cases h : bkOk s m b t = true
  · obtain ⟨h6, hw⟩ := (bkOk_iff _ _ _ _).1 h
    rcases way_4 hw with ⟨rfl, rfl, rfl⟩ | ⟨rfl, h1, h4⟩ | ⟨rfl, h1, h4⟩ | ⟨rfl, rfl⟩
    · exact implStage_0 s w h6
    · exact implStage_1 s t b w h6 hw
    · exact implStage_2 s t b w h6 hw
    · exact implStage_3 s b w h6
  · have h2 : ¬ ((0 < s.size ∧ s.size ≤ 600) ∧ wayOk m b t = true) := fun h3 => h ((bkOk_iff _ _ _ _).2 h3)
    refine implStage_no s m t b w hs (by unfold stgZ; rw [if_neg (fun h3 => h2 ⟨⟨h3.1, h3.2.1⟩, h3.2.2⟩)]) ?_
    by_cases h6 : 0 < s.size ∧ s.size ≤ 600
    · exact .inr (by simpa using fun h3 => h2 ⟨h6, h3⟩)
    · exact .inl h6
theorem meetsStage : MeetsStage := fun s m b t hs _ _ _ _ => ⟨stgZ s m b t, by
  have h := stgZ_bnd s m b t
  exact ⟨by omega, fun x hx => by have := h.2 x hx; omega⟩, fun W => specStage_any s m t b W hs, fun W => implStage_any s m t b W hs⟩
end Go.Proofs.YtembljihmnmmfaaGreat
