/- Texts of the proof, merged. -/
import Derived.Deep.RegionHeld3
import Derived.Deep.DrawnRows
import Derived.RegionTactic
import Derived.ChangeAlike
import Derived.Deep.QuietTactic
import Derived.BigQuiet
import Derived.Maps.AppendAt
import Derived.OwnWalk
import Derived.Test.YtembljihmnmmfaaGreatKS27
import Derived.Test.YtembljihmnmmfaaGreatKS5
import Derived.Test.YtembljihmnmmfaaGreatKS12
import Derived.Test.YtembljihmnmmfaaGreatKS13
import Derived.Test.YtembljihmnmmfaaGreatKS4
import Derived.Test.YtembljihmnmmfaaGreatKS1
namespace Go.Proofs.YtembljihmnmmfaaGreat
set_option linter.unusedVariables false
set_option linter.unusedSimpArgs false
open Go.RowKit

theorem Tabs.keep {w w' : World} {B : Nat} {a : Option Addr} {T : List (List Int)} (h : Tabs w B a T) (hk : ∀ p : Addr, p.block < B → w'.cell? p = w.cell? p) : Tabs w' B a T :=
  ⟨h.1, fun h0 => by
    obtain ⟨b, off, e, hB, hc⟩ := h.2 h0
    refine ⟨b, off, e, hB, fun i hi => ?_⟩
    obtain ⟨v, hv, a2, c2, e2, h1, h2⟩ := hc i hi
    exact ⟨v, (hk ⟨b, off + i, none⟩ hB).trans hv, a2, c2, e2, h1, h2.keep hk⟩⟩
end Go.Proofs.YtembljihmnmmfaaGreat
