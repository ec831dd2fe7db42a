/- Texts of the proof, merged. -/
import Derived.WalkLawsBesides
import Derived.Lib.MinMax
import Derived.Deep.RegionHeld3
import Derived.OwnWalk
import Derived.RegionTactic
import Derived.ChangeAlike
import Derived.Deep.QuietTactic
import Derived.BigQuiet
import Derived.Test.YtembljihmnmmfaaGreatKS13
import Derived.Test.YtembljihmnmmfaaGreatKS3
import Derived.Test.YtembljihmnmmfaaGreatKS9
import Derived.Test.YtembljihmnmmfaaGreatKS18
import Derived.Test.YtembljihmnmmfaaGreatKS4
import Derived.Test.YtembljihmnmmfaaGreatKS5
namespace Go.Proofs.YtembljihmnmmfaaGreat
set_option linter.unusedVariables false
set_option linter.unusedSimpArgs false
open Go.RowKit

theorem Ints.lies {w : World} {B : Nat} {a : Option Addr} {zs : List Int} (h : Ints w B a zs) (h0 : ∀ k, k < zs.length → 0 ≤ zs.getD k 0) : Lies w B a (natsL (zs.map Int.toNat)) := fun hp => by
  rw [natsL_len, List.length_map] at hp
  obtain ⟨b, off, e, hb, hc⟩ := h.2.2 hp
  refine ⟨b, off, e, hb, fun i hi => ?_⟩
  rw [natsL_len, List.length_map] at hi
  have hx := h0 i hi
  have e2 : zs.getD i 0 = zs[i] := by simp [List.getD_eq_getElem?_getD, hi]
  rw [hc i hi, natsL_get _ i (by simpa using hi), List.getElem_map, e2]
  rw [e2] at hx
  rw [Int.toNat_of_nonneg hx]
end Go.Proofs.YtembljihmnmmfaaGreat
