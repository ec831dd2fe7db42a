/- Texts of the proof, merged. -/
import Derived.Test.YtembljihmnmmfaaGreatKS28
import Derived.Test.YtembljihmnmmfaaGreatKS19
import Derived.BigRegion
import Derived.Deep.DeepCutAuto
import Derived.RegionTactic
import Derived.ChangeAlike
import Derived.Deep.QuietTactic
import Derived.BigQuiet
import Derived.Deep.RegionWith
import Derived.Test.YtembljihmnmmfaaGreatKS4
import Derived.Test.YtembljihmnmmfaaGreatKS1
import Derived.Test.YtembljihmnmmfaaGreatKS12
import Derived.Test.YtembljihmnmmfaaGreatKS17
namespace Go.Proofs.YtembljihmnmmfaaGreat
set_option linter.unusedVariables false
set_option linter.unusedSimpArgs false
open Go.RowKit Go.Maps

theorem len8_zero : Lib.len8 0 = 0 := by decide +kernel
set_option maxHeartbeats 4000000 in
set_option maxRecDepth 100000 in
theorem len64_zero (w : World) : Calls Tryz.prog 153 #[.int .u64 0] w fun e w' => e = .returned (.int .i64 0) ∧ w' = w := by
  have hz := hidden Lib.len8tab_size
  go_enter Tryz.func153, Tryz.ntmps153
  go_wp2
  go_ret
  exact ⟨congrArg Ending.returned (by rw [len8_zero]; exact congrArg (Value.int IntKind.i64) (by decide +kernel : wrap64 (wrap64 0) = 0)), rfl⟩
end Go.Proofs.YtembljihmnmmfaaGreat
namespace Go.Proofs.YtembljihmnmmfaaGreat
set_option linter.unusedVariables false
set_option linter.unusedSimpArgs false
open Go.RowKit Go.Maps

theorem CntAt.isMap {W : World} {b n : Nat} {f : Nat → Nat} (h : CntAt W b n f) : ∃ es c, W.heap[b]? = some (.map es c) := by
  obtain ⟨D, ⟨es, c, hh, _⟩, _⟩ := h
  exact ⟨es, c, hh⟩
theorem Writes.two {w w' : World} {base g lb mb : Nat} {l u : List Nat} (h : Writes w base g l) (hB : BL w lb mb u) (ht : Two lb mb w w') (h1 : g ≠ lb) (h2 : g ≠ mb) : Writes w' base g l := by
  obtain ⟨v, D, hH, hR, hP, hn⟩ := h
  refine ⟨v, D, ht.has hH h1 h2, hR.keep fun q hq => ht.2.2.2.2 q (hR.lt q hq).2 ?_ ?_, hP, hn⟩
  · intro e
    exact hR.neHas hB.1 (by decide) (by rw [hq, e])
  · intro e
    obtain ⟨es, c, hm⟩ := hB.2.isMap
    exact hR.notOther (fun cs fr e => by cases e) hm (by rw [hq, e])
end Go.Proofs.YtembljihmnmmfaaGreat
