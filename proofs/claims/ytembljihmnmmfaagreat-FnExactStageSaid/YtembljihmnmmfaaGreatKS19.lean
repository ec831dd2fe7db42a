/- Texts of the proof, merged. -/
import Derived.Lib.Strings
import Derived.Lib.Slices
import Derived.Lib.Small
import Derived.Lib.Walk
import Derived.Lib.BitFns
import Derived.BigRegion
import Derived.Deep.DeepCutAuto
import Derived.RegionTactic
import Derived.ChangeAlike
import Derived.Deep.QuietTactic
import Derived.BigQuiet
import Derived.Deep.RegionWith
import Derived.Test.YtembljihmnmmfaaGreatKS1
import Derived.Test.YtembljihmnmmfaaGreatKS12
import Derived.Test.YtembljihmnmmfaaGreatKS4
namespace Go.Proofs.YtembljihmnmmfaaGreat
set_option linter.unusedVariables false
set_option linter.unusedSimpArgs false
open Go.RowKit

theorem bitLen_byte : ∀ n : Fin 256, n.val ≠ 0 → Lib.bitLen n.val = Nat.log2 n.val + 1 := by decide +kernel
theorem log_256 {n : Nat} (h : 256 ≤ n) : Nat.log2 n = Nat.log2 (n / 256) + 8 := by
  rw [log_half (n := n) (by omega), log_half (n := n / 2) (by omega), log_half (n := n / 2 / 2) (by omega), log_half (n := n / 2 / 2 / 2) (by omega), log_half (n := n / 2 / 2 / 2 / 2) (by omega),
    log_half (n := n / 2 / 2 / 2 / 2 / 2) (by omega), log_half (n := n / 2 / 2 / 2 / 2 / 2 / 2) (by omega), log_half (n := n / 2 / 2 / 2 / 2 / 2 / 2 / 2) (by omega)]
  rw [show n / 2 / 2 / 2 / 2 / 2 / 2 / 2 / 2 = n / 256 by omega]
theorem len8_log (b : Nat) (h0 : b ≠ 0) (h1 : b ≤ 255) : Lib.len8 (b : Int) = ((Nat.log2 b + 1 : Nat) : Int) := by
  rw [Lib.len8_of _ (by omega) (by omega), Int.toNat_natCast, bitLen_byte ⟨b, by omega⟩ h0]
theorem len8_any (x : Int) (h0 : 1 ≤ x) (h1 : x ≤ 255) : Lib.len8 x = ((Nat.log2 x.toNat + 1 : Nat) : Int) := by
  obtain ⟨b, rfl⟩ : ∃ b : Nat, x = b := ⟨x.toNat, by omega⟩
  rw [len8_log b (by omega) (by omega), Int.toNat_natCast]
theorem tab_get (i : Int) (h : i.toNat < Lib.len8tab.size) : (Lib.len8tab[i.toNat].toNat : Int) = Lib.len8 i := by
  unfold Lib.len8
  rw [getElem?_pos Lib.len8tab i.toNat h]
  rfl
theorem log_8 (x : Int) (h : 256 ≤ x) : Nat.log2 x.toNat = Nat.log2 (x / 256).toNat + 8 := by
  rw [log_256 (n := x.toNat) (by omega), show x.toNat / 256 = (x / 256).toNat by omega]
theorem log_16 (x : Int) (h : 65536 ≤ x) : Nat.log2 x.toNat = Nat.log2 (x / 65536).toNat + 16 := by
  rw [log_8 x (by omega), log_8 (x / 256) (by omega), show x / 256 / 256 = x / 65536 by omega]
theorem log_lt (x : Int) (h0 : 1 ≤ x) (h1 : x ≤ 1048575) : Nat.log2 x.toNat ≤ 19 := log_le (by omega) (by omega)
set_option maxHeartbeats 4000000 in
set_option maxRecDepth 100000 in
theorem len64_small (x : Int) (w : World) (h1 : 1 ≤ x) (h2 : x ≤ 1048575) :
    Calls Tryz.prog 153 #[.int .u64 x] w fun e w' => e = .returned (.int .i64 ((Nat.log2 x.toNat + 1 : Nat) : Int)) ∧ w' = w := by
  have H1 := hidden h1
  have H2 := hidden h2
  have h3 : 0 ≤ x := by omega
  have h4 : x ≤ 18446744073709551615 := by omega
  clear h1 h2
  go_enter Tryz.func153, Tryz.ntmps153
  have hz := hidden Lib.len8tab_size
  go_wp2
  all_goals first
    | (exfalso; have := hz.out; omega)
    | (go_ret; refine ⟨congrArg Ending.returned (congrArg (Value.int IntKind.i64) ?_), rfl⟩; have := H1.out; have := H2.out)
  all_goals first
    | (exfalso; omega)
    | (have hs := hz.out
       have hl := log_lt (x / 65536) (by omega) (by omega)
       rw [tab_get _ (by omega), len8_any _ (by omega) (by omega), wrap64_n _ (by omega), log_16 x (by omega), IntWalk.wrap64_in _ (by omega)]
       omega)
    | (have hs := hz.out
       have hl := log_lt (x / 256) (by omega) (by omega)
       rw [tab_get _ (by omega), len8_any _ (by omega) (by omega), wrap64_n _ (by omega), log_8 x (by omega), IntWalk.wrap64_in _ (by omega)]
       omega)
    | (have hs := hz.out
       have hl := log_lt x (by omega) (by omega)
       rw [tab_get _ (by omega), len8_any _ (by omega) (by omega), wrap64_n _ (by omega), wrap64_n _ (by omega)])
end Go.Proofs.YtembljihmnmmfaaGreat
