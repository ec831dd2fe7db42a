/- Merged: C1Up. -/
import Derived.Test.YtaaahmfkdiogkaaQM4
import Derived.RegionTactic
import Derived.ChangeAlike
import Derived.Deep.QuietTactic
import Derived.BigQuiet
import Derived.Deep.RegionWith
namespace Go.Proofs.Ytaaahmfkdiogkaa
set_option linter.unusedVariables false
set_option linter.unusedSimpArgs false
open Go.RowKit

/-- How many bits are to skip. -/
def upN (a : Nat) : Nat := (8 - a % 8) % 8
theorem upN_lt (a : Nat) : upN a ≤ 7 := by unfold upN; omega
theorem upN_div (a : Nat) : (a + upN a) % 8 = 0 := by unfold upN; omega
theorem upToByte_any (n : Int) (w : World) (b1 : -9223372036854775808 ≤ n) (b2 : n ≤ 9223372036854775807) :
    Calls Try.prog 108 #[.int .i64 n] w fun e w' => e = .returned (.int .i64 ((-n) % 8)) ∧ w = w' := by
  have h := i64_mask (wrap64 (-n)) 3 (by omega)
  have h2 : wrap64 (-n) % 8 = (-n) % 8 := by unfold wrap64; omega
  have H : Hid (bits .and .i64 (wrap64 (-n)) 7 = (-n) % 8) := hidden (by rw [← h2]; simpa using h)
  clear h h2
  go_enter Try.func108, Try.ntmps108
  go_wp2
  go_ret
  exact ⟨ret_int H.out, rfl⟩
theorem upToByte_nat (a : Nat) (w : World) (h : a < 9223372036854775808) :
    Calls Try.prog 108 #[.int .i64 a] w fun e w' => e = .returned (.int .i64 (upN a)) ∧ w = w' :=
  (upToByte_any a w (by omega) (by omega)).mono fun _ _ ⟨he, hw⟩ => ⟨he.trans (ret_int (by unfold upN; omega)), hw⟩
end Go.Proofs.Ytaaahmfkdiogkaa
