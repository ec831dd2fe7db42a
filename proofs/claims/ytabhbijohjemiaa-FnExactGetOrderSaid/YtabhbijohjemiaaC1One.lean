/- Chapter 1: one bit (the model). -/
import Derived.Test.YtabhbijohjemiaaRet
import Derived.Test.YtabhbijohjemiaaMath
namespace Go.Proofs.Ytabhbijohjemiaa
set_option linter.unusedVariables false
set_option linter.unusedSimpArgs false
open Go.RowKit

theorem l1one_any (s : ByteArray) (k : Nat) (w : World) (hs : s.size ≤ maxLen) (hk : k / 8 < s.size) :
    Calls Try.prog 105 #[.string s, .int .i64 k] w fun e w' => e = .returned (.int .u8 (bit s k)) ∧ w = w' := by
  unfold maxLen at hs
  go_enter Try.func105, Try.ntmps105
  go_wp2
  go_ret
  refine ⟨ret_int ?_, rfl⟩
  have h1 : s[k / 8].toNat / 2 ^ (7 - k % 8) < 256 := Nat.lt_of_le_of_lt (Nat.div_le_self _ _) (UInt8.toNat_lt _)
  have h2 := u8_and_nat _ 1 h1 (by omega)
  rw [nat_mask1] at h2
  rw [bit, ← byteAt_get _ _ hk, ← h2]
  simp

end Go.Proofs.Ytabhbijohjemiaa
