/- Merged: C1Close. -/
import Derived.Test.YtpjgoikdfkaefaaQ113
import Derived.Test.YtpjgoikdfkaefaaQ111
import Derived.RegionTactic
import Derived.ChangeAlike
import Derived.Deep.QuietTactic
import Derived.BigQuiet
import Derived.Maps.AppendAt
import Derived.BigRegion
namespace Go.Proofs.Ytpjgoikdfkaefaa
set_option linter.unusedVariables false
set_option linter.unusedSimpArgs false
open Go.RowKit

/-- The first k bits of v (n bits), then zeros. -/
def half (v n k : Nat) : List Nat := nbits (v / 2 ^ (n - k)) k ++ List.replicate (n - k) 0
theorem half_len (v n k : Nat) (h : k ≤ n) : (half v n k).length = n := by simp [half, nbits_len]; omega
theorem half_zero (v n : Nat) : half v n 0 = List.replicate n 0 := by simp [half, nbits]
theorem half_all (v n : Nat) : half v n n = nbits v n := by simp [half]
theorem half_set (v n k : Nat) (h : k < n) : (half v n k).set k (v / 2 ^ (n - 1 - k) % 2) = half v n (k + 1) := by
  have e : nbits (v / 2 ^ (n - (k + 1))) (k + 1) = nbits (v / 2 ^ (n - k)) k ++ [v / 2 ^ (n - 1 - k) % 2] := by
    rw [nbits_add, Nat.div_div_eq_div_mul, ← Nat.pow_add, show n - (k + 1) + 1 = n - k by omega, show n - (k + 1) = n - 1 - k by omega]
    simp [nbits]
  unfold half
  rw [e, show n - k = (n - (k + 1)) + 1 by omega, List.replicate_succ, List.set_append_right _ _ (by rw [nbits_len]; exact Nat.le_refl _), nbits_len]
  simp
theorem made_u8s (n : Nat) : (madeCells #[Value.int .u8 0] n).toList = u8s (List.replicate n 0) := by
  rw [toList_madeCells_one]; simp [u8s]

theorem packs_nil : Packs [] [] := ⟨rfl, fun j => by simp, fun j hj => by simp at hj⟩
end Go.Proofs.Ytpjgoikdfkaefaa
