/- Chapter 7: the model and the program answer the same: ToRanks, FromRanks. -/
import Derived.Test.YtabhbijohjemiaaWExToRanks
import Derived.Test.YtabhbijohjemiaaWExFromRanks
import Derived.Test.YtabhbijohjemiaaI7R
namespace Go.Proofs.Ytabhbijohjemiaa
set_option linter.unusedVariables false
set_option linter.unusedSimpArgs false
open Go.RowKit

theorem rkL_range (S O : List Nat) (hS : S.length ≤ 1048576) (hO : O.length ≤ 1048576) : (rkL S O).length ≤ 1048576 ∧ ∀ x ∈ rkL S O, -9223372036854775808 ≤ x ∧ x ≤ 9223372036854775807 := by
  unfold rkL
  split
  · refine ⟨by rw [rkTo_len _ _ _ (Nat.le_refl _)]; exact hS, fun x hx => ?_⟩
    simp only [rkTo, List.mem_map] at hx
    obtain ⟨b, _, rfl⟩ := hx
    have := List.idxOf_le_length (a := b) (l := O)
    omega
  · exact ⟨by simp, by simp⟩
theorem meetsToRanks : MeetsToRanks := fun s0 s1 h0 h1 => ⟨rkL (bytesOf s0) (bytesOf s1), rkOk (bytesOf s0) (bytesOf s1), rkL_range _ _ (by rw [bytesOf_len]; exact h0) (by rw [bytesOf_len]; exact h1),
  fun W => (specToRanks_any s0 s1 W h0 h1).mono fun e w' h => h, fun W => (implToRanks_any s0 s1 W h0 h1).mono fun e w' h => h⟩
theorem meetsFromRanks : MeetsFromRanks := fun z0 s1 h0 hr h1 => ⟨strOf (frL z0 (bytesOf s1)), frOk z0 (bytesOf s1),
  fun W p0 c0 hI => specFromRanks_any (some p0) c0 W.heap.size z0 s1 W hI (Nat.le_refl _) h0 h1, fun W p0 c0 hI => implFromRanks_any (some p0) c0 W.heap.size z0 s1 W hI (Nat.le_refl _) h0 h1⟩
end Go.Proofs.Ytabhbijohjemiaa
