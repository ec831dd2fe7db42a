/- Chapter 2: the law's own small check that sums are alive. -/
import Derived.Test.YtbfkbiembbbbpaaC2From
import Derived.Test.YtbfkbiembbbbpaaMem
namespace Go.Proofs.Ytbfkbiembbbbpaa
set_option linter.unusedVariables false
set_option linter.unusedSimpArgs false
open Go.RowKit

theorem entI_one : entI 1 = 79764919 := by decide +kernel
theorem crcN_ab : ¬ crcN ⟨#[97]⟩ = crcN ⟨#[98]⟩ := by decide +kernel
set_option maxHeartbeats 1000000 in
theorem marks_any (w : World) : Calls Try.prog 26 #[] w fun e w' => e = .returned (.bool true) ∧ Below w.heap.size w w' := by
  obtain ⟨x, hx⟩ : ∃ x, crcN ⟨#[97]⟩ = x := ⟨_, rfl⟩
  obtain ⟨y, hy⟩ : ∃ y, crcN ⟨#[98]⟩ = y := ⟨_, rfl⟩
  have hxy := crcN_ab
  rw [hx, hy] at hxy
  have hne : ((x : Int) != (y : Int)) = true := by simp; omega
  have HX := hidden hx
  have HY := hidden hy
  have s1 : (⟨#[97]⟩ : ByteArray).size ≤ maxLen := by decide
  have s2 : (⟨#[98]⟩ : ByteArray).size ≤ maxLen := by decide
  clear hx hy hxy
  go_enter Try.func26, Try.ntmps26
  go_wp2_with (go_at_call 29; refine (implCrcEntry_any 1 _ (by omega) (by omega)).mono ?_; rintro e w' ⟨rfl, rfl⟩; rw [entI_one])
  go_wp2_with (go_at_call 32; refine (implCrc_any _ _ s1).mono ?_; rintro e w1 ⟨rfl, B1⟩; rw [HX.out])
  go_wp2_with (go_at_call 33; refine (specCrc_any _ _ s1).mono ?_; rintro e w2 ⟨rfl, rfl⟩; rw [HX.out])
  go_wp2_with (go_at_call 32; refine (implCrc_any _ _ s1).mono ?_; rintro e w3 ⟨rfl, B3⟩; rw [HX.out])
  go_wp2_with (go_at_call 32; refine (implCrc_any _ _ s2).mono ?_; rintro e w4 ⟨rfl, B4⟩; rw [HY.out])
  go_ret
  exact ⟨rfl, (B1.trans (B3.mono B1.size)).trans (B4.mono (Nat.le_trans B1.size B3.size))⟩
end Go.Proofs.Ytbfkbiembbbbpaa
