/- Merged: BwtZ. -/
import Derived.Test.YtpjgoikdfkaefaaGreatQZ6
import Derived.Test.YtpjgoikdfkaefaaGreatQZ21
import Derived.Test.YtpjgoikdfkaefaaGreatQZ15
namespace Go.Proofs.YtpjgoikdfkaefaaGreat
set_option linter.unusedVariables false
set_option linter.unusedSimpArgs false

theorem byt_last (s : ByteArray) : Byt (lastL (bytesOf s)) := fun b hb => byt_bytesOf s b ((lastL_perm _).mem_iff.1 hb)
theorem lstZ_size (s : ByteArray) (h : 0 < s.size ∧ s.size ≤ 600) : (lstZ s).size = s.size := by
  unfold lstZ; rw [if_pos h, strOf_size, lastL_len, bytesOf_len]
theorem lstZ_bytes (s : ByteArray) (h : 0 < s.size ∧ s.size ≤ 600) : bytesOf (lstZ s) = lastL (bytesOf s) := by
  unfold lstZ; rw [if_pos h, bytes_str (byt_last s)]
theorem fstZ_range (s : ByteArray) : -1 ≤ fstZ s ∧ fstZ s ≤ 600 := by
  unfold fstZ
  split
  · rename_i h
    have := (fst_get (bytesOf s) (by rw [bytesOf_len]; exact h.1)).1
    rw [bytesOf_len] at this
    omega
  · omega
theorem lstZ_le (s : ByteArray) : (lstZ s).size ≤ 600 := by
  by_cases h : 0 < s.size ∧ s.size ≤ 600
  · rw [lstZ_size s h]; exact h.2
  · unfold lstZ; rw [if_neg h]; decide
theorem un_last (s : ByteArray) (h : 0 < s.size ∧ s.size ≤ 600) : unB (lstZ s) (fstZ s) = true ∧ unS (lstZ s) (fstZ s) = s := by
  have hf : fstZ s = (fstN (bytesOf s) : Int) := by unfold fstZ; rw [if_pos h]
  have hc : unC (lstZ s) (fstZ s) = s := by
    unfold unC
    rw [lstZ_bytes s h, hf, Int.toNat_natCast, bwt_back _ (by rw [bytesOf_len]; exact h.1), strOf_bytesOf]
  have hb : unB (lstZ s) (fstZ s) = true := by
    have hl := (fst_get (bytesOf s) (by rw [bytesOf_len]; exact h.1)).1
    rw [bytesOf_len] at hl
    unfold unB
    rw [hc, lstZ_size s h]
    rw [decide_eq_true_eq]
    exact ⟨h.1, h.2, by omega, by omega, rfl, rfl⟩
  exact ⟨hb, by unfold unS; rw [if_pos hb, hc]⟩
theorem un_none (s : ByteArray) (h : ¬ (0 < s.size ∧ s.size ≤ 600)) : lstZ s = ⟨#[]⟩ ∧ fstZ s = -1 ∧ unB ⟨#[]⟩ (-1) = false := by
  refine ⟨by unfold lstZ; rw [if_neg h], by unfold fstZ; rw [if_neg h], ?_⟩
  unfold unB
  rw [decide_eq_false_iff_not]
  rintro ⟨h1, _⟩
  exact absurd h1 (by decide)
theorem last_un (a : ByteArray) (b : Int) (h : unB a b = true) : lstZ (unS a b) = a ∧ fstZ (unS a b) = b := by
  have h2 := h
  unfold unB at h2
  rw [decide_eq_true_eq] at h2
  unfold unS
  rw [if_pos h]
  exact ⟨h2.2.2.2.2.1, h2.2.2.2.2.2⟩
theorem unS_size (a : ByteArray) (b : Int) : (unS a b).size ≤ 600 := by
  unfold unS
  split
  · rename_i h
    unfold unB at h
    rw [decide_eq_true_eq] at h
    unfold unC
    rw [strOf_size, canL_len, bytesOf_len]
    exact h.2.1
  · decide
theorem used_last (s : ByteArray) (h : 0 < s.size ∧ s.size ≤ 600) : usedL (bytesOf (lstZ s)) = usedL (bytesOf s) := by
  refine asc_unique (usedL_asc _) (usedL_asc _) (fun b => ?_)
  rw [mem_usedL (byt_bytesOf _), mem_usedL (byt_bytesOf _), lstZ_bytes s h, (lastL_perm _).mem_iff]
end Go.Proofs.YtpjgoikdfkaefaaGreat
