/- Chapter 6, plain: a number's bits, the reading of a number. No condition. -/
import Derived.Test.YtpdicijoohahaaaMath2
namespace Go.Proofs.Ytpdicijoohahaaa
set_option linter.unusedVariables false
set_option linter.unusedSimpArgs false

/-- The bits of n: zeros, and n. -/
def gamL (n : Nat) : List Nat := nbits n (2 * Nat.log2 n + 1)
theorem log_low {n : Nat} (h : 1 ≤ n) : 2 ^ Nat.log2 n ≤ n := Nat.log2_self_le (by omega)
theorem log_up (n : Nat) : n < 2 ^ (Nat.log2 n + 1) := Nat.lt_log2_self
theorem log_one {n k : Nat} (h1 : 2 ^ k ≤ n) (h2 : n < 2 ^ (k + 1)) : Nat.log2 n = k := by
  have h0 : 1 ≤ n := Nat.le_trans (Nat.two_pow_pos k) h1
  have a := log_low h0
  have b := log_up n
  rcases Nat.lt_trichotomy (Nat.log2 n) k with h | h | h
  · have := Nat.pow_le_pow_right (n := 2) (by omega) (show Nat.log2 n + 1 ≤ k by omega)
    omega
  · exact h
  · have := Nat.pow_le_pow_right (n := 2) (by omega) (show k + 1 ≤ Nat.log2 n by omega)
    omega
theorem log_le {n : Nat} (h1 : 1 ≤ n) (h : n ≤ 1048575) : Nat.log2 n ≤ 19 := by
  apply Classical.byContradiction
  intro hc
  have := Nat.pow_le_pow_right (n := 2) (by omega) (show 20 ≤ Nat.log2 n by omega)
  have := log_low h1
  omega
/-- Halving: how the program counts. -/
theorem log_half {n : Nat} (h : 2 ≤ n) : Nat.log2 n = Nat.log2 (n / 2) + 1 := by
  have h1 := log_low (n := n / 2) (by omega)
  have h2 := log_up (n / 2)
  apply log_one
  · rw [Nat.pow_succ]; omega
  · rw [Nat.pow_succ]; omega
theorem log_small : Nat.log2 1 = 0 := by decide
theorem gamL_len (n : Nat) : (gamL n).length = 2 * Nat.log2 n + 1 := nbits_len _ _
theorem gamL_lt (n : Nat) : ∀ b ∈ gamL n, b < 2 := nbits_lt _ _
theorem gamL_num (n : Nat) : num (gamL n) = n := num_nbits _ _ (Nat.lt_of_lt_of_le (log_up n) (Nat.pow_le_pow_right (by omega) (by omega)))

/-! ### the reading -/
/-- At bit a stands the number n, of k zeros and k + 1 bits. -/
def Gam (s : ByteArray) (a k n : Nat) : Prop := k ≤ 19 ∧ a + (2 * k + 1) ≤ 8 * s.size ∧ num (row s a k) = 0 ∧ bit s (a + k) = 1 ∧ n = 2 ^ k + num (row s (a + k + 1) k)
theorem num_zero_bits {s : ByteArray} {a : Nat} (k : Nat) : num (row s a k) = 0 ↔ ∀ i, i < k → bit s (a + i) = 0 := by
  induction k with
  | zero => exact ⟨fun _ i hi => by omega, fun _ => rfl⟩
  | succ k ih =>
    rw [num_row_succ]
    constructor
    · intro h i hi
      rcases Nat.lt_or_ge i k with h2 | h2
      · exact ih.1 (by omega) i h2
      · have : i = k := by omega
        subst this; omega
    · intro h
      have h1 := ih.2 fun i hi => h i (by omega)
      have h2 := h k (by omega)
      omega
theorem num_row_cons (s : ByteArray) (a n : Nat) : num (row s a (n + 1)) = bit s a * 2 ^ n + num (row s (a + 1) n) := by
  rw [Nat.add_comm n 1, row_add, num_append, row_len]
  simp [row, num]
theorem gam_range {s : ByteArray} {a k n : Nat} (h : Gam s a k n) : 2 ^ k ≤ n ∧ n < 2 ^ (k + 1) ∧ 1 ≤ n ∧ n ≤ 1048575 := by
  obtain ⟨hk, _, _, _, rfl⟩ := h
  have h1 := num_row_lt s (a + k + 1) k
  have h2 := Nat.pow_le_pow_right (n := 2) (by omega) (show k + 1 ≤ 20 by omega)
  have h3 := Nat.two_pow_pos k
  rw [Nat.pow_succ] at h2 ⊢
  omega
theorem gam_log {s : ByteArray} {a k n : Nat} (h : Gam s a k n) : Nat.log2 n = k := log_one (gam_range h).1 (gam_range h).2.1
theorem gam_zeros {s : ByteArray} {a k j n : Nat} (h : Gam s a k n) (hz : ∀ i, i < j → bit s (a + i) = 0) (h1 : bit s (a + j) = 1) : k = j := by
  have hk := (num_zero_bits k).1 h.2.2.1
  rcases Nat.lt_trichotomy k j with hl | hl | hl
  · have := hz k hl
    have := h.2.2.2.1
    omega
  · exact hl
  · have := hk j hl
    omega
theorem gam_one {s : ByteArray} {a k j n m : Nat} (h : Gam s a k n) (h2 : Gam s a j m) : k = j ∧ n = m := by
  have e := gam_zeros h ((num_zero_bits j).1 h2.2.2.1) h2.2.2.2.1
  subst e
  exact ⟨rfl, h.2.2.2.2.trans h2.2.2.2.2.symm⟩
/-- In one piece. -/
theorem gam_whole {s : ByteArray} {a k n : Nat} (h : Gam s a k n) : num (row s a (2 * k + 1)) = n := by
  obtain ⟨_, _, hz, hb, rfl⟩ := h
  rw [show 2 * k + 1 = k + (k + 1) by omega, row_add, num_append, hz, num_row_cons, hb]
  omega
theorem gam_of {s : ByteArray} {a n : Nat} (h1 : 1 ≤ n) (h2 : n ≤ 1048575) (hs : a + (2 * Nat.log2 n + 1) ≤ 8 * s.size) (hn : num (row s a (2 * Nat.log2 n + 1)) = n) : Gam s a (Nat.log2 n) n := by
  have hlo := log_low h1
  have hup := log_up n
  have hk := log_le h1 h2
  generalize Nat.log2 n = k at *
  rw [show 2 * k + 1 = k + (k + 1) by omega, row_add, num_append, row_len, num_row_cons] at hn
  have hb := bit_lt s (a + k)
  have hr := num_row_lt s (a + k + 1) k
  have hp := Nat.two_pow_pos k
  have hz : num (row s a k) = 0 := by
    apply Classical.byContradiction
    intro hc
    have : 1 * 2 ^ (k + 1) ≤ num (row s a k) * 2 ^ (k + 1) := Nat.mul_le_mul_right _ (by omega)
    omega
  rw [hz, Nat.zero_mul, Nat.zero_add] at hn
  have hb1 : bit s (a + k) = 1 := by
    rcases Nat.lt_or_ge (bit s (a + k)) 1 with h | h
    · have : bit s (a + k) = 0 := by omega
      rw [this] at hn; omega
    · omega
  rw [hb1] at hn
  exact ⟨hk, hs, hz, hb1, by omega⟩
/-- What was put is read, whatever stands behind. -/
theorem gam_put {s : ByteArray} {a n : Nat} (h1 : 1 ≤ n) (h2 : n ≤ 1048575) (hs : a + (gamL n).length ≤ 8 * s.size) (hr : row s a (gamL n).length = gamL n) : Gam s a (Nat.log2 n) n := by
  refine gam_of h1 h2 (by rwa [gamL_len] at hs) ?_
  rw [gamL_len] at hr
  rw [hr, gamL_num]
theorem gam_row {s : ByteArray} {a k n : Nat} (h : Gam s a k n) : a + k + 1 + k ≤ 8 * s.size := by have := h.2.1; omega
end Go.Proofs.Ytpdicijoohahaaa
