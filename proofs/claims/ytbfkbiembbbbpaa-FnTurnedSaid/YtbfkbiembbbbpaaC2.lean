/- Chapter 2: the small functions of the check sum. -/
import Derived.Test.YtbfkbiembbbbpaaC1
import Derived.Test.YtbfkbiembbbbpaaCrcMath
namespace Go.Proofs.Ytbfkbiembbbbpaa
set_option linter.unusedVariables false
set_option linter.unusedSimpArgs false
open Go.RowKit

theorem upW_succ (k w : Nat) : upW (k + 1) w = up (upW k w) := rfl
theorem i64_xor_int (a b : Int) (ha : 0 ≤ a ∧ a < 4611686018427387904) (hb : 0 ≤ b ∧ b < 4611686018427387904) : bits .xor .i64 a b = ((a.toNat ^^^ b.toNat : Nat) : Int) := by
  have := i64_xor_nat a.toNat b.toNat (by omega) (by omega)
  rwa [Int.toNat_of_nonneg ha.1, Int.toNat_of_nonneg hb.1] at this
/-- Moving up by a bit, as 32-bit words do it. -/
theorem up_u32_hi (w : Nat) (h : w < 4294967296) (hc : w / 2147483648 = 1) : bits .xor .u32 ((w : Int) * 2 % 4294967296) 79764919 = (up w : Int) := by
  have e : ((w : Int) * 2 % 4294967296) = ((2 * w % 4294967296 : Nat) : Int) := by omega
  rw [e]
  refine (u32_xor_nat (2 * w % 4294967296) 79764919 (by omega) (by omega)).trans ?_
  unfold up; rw [if_pos hc]
theorem up_lo (w : Nat) (h : w < 4294967296) (hc : ¬ w / 2147483648 = 1) : (w : Int) * 2 = (up w : Int) := by
  unfold up; rw [if_neg hc]; omega
theorem up_i64_hi (w : Nat) (h : w < 4294967296) (hc : w / 2147483648 = 1) : bits .xor .i64 ((w : Int) * 2 % 4294967296) 79764919 = (up w : Int) := by
  have e : ((w : Int) * 2 % 4294967296) = ((2 * w % 4294967296 : Nat) : Int) := by omega
  rw [e]
  refine (i64_xor_nat (2 * w % 4294967296) 79764919 (by omega) (by omega)).trans ?_
  unfold up; rw [if_pos hc]

set_option maxHeartbeats 1000000 in
theorem crcEntry_any (b : Nat) (w : World) (hb : b < 256) :
    Calls Try.prog 61 #[.int .u8 b] w fun e w' => e = .returned (.int .u32 (entry b)) ∧ w' = w := by
  go_enter Try.func61, Try.ntmps61
  go_wp2
  go_loop [3, 8] (fun v i => ∃ k : Nat, k ≤ 8 ∧ i = .int .i64 k ∧ v = .int .u32 (upW k (b * 16777216))) (fun _ i => 8 - (intOf i).toNat)
  case atStart => exact ⟨0, by omega, rfl, by simp [upW]⟩
  case round =>
    obtain ⟨k, hk, rfl, rfl⟩ := hrel
    by_cases hlt : k < 8
    · obtain ⟨u, hu⟩ : ∃ u, u = upW k (b * 16777216) := ⟨_, rfl⟩
      have hul : u < 4294967296 := by rw [hu]; exact upW_lt _ _ (by omega)
      rw [← hu]
      have H := hidden hu; clear hu
      by_cases hc : u / 2147483648 = 1
      · go_wp2
        go_round
        case rel => exact ⟨k + 1, by omega, by go_num, by rw [upW_succ, ← H.out]; exact congrArg _ (up_u32_hi u hul hc)⟩
        case measure => simp [intOf]; omega
      · go_wp2
        go_round
        case rel => exact ⟨k + 1, by omega, by go_num, by rw [upW_succ, ← H.out]; exact congrArg _ (up_lo u hul hc)⟩
        case measure => simp [intOf]; omega
    · have hk8 : k = 8 := by omega
      subst hk8
      go_wp2
      go_ret
      exact ⟨rfl, rfl⟩

theorem isByte_any (b : Int) (w : World) (b1 : -9223372036854775808 ≤ b) (b2 : b ≤ 9223372036854775807) :
    Calls Try.prog 60 #[.int .i64 b] w fun e w' => e = .returned (.bool (decide (0 ≤ b ∧ b ≤ 255))) ∧ w' = w := by
  by_cases h0 : 0 ≤ b
  · by_cases h1 : b ≤ 255
    · go_enter Try.func60, Try.ntmps60
      go_wp2
      go_ret
      exact ⟨ret_bool (by simp; omega), rfl⟩
    · go_enter Try.func60, Try.ntmps60
      go_wp2
      go_ret
      exact ⟨ret_bool (by simp; omega), rfl⟩
  · go_enter Try.func60, Try.ntmps60
    go_wp2
    go_ret
    exact ⟨ret_bool (by simp; omega), rfl⟩
theorem isWord_any (b : Int) (w : World) (b1 : -9223372036854775808 ≤ b) (b2 : b ≤ 9223372036854775807) :
    Calls Try.prog 56 #[.int .i64 b] w fun e w' => e = .returned (.bool (decide (0 ≤ b ∧ b ≤ 4294967295))) ∧ w' = w := by
  by_cases h0 : 0 ≤ b
  · by_cases h1 : b ≤ 4294967295
    · go_enter Try.func56, Try.ntmps56
      go_wp2
      go_ret
      exact ⟨ret_bool (by simp; omega), rfl⟩
    · go_enter Try.func56, Try.ntmps56
      go_wp2
      go_ret
      exact ⟨ret_bool (by simp; omega), rfl⟩
  · go_enter Try.func56, Try.ntmps56
    go_wp2
    go_ret
    exact ⟨ret_bool (by simp; omega), rfl⟩
theorem l2word_any (b : Int) (w : World) (b1 : -9223372036854775808 ≤ b) (b2 : b ≤ 9223372036854775807) :
    Calls Try.prog 59 #[.int .i64 b] w fun e w' => e = .returned (.bool (decide (0 ≤ b ∧ b ≤ 4294967295))) ∧ w' = w := by
  by_cases h0 : 0 ≤ b
  · by_cases h1 : b ≤ 4294967295
    · go_enter Try.func59, Try.ntmps59
      go_wp2
      go_ret
      exact ⟨ret_bool (by simp; omega), rfl⟩
    · go_enter Try.func59, Try.ntmps59
      go_wp2
      go_ret
      exact ⟨ret_bool (by simp; omega), rfl⟩
  · go_enter Try.func59, Try.ntmps59
    go_wp2
    go_ret
    exact ⟨ret_bool (by simp; omega), rfl⟩

theorem mask32 (n : Int) : bits .and .i64 n 4294967295 = n % 4294967296 := i64_mask n 32 (by omega)
theorem l2up_any (x : Nat) (w : World) (hx : x < 4294967296) :
    Calls Try.prog 62 #[.int .i64 x] w fun e w' => e = .returned (.int .i64 (up x)) ∧ w' = w := by
  by_cases hc : x / 2147483648 = 1
  · go_enter Try.func62, Try.ntmps62
    go_wp2
    go_ret
    refine ⟨ret_int ?_, rfl⟩
    rw [mask32]
    exact up_i64_hi x hx hc
  · go_enter Try.func62, Try.ntmps62
    go_wp2
    go_ret
    refine ⟨ret_int ?_, rfl⟩
    rw [mask32, ← up_lo x hx hc]
    omega

/-- What CrcEntry answers. -/
def entI (b : Int) : Int := if 0 ≤ b ∧ b ≤ 255 then (entry b.toNat : Int) else -1
theorem entI_yes (b : Nat) (h : b < 256) : entI b = (entry b : Int) := by unfold entI; rw [if_pos (by omega)]; simp
theorem entI_no (b : Int) (h : ¬ (0 ≤ b ∧ b ≤ 255)) : entI b = -1 := by unfold entI; rw [if_neg h]
set_option maxHeartbeats 1000000 in
theorem specCrcEntry_any (b : Int) (w : World) (b1 : -9223372036854775808 ≤ b) (b2 : b ≤ 9223372036854775807) :
    Calls Try.prog 37 #[.int .i64 b] w fun e w' => e = .returned (.int .i64 (entI b)) ∧ w' = w := by
  by_cases h0 : 0 ≤ b
  · by_cases h1 : b ≤ 255
    · obtain ⟨m, rfl⟩ : ∃ m : Nat, b = m := ⟨b.toNat, by omega⟩
      have hm : m < 256 := by omega
      rw [entI_yes m hm]
      clear b1 b2 h0 h1
      go_enter Try.func37, Try.ntmps37
      go_wp2
      go_loop [3, 4] (fun v i => ∃ k : Nat, k ≤ 8 ∧ i = .int .i64 k ∧ v = .int .i64 (upW k (m * 16777216))) (fun _ i => 8 - (intOf i).toNat)
      case atStart => exact ⟨0, by omega, rfl, by simp [upW]⟩
      case round =>
        obtain ⟨k, hk, rfl, rfl⟩ := hrel
        by_cases hlt : k < 8
        · obtain ⟨u, hu⟩ : ∃ u, u = upW k (m * 16777216) := ⟨_, rfl⟩
          have hul : u < 4294967296 := by rw [hu]; exact upW_lt _ _ (by omega)
          rw [← hu]
          have H := hidden hu; clear hu
          go_wp2_with (go_at_call 62; refine (l2up_any u _ hul).mono ?_; rintro e w' ⟨rfl, rfl⟩)
          go_round
          case rel => exact ⟨k + 1, by omega, by go_num, by rw [upW_succ, ← H.out]⟩
          case measure => simp [intOf]; omega
        · have hk8 : k = 8 := by omega
          subst hk8
          go_wp2
          go_ret
          exact ⟨rfl, rfl⟩
    · rw [entI_no b (by omega)]
      go_enter Try.func37, Try.ntmps37
      go_wp2
      go_ret
      exact ⟨rfl, rfl⟩
  · rw [entI_no b (by omega)]
    go_enter Try.func37, Try.ntmps37
    go_wp2
    go_ret
    exact ⟨rfl, rfl⟩
set_option maxHeartbeats 1000000 in
theorem implCrcEntry_any (b : Int) (w : World) (b1 : -9223372036854775808 ≤ b) (b2 : b ≤ 9223372036854775807) :
    Calls Try.prog 29 #[.int .i64 b] w fun e w' => e = .returned (.int .i64 (entI b)) ∧ w' = w := by
  by_cases h : 0 ≤ b ∧ b ≤ 255
  · obtain ⟨m, rfl⟩ : ∃ m : Nat, b = m := ⟨b.toNat, by omega⟩
    have hm : m < 256 := by omega
    have hd : decide (0 ≤ (m : Int) ∧ (m : Int) ≤ 255) = true := by simp; omega
    have hel := entry_lt m hm
    rw [entI_yes m hm]
    clear h
    go_enter Try.func29, Try.ntmps29
    go_wp2_with (go_at_call 60; refine (isByte_any _ _ b1 b2).mono ?_; rintro e w' ⟨rfl, rfl⟩; rw [hd])
    go_wp2_with (go_at_call 61; refine (crcEntry_any m _ hm).mono ?_; rintro e w' ⟨rfl, rfl⟩)
    go_ret
    exact ⟨rfl, rfl⟩
  · have hd : decide (0 ≤ b ∧ b ≤ 255) = false := by simp; omega
    rw [entI_no b h]
    go_enter Try.func29, Try.ntmps29
    go_wp2_with (go_at_call 60; refine (isByte_any _ _ b1 b2).mono ?_; rintro e w' ⟨rfl, rfl⟩; rw [hd])
    go_ret
    exact ⟨rfl, rfl⟩
end Go.Proofs.Ytbfkbiembbbbpaa
