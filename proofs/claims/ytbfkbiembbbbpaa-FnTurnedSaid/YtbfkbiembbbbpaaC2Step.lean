/- Chapter 2: one step of the check sum, and a string by the model. -/
import Derived.Test.YtbfkbiembbbbpaaC2
import Derived.Test.YtbfkbiembbbbpaaMath2
import Derived.RegionTactic
import Derived.ChangeAlike
import Derived.Deep.QuietTactic
import Derived.BigQuiet
namespace Go.Proofs.Ytbfkbiembbbbpaa
set_option linter.unusedVariables false
set_option linter.unusedSimpArgs false
open Go.RowKit

/-- What CrcStep answers. -/
def stepI (w b : Int) : Int := if (0 ≤ w ∧ w ≤ 4294967295) ∧ 0 ≤ b ∧ b ≤ 255 then (step w.toNat b.toNat : Int) else -1
theorem stepI_yes (w b : Nat) (h : w < 4294967296) (hb : b < 256) : stepI w b = (step w b : Int) := by unfold stepI; rw [if_pos (by omega)]; simp
theorem stepI_no (w b : Int) (h : ¬ ((0 ≤ w ∧ w ≤ 4294967295) ∧ 0 ≤ b ∧ b ≤ 255)) : stepI w b = -1 := by unfold stepI; rw [if_neg h]
theorem start_step (w b : Nat) (hw : w < 4294967296) (hb : b < 256) : bits .xor .i64 (w : Int) ((b : Int) * 16777216) = (upW 0 (w ^^^ b * 16777216) : Int) :=
  (congrArg (bits .xor .i64 (w : Int)) (show ((b : Int) * 16777216) = ((b * 16777216 : Nat) : Int) by omega)).trans (i64_xor_nat w (b * 16777216) (by omega) (by omega))
set_option maxHeartbeats 1000000 in
theorem specCrcStep_yes (m b : Nat) (w : World) (hm : m < 4294967296) (hb : b < 256) :
    Calls Try.prog 30 #[.int .i64 m, .int .i64 b] w fun e w' => e = .returned (.int .i64 (step m b)) ∧ w' = w := by
  have hd : decide (0 ≤ (m : Int) ∧ (m : Int) ≤ 4294967295) = true := by simp; omega
  go_enter Try.func30, Try.ntmps30
  go_wp2_with (go_at_call 59; refine (l2word_any _ _ (by omega) (by omega)).mono ?_; rintro e w' ⟨rfl, rfl⟩; rw [hd])
  go_loop [5, 6] (fun v i => ∃ k : Nat, k ≤ 8 ∧ i = .int .i64 k ∧ v = .int .i64 (upW k (m ^^^ b * 16777216))) (fun _ i => 8 - (intOf i).toNat)
  case atStart => exact ⟨0, by omega, rfl, congrArg _ (start_step m b hm hb)⟩
  case round =>
    obtain ⟨k, hk, rfl, rfl⟩ := hrel
    by_cases hlt : k < 8
    · obtain ⟨u, hu⟩ : ∃ u, u = upW k (m ^^^ b * 16777216) := ⟨_, rfl⟩
      have hul : u < 4294967296 := by rw [hu]; exact upW_lt _ _ (xor_lt32 hm (by omega))
      rw [← hu]
      have H := hidden hu; clear hu
      go_wp2_with (go_at_call 62; refine (l2up_any u _ hul).mono ?_; rintro e w' ⟨rfl, rfl⟩)
      go_round
      case rel => exact ⟨k + 1, by omega, by go_num, by rw [upW_succ, ← H.out]⟩
      case measure => simp [intOf]; omega
    · have hk8 : k = 8 := by omega
      subst hk8
      go_wp2
      go_ret
      exact ⟨rfl, rfl⟩
theorem specCrcStep_any (m b : Int) (w : World) (m1 : -9223372036854775808 ≤ m) (m2 : m ≤ 9223372036854775807) (b1 : -9223372036854775808 ≤ b) (b2 : b ≤ 9223372036854775807) :
    Calls Try.prog 30 #[.int .i64 m, .int .i64 b] w fun e w' => e = .returned (.int .i64 (stepI m b)) ∧ w' = w := by
  by_cases h : 0 ≤ m ∧ m ≤ 4294967295
  · have hd : decide (0 ≤ m ∧ m ≤ 4294967295) = true := by simp; omega
    by_cases h0 : 0 ≤ b
    · by_cases h1 : b ≤ 255
      · obtain ⟨m', rfl⟩ : ∃ q : Nat, m = q := ⟨m.toNat, by omega⟩
        obtain ⟨b', rfl⟩ : ∃ q : Nat, b = q := ⟨b.toNat, by omega⟩
        rw [stepI_yes _ _ (by omega) (by omega)]
        exact specCrcStep_yes _ _ _ (by omega) (by omega)
      · rw [stepI_no _ _ (by omega)]
        go_enter Try.func30, Try.ntmps30
        go_wp2_with (go_at_call 59; refine (l2word_any _ _ (by omega) (by omega)).mono ?_; rintro e w' ⟨rfl, rfl⟩; rw [hd])
        go_ret
        exact ⟨rfl, rfl⟩
    · rw [stepI_no _ _ (by omega)]
      go_enter Try.func30, Try.ntmps30
      go_wp2_with (go_at_call 59; refine (l2word_any _ _ (by omega) (by omega)).mono ?_; rintro e w' ⟨rfl, rfl⟩; rw [hd])
      go_ret
      exact ⟨rfl, rfl⟩
  · have hd : decide (0 ≤ m ∧ m ≤ 4294967295) = false := by simp; omega
    rw [stepI_no _ _ (by omega)]
    go_enter Try.func30, Try.ntmps30
    go_wp2_with (go_at_call 59; refine (l2word_any _ _ (by omega) (by omega)).mono ?_; rintro e w' ⟨rfl, rfl⟩; rw [hd])
    go_ret
    exact ⟨rfl, rfl⟩

/-- The table's row: the highest byte against the byte taken in. -/
def top (m b : Nat) : Nat := m / 16777216 ^^^ b
theorem top_lt (m b : Nat) (hm : m < 4294967296) (hb : b < 256) : top m b < 256 := Nat.xor_lt_two_pow (n := 8) (by omega) hb
theorem top_u8 (m b : Nat) (hm : m < 4294967296) (hb : b < 256) : bits .xor .u8 ((m : Int) / 16777216) (b : Int) = (top m b : Int) :=
  (congrArg (fun z => bits .xor .u8 z (b : Int)) (show ((m : Int) / 16777216) = ((m / 16777216 : Nat) : Int) by omega)).trans (u8_xor_nat (m / 16777216) b (by omega) hb)
theorem step_u32 (m b : Nat) (hm : m < 4294967296) (hb : b < 256) : bits .xor .u32 ((m : Int) * 256 % 4294967296) (entry (top m b) : Int) = (step m b : Int) := by
  rw [step_table m b hm hb]
  exact (congrArg (fun z => bits .xor .u32 z (entry (top m b) : Int)) (show ((m : Int) * 256 % 4294967296) = ((m * 256 % 4294967296 : Nat) : Int) by omega)).trans (u32_xor_nat _ _ (by omega) (entry_lt _ (top_lt m b hm hb)))
set_option maxHeartbeats 1000000 in
theorem implCrcStep_any (m b : Int) (w : World) (m1 : -9223372036854775808 ≤ m) (m2 : m ≤ 9223372036854775807) (b1 : -9223372036854775808 ≤ b) (b2 : b ≤ 9223372036854775807) :
    Calls Try.prog 28 #[.int .i64 m, .int .i64 b] w fun e w' => e = .returned (.int .i64 (stepI m b)) ∧ w' = w := by
  by_cases h : 0 ≤ m ∧ m ≤ 4294967295
  · have hd : decide (0 ≤ m ∧ m ≤ 4294967295) = true := by simp; omega
    by_cases h0 : 0 ≤ b ∧ b ≤ 255
    · have hd2 : decide (0 ≤ b ∧ b ≤ 255) = true := by simp; omega
      obtain ⟨m', rfl⟩ : ∃ q : Nat, m = q := ⟨m.toNat, by omega⟩
      obtain ⟨b', rfl⟩ : ∃ q : Nat, b = q := ⟨b.toNat, by omega⟩
      have hm : m' < 4294967296 := by omega
      have hb : b' < 256 := by omega
      rw [stepI_yes _ _ hm hb]
      have ht := top_lt m' b' hm hb
      have hst := step_lt m' b' hm hb
      clear h h0
      go_enter Try.func28, Try.ntmps28
      go_wp2_with (go_at_call 56; refine (isWord_any _ _ (by omega) (by omega)).mono ?_; rintro e w' ⟨rfl, rfl⟩; rw [hd])
      go_wp2_with (go_at_call 60; refine (isByte_any _ _ (by omega) (by omega)).mono ?_; rintro e w' ⟨rfl, rfl⟩; rw [hd2])
      go_wp2_with (go_at_call 61; rw [top_u8 m' b' hm hb]; refine (crcEntry_any (top m' b') _ ht).mono ?_; rintro e w' ⟨rfl, rfl⟩)
      go_ret
      exact ⟨ret_int (by rw [step_u32 m' b' hm hb]; exact wrap64_n _ (by omega)), rfl⟩
    · have hd2 : decide (0 ≤ b ∧ b ≤ 255) = false := by simp; omega
      rw [stepI_no _ _ (by omega)]
      go_enter Try.func28, Try.ntmps28
      go_wp2_with (go_at_call 56; refine (isWord_any _ _ (by omega) (by omega)).mono ?_; rintro e w' ⟨rfl, rfl⟩; rw [hd])
      go_wp2_with (go_at_call 60; refine (isByte_any _ _ (by omega) (by omega)).mono ?_; rintro e w' ⟨rfl, rfl⟩; rw [hd2])
      go_ret
      exact ⟨rfl, rfl⟩
  · have hd : decide (0 ≤ m ∧ m ≤ 4294967295) = false := by simp; omega
    rw [stepI_no _ _ (by omega)]
    go_enter Try.func28, Try.ntmps28
    go_wp2_with (go_at_call 56; refine (isWord_any _ _ (by omega) (by omega)).mono ?_; rintro e w' ⟨rfl, rfl⟩; rw [hd])
    go_ret
    exact ⟨rfl, rfl⟩

/-- What CrcFrom answers. -/
def crcI (m : Int) (s : ByteArray) : Int := if 0 ≤ m ∧ m ≤ 4294967295 then (crcL m.toNat (bytesOf s) : Int) else -1
theorem bytesOf_lt (s : ByteArray) : ∀ b ∈ bytesOf s, b < 256 := by
  intro b hb
  simp only [bytesOf, List.mem_map] at hb
  obtain ⟨x, _, rfl⟩ := hb
  exact UInt8.toNat_lt x
theorem crcI_yes (m : Nat) (s : ByteArray) (h : m < 4294967296) : crcI m s = (crcL m (bytesOf s) : Int) := by unfold crcI; rw [if_pos (by omega)]; simp
theorem crcI_no (m : Int) (s : ByteArray) (h : ¬ (0 ≤ m ∧ m ≤ 4294967295)) : crcI m s = -1 := by unfold crcI; rw [if_neg h]
/-- The first k bytes taken in. -/
def crcK (m : Nat) (s : ByteArray) (k : Nat) : Nat := crcL m ((bytesOf s).take k)
theorem crcK_zero (m : Nat) (s : ByteArray) : crcK m s 0 = m := by simp [crcK, crcL]
theorem crcK_lt (m : Nat) (s : ByteArray) (k : Nat) (h : m < 4294967296) : crcK m s k < 4294967296 := crcL_lt _ _ h fun b hb => bytesOf_lt s b (List.mem_of_mem_take hb)
theorem crcK_succ (m : Nat) (s : ByteArray) (k : Nat) (h : k < s.size) : crcK m s (k + 1) = step (crcK m s k) s[k].toNat := by
  have hl : k < (bytesOf s).length := by rw [bytesOf_len]; exact h
  have e : (bytesOf s)[k] = s[k].toNat := by
    rw [byteAt_get, ← bytesOf_get]; simp [List.getD_eq_getElem?_getD, hl]
  unfold crcK
  rw [List.take_succ_eq_append_getElem hl, crcL_snoc, e]
theorem crcK_all (m : Nat) (s : ByteArray) : crcK m s s.size = crcL m (bytesOf s) := by
  unfold crcK; rw [List.take_of_length_le (by rw [bytesOf_len]; exact Nat.le_refl _)]
set_option maxHeartbeats 1000000 in
theorem specCrcFrom_any (m : Int) (s : ByteArray) (w : World) (m1 : -9223372036854775808 ≤ m) (m2 : m ≤ 9223372036854775807) (hs : s.size ≤ maxLen) :
    Calls Try.prog 25 #[.int .i64 m, .string s] w fun e w' => e = .returned (.int .i64 (crcI m s)) ∧ w' = w := by
  unfold maxLen at hs
  by_cases h : 0 ≤ m ∧ m ≤ 4294967295
  · have hd : decide (0 ≤ m ∧ m ≤ 4294967295) = true := by simp; omega
    obtain ⟨m', rfl⟩ : ∃ q : Nat, m = q := ⟨m.toNat, by omega⟩
    have hm : m' < 4294967296 := by omega
    rw [crcI_yes _ _ hm]
    go_enter Try.func25, Try.ntmps25
    go_wp2_with (go_at_call 59; refine (l2word_any _ _ (by omega) (by omega)).mono ?_; rintro e w' ⟨rfl, rfl⟩; rw [hd])
    go_loop [0, 5] (fun v i => ∃ k : Nat, k ≤ s.size ∧ i = .int .i64 k ∧ v = .int .i64 (crcK m' s k)) (fun _ i => s.size - (intOf i).toNat)
    case atStart => exact ⟨0, by omega, rfl, by rw [crcK_zero]⟩
    case round =>
      obtain ⟨k, hk, rfl, rfl⟩ := hrel
      by_cases hlt : k < s.size
      · obtain ⟨u, hu⟩ : ∃ u, u = crcK m' s k := ⟨_, rfl⟩
        have hul : u < 4294967296 := by rw [hu]; exact crcK_lt _ _ _ hm
        have hb : s[k].toNat < 256 := UInt8.toNat_lt _
        rw [← hu]
        have H := hidden hu; clear hu
        go_wp2_with (go_at_call 30; refine (specCrcStep_yes u s[k].toNat _ hul hb).mono ?_; rintro e w' ⟨rfl, rfl⟩)
        go_round
        case rel => exact ⟨k + 1, by omega, by go_num, by rw [crcK_succ _ _ _ hlt, ← H.out]⟩
        case measure => simp [intOf]; omega
      · have hk8 : k = s.size := by omega
        subst hk8
        have hK := hidden (crcK_all m' s)
        go_wp2
        go_ret
        exact ⟨ret_int (by rw [hK.out]), rfl⟩
  · have hd : decide (0 ≤ m ∧ m ≤ 4294967295) = false := by simp; omega
    rw [crcI_no _ _ h]
    go_enter Try.func25, Try.ntmps25
    go_wp2_with (go_at_call 59; refine (l2word_any _ _ (by omega) (by omega)).mono ?_; rintro e w' ⟨rfl, rfl⟩; rw [hd])
    go_ret
    exact ⟨rfl, rfl⟩
end Go.Proofs.Ytbfkbiembbbbpaa
