/- Chapter 1: what the functions that read bits answer. -/
import Derived.Test.YtbfkbiembbbbpaaBase
import Derived.Test.YtbfkbiembbbbpaaMath

namespace Go.Proofs.Ytbfkbiembbbbpaa
set_option linter.unusedVariables false
set_option linter.unusedSimpArgs false
open Go.RowKit

theorem ret_int {k : IntKind} {a b : Int} (h : a = b) : Ending.returned (.int k a) = .returned (.int k b) := by rw [h]
theorem ret_bool {a b : Bool} (h : a = b) : Ending.returned (.bool a) = .returned (.bool b) := by rw [h]

theorem l1one_any (s : ByteArray) (k : Nat) (w : World) (hs : s.size ≤ maxLen) (hk : k / 8 < s.size) :
    Calls Try.prog 66 #[.string s, .int .i64 k] w fun e w' => e = .returned (.int .u8 (bit s k)) ∧ w = w' := by
  unfold maxLen at hs
  go_enter Try.func66, Try.ntmps66
  go_wp2
  go_ret
  refine ⟨ret_int ?_, rfl⟩
  have h1 : s[k / 8].toNat / 2 ^ (7 - k % 8) < 256 := Nat.lt_of_le_of_lt (Nat.div_le_self _ _) (UInt8.toNat_lt _)
  have h2 := u8_and_nat _ 1 h1 (by omega)
  rw [nat_mask1] at h2
  rw [bit, ← byteAt_get _ _ hk, ← h2]
  simp

theorem okB_no {s : ByteArray} {n : Int} (h : ¬ (0 ≤ n ∧ n ≤ 400000 ∧ s.size = (n.toNat + 7) / 8)) : okB s n = false := by
  rw [Bool.eq_false_iff, Ne, okB_iff]; omega

theorem implBitsOk_any (s : ByteArray) (n : Int) (w : World) (hs : s.size ≤ maxLen) (b1 : -9223372036854775808 ≤ n) (b2 : n ≤ 9223372036854775807) :
    Calls Try.prog 18 #[.agg #[.string s, .int .i64 n]] w fun e w' => e = .returned (.bool (okB s n)) ∧ Below w.heap.size w w' := by
  unfold maxLen at hs
  by_cases h0 : n < 0
  · rw [okB_no (by omega)]
    go_enter Try.func18, Try.ntmps18
    go_wp2
    go_ret
    exact ⟨rfl, (Below.refl _ _).alloc (Nat.le_refl _) _⟩
  · obtain ⟨m, rfl⟩ : ∃ m : Nat, n = m := ⟨n.toNat, by omega⟩
    by_cases h1 : 400000 < m
    · rw [okB_no (by omega)]
      go_enter Try.func18, Try.ntmps18
      go_wp2
      go_ret
      exact ⟨rfl, (Below.refl _ _).alloc (Nat.le_refl _) _⟩
    · by_cases h2 : s.size = (m + 7) / 8
      · by_cases h3 : m % 8 = 0
        · have H : okB s m = true := by
            rw [okB_nat]; exact ⟨by omega, h2, fun k hk hn => by omega⟩
          rw [H]; clear H
          go_enter Try.func18, Try.ntmps18
          go_wp2
          go_ret
          exact ⟨rfl, (Below.refl _ _).alloc (Nat.le_refl _) _⟩
        · have hp : s.size - 1 < s.size := by omega
          have hp' : (m + 7) / 8 - 1 < s.size := by omega
          have H : Hid (okB s m = (((s[(m + 7) / 8 - 1].toNat : Int) * 2 ^ (m % 8) % 256) == 0)) := hidden (by
            rw [Bool.eq_iff_iff, okB_nat, beq_iff_eq]
            have g := tail_byte s m h2 h3
            have e8 : s.size - 1 = (m + 7) / 8 - 1 := by omega
            rw [e8, ← byteAt_get _ _ hp'] at g
            have g2 : ((s[(m + 7) / 8 - 1].toNat : Int) * 2 ^ (m % 8) % 256 = 0) ↔ s[(m + 7) / 8 - 1].toNat * 2 ^ (m % 8) % 256 = 0 := by
              rw [show ((s[(m + 7) / 8 - 1].toNat : Int) * 2 ^ (m % 8) % 256) = ((s[(m + 7) / 8 - 1].toNat * 2 ^ (m % 8) % 256 : Nat) : Int) by simp]
              omega
            rw [g2, g]
            exact ⟨fun h => h.2.2, fun h => ⟨by omega, h2, h⟩⟩)
          go_enter Try.func18, Try.ntmps18
          go_wp2
          go_ret
          refine ⟨ret_bool ?_, (Below.refl _ _).alloc (Nat.le_refl _) _⟩
          rw [H.out]
          have : ((m : Int) % 8 == 0) = false := by simp; omega
          rw [this, Bool.false_or]
      · rw [okB_no (by simp; omega)]
        have h2' : ((s.size : Int) != ((m : Int) + 7) / 8) = true := by simp; omega
        have h2'' : ((s.size : Int) == ((m : Int) + 7) / 8) = false := by simp; omega
        go_enter Try.func18, Try.ntmps18
        go_wp2
        go_ret
        exact ⟨rfl, (Below.refl _ _).alloc (Nat.le_refl _) _⟩
theorem specBitsOk_any (s : ByteArray) (n : Int) (w : World) (hs : s.size ≤ maxLen) (b1 : -9223372036854775808 ≤ n) (b2 : n ≤ 9223372036854775807) :
    Calls Try.prog 46 #[.agg #[.string s, .int .i64 n]] w fun e w' => e = .returned (.bool (okB s n)) ∧ Below w.heap.size w w' := by
  have hs' := hs
  unfold maxLen at hs
  by_cases h0 : n < 0
  · rw [okB_no (by omega)]
    go_enter Try.func46, Try.ntmps46
    go_wp2
    go_ret
    exact ⟨rfl, (Below.refl _ _).alloc (Nat.le_refl _) _⟩
  · obtain ⟨m, rfl⟩ : ∃ m : Nat, n = m := ⟨n.toNat, by omega⟩
    by_cases h1 : 400000 < m
    · rw [okB_no (by omega)]
      go_enter Try.func46, Try.ntmps46
      go_wp2
      go_ret
      exact ⟨rfl, (Below.refl _ _).alloc (Nat.le_refl _) _⟩
    · by_cases h2 : s.size = (m + 7) / 8
      · have H2 : Hid (s.size = (m + 7) / 8) := hidden h2
        have hsz : s.size ≤ 50001 := by omega
        have h2a : ((s.size : Int) == ((m : Int) + 7) / 8) = true := by simp; omega
        have h2b : ((s.size : Int) != ((m : Int) + 7) / 8) = false := by simp; omega
        clear h2
        go_enter Try.func46, Try.ntmps46
        go_wp2
        clear h2a h2b
        go_loop [3] (fun i => ∃ k : Nat, m ≤ k ∧ k ≤ 8 * s.size ∧ i = .int .i64 k ∧ Hid (∀ j, j < k → m ≤ j → bit s j = 0)) (fun i => 8 * s.size - (intOf i).toNat)
        case atStart => exact ⟨m, Nat.le_refl _, by have := H2.out; omega, rfl, hidden fun j h1 h2 => by omega⟩
        case round =>
          obtain ⟨k, hk1, hk2, rfl, hk⟩ := hrel
          by_cases hlt : k < 8 * s.size
          · by_cases hb : bit s k = 0
            · have hb' : ((bit s k : Int) != 0) = false := by simp; omega
              have HB := hidden hb; clear hb
              go_wp2_with (go_at_call 66; refine (l1one_any _ _ _ hs' (by omega)).mono ?_; rintro e w' ⟨rfl, rfl⟩)
              go_round
              case rel => exact ⟨k + 1, by omega, by omega, by go_num, hidden fun j g1 g2 => by
                rcases Nat.lt_or_ge j k with g | g
                · exact hk.out j g g2
                · obtain rfl : j = k := by omega
                  exact HB.out⟩
              case measure => simp [intOf]; omega
            · have hb' : ((bit s k : Int) != 0) = true := by simp; omega
              have H : Hid (okB s m = false) := hidden (by
                rw [Bool.eq_false_iff, Ne, okB_nat]
                exact fun g => hb (g.2.2 k hlt hk1))
              clear hb
              go_wp2_with (go_at_call 66; refine (l1one_any _ _ _ hs' (by omega)).mono ?_; rintro e w' ⟨rfl, rfl⟩)
              go_ret
              exact ⟨ret_bool H.out.symm, (Below.refl _ _).alloc (Nat.le_refl _) _⟩
          · have H : Hid (okB s m = true) := hidden (by
              rw [okB_nat]
              exact ⟨by omega, H2.out, fun j g1 g2 => hk.out j (by omega) g2⟩)
            go_wp2
            go_ret
            exact ⟨ret_bool H.out.symm, (Below.refl _ _).alloc (Nat.le_refl _) _⟩
      · rw [okB_no (by simp; omega)]
        have h2' : ((s.size : Int) != ((m : Int) + 7) / 8) = true := by simp; omega
        have h2'' : ((s.size : Int) == ((m : Int) + 7) / 8) = false := by simp; omega
        go_enter Try.func46, Try.ntmps46
        go_wp2
        go_ret
        exact ⟨rfl, (Below.refl _ _).alloc (Nat.le_refl _) _⟩

end Go.Proofs.Ytbfkbiembbbbpaa
