/- Chapter 2: a string's check sum, by the table and by the model. -/
import Derived.Test.YtbfkbiembbbbpaaC2Tab
namespace Go.Proofs.Ytbfkbiembbbbpaa
set_option linter.unusedVariables false
set_option linter.unusedSimpArgs false
open Go.RowKit

set_option maxHeartbeats 1000000 in
set_option maxRecDepth 1000000 in
theorem crcOver_any (m : Nat) (s : ByteArray) (w : World) (hm : m < 4294967296) (hs : s.size ≤ maxLen) :
    Calls Try.prog 57 #[.agg (tabK 256), .int .u32 m, .string s] w fun e w' => e = .returned (.int .u32 (crcL m (bytesOf s))) ∧ Below w.heap.size w w' := by
  unfold maxLen at hs
  obtain ⟨T, hT⟩ : ∃ T, T = tabK 256 := ⟨_, rfl⟩
  have HT : Hid (∀ k, k < 256 → T[k]? = some (.int .u32 (entry k))) := hidden (by rw [hT]; exact tabK_get)
  rw [← hT]
  clear hT
  go_enter Try.func57, Try.ntmps57
  go_wp2
  go_loopw [1, 10] (fun v i wr => ∃ k : Nat, k ≤ s.size ∧ i = .int .i64 k ∧ v = .int .u32 (crcK m s k) ∧ Has wr w.heap.size 80 T ∧ Below w.heap.size w wr) (fun _ i _ => s.size - (intOf i).toNat)
  case atStart => exact ⟨0, by omega, rfl, by rw [crcK_zero], Has.fresh _ _ _, (Below.refl _ _).alloc (Nat.le_refl _) _⟩
  case round =>
    obtain ⟨k, hk, rfl, rfl, hB, hb⟩ := hrel
    by_cases hlt : k < s.size
    · obtain ⟨u, hu⟩ : ∃ u, u = crcK m s k := ⟨_, rfl⟩
      have hul : u < 4294967296 := by rw [hu]; exact crcK_lt _ _ _ hm
      have hx : s[k].toNat < 256 := UInt8.toNat_lt _
      have ht := top_lt u s[k].toNat hul hx
      have c := hB.cell (top u s[k].toNat)
      rw [HT.out _ ht] at c
      have f := hB.free (top u s[k].toNat)
      rw [← hu]
      have H := hidden hu; clear hu
      have htu := top_u8 u s[k].toNat hul hx
      have hsu := hidden (step_u32 u s[k].toNat hul hx)
      go_wp2
      go_round
      case rel => exact ⟨k + 1, by omega, by go_num, by rw [crcK_succ _ _ _ hlt, ← H.out, ← hsu.out], hB, hb⟩
      case measure => simp [intOf]; omega
    · have hk8 : k = s.size := by omega
      subst hk8
      have hK := hidden (crcK_all m s)
      go_wp2
      go_ret
      refine ⟨?_, hb⟩
      exact (ret_int (by rw [hK.out]))

set_option maxHeartbeats 1000000 in
set_option maxRecDepth 1000000 in
theorem implCrcFrom_any (m : Int) (s : ByteArray) (w : World) (m1 : -9223372036854775808 ≤ m) (m2 : m ≤ 9223372036854775807) (hs : s.size ≤ maxLen) :
    Calls Try.prog 24 #[.int .i64 m, .string s] w fun e w' => e = .returned (.int .i64 (crcI m s)) ∧ Below w.heap.size w w' := by
  by_cases h : 0 ≤ m ∧ m ≤ 4294967295
  · have hd : decide (0 ≤ m ∧ m ≤ 4294967295) = true := by simp; omega
    obtain ⟨m', rfl⟩ : ∃ q : Nat, m = q := ⟨m.toNat, by omega⟩
    have hm : m' < 4294967296 := by omega
    have hcl := crcL_lt m' (bytesOf s) hm (bytesOf_lt s)
    rw [crcI_yes _ _ hm]
    obtain ⟨T, hT⟩ : ∃ T, T = tabK 256 := ⟨_, rfl⟩
    have HT : Hid (T = tabK 256) := hidden hT
    clear hT h
    go_enter Try.func24, Try.ntmps24
    go_wp2_with (go_at_call 56; refine (isWord_any _ _ (by omega) (by omega)).mono ?_; rintro e w' ⟨rfl, rfl⟩; rw [hd])
    go_wp2_with (go_at_call 58; refine (newCrcTable_any _).mono ?_; rintro e w1 ⟨rfl, B1⟩; rw [← HT.out])
    go_wp2_with (go_at_call 57; rw [HT.out]; refine (crcOver_any m' s _ hm hs).mono ?_; rintro e w2 ⟨rfl, B2⟩)
    go_ret
    exact ⟨rfl, B1.trans (B2.mono B1.size)⟩
  · have hd : decide (0 ≤ m ∧ m ≤ 4294967295) = false := by simp; omega
    rw [crcI_no _ _ h]
    go_enter Try.func24, Try.ntmps24
    go_wp2_with (go_at_call 56; refine (isWord_any _ _ (by omega) (by omega)).mono ?_; rintro e w' ⟨rfl, rfl⟩; rw [hd])
    go_ret
    exact ⟨rfl, Below.refl _ _⟩

/-- What Crc answers. -/
def crcN (s : ByteArray) : Nat := crcL 4294967295 (bytesOf s) ^^^ 4294967295
theorem crcN_lt (s : ByteArray) : crcN s < 4294967296 := xor_lt32 (crcL_lt _ _ (by omega) (bytesOf_lt s)) (by omega)
theorem crcI_all (s : ByteArray) : crcI 4294967295 s = (crcL 4294967295 (bytesOf s) : Int) := crcI_yes 4294967295 s (by omega)
theorem crc_xor (s : ByteArray) : bits .xor .i64 (crcL 4294967295 (bytesOf s) : Int) 4294967295 = (crcN s : Int) :=
  i64_xor_nat (crcL 4294967295 (bytesOf s)) 4294967295 (by have := crcL_lt 4294967295 (bytesOf s) (by omega) (bytesOf_lt s); omega) (by omega)
theorem specCrc_any (s : ByteArray) (w : World) (hs : s.size ≤ maxLen) :
    Calls Try.prog 33 #[.string s] w fun e w' => e = .returned (.int .i64 (crcN s)) ∧ w' = w := by
  have H := hidden (crc_xor s)
  go_enter Try.func33, Try.ntmps33
  go_wp2_with (go_at_call 25; refine (specCrcFrom_any 4294967295 s _ (by omega) (by omega) hs).mono ?_; rintro e w' ⟨rfl, rfl⟩; rw [crcI_all])
  go_ret
  exact ⟨ret_int H.out, rfl⟩
theorem implCrc_any (s : ByteArray) (w : World) (hs : s.size ≤ maxLen) :
    Calls Try.prog 32 #[.string s] w fun e w' => e = .returned (.int .i64 (crcN s)) ∧ Below w.heap.size w w' := by
  have H := hidden (crc_xor s)
  go_enter Try.func32, Try.ntmps32
  go_wp2_with (go_at_call 24; refine (implCrcFrom_any 4294967295 s _ (by omega) (by omega) hs).mono ?_; rintro e w1 ⟨rfl, B⟩; rw [crcI_all])
  go_ret
  exact ⟨ret_int H.out, B⟩
end Go.Proofs.Ytbfkbiembbbbpaa
