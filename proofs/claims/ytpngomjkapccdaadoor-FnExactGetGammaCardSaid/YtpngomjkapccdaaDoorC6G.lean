/- Chapter 6: numbers are read (the model). -/
import Derived.Test.YtpngomjkapccdaaDoorGam
import Derived.Test.YtpngomjkapccdaaDoorC1LGet
import Derived.Test.YtpngomjkapccdaaDoorC1SRd0
import Derived.Maps.AppendAt
import Derived.RegionTactic
import Derived.ChangeAlike
import Derived.Deep.LoopGhost
namespace Go.Proofs.YtpngomjkapccdaaDoor
set_option linter.unusedVariables false
set_option linter.unusedSimpArgs false
open Go.RowKit

theorem gam_ge {s : ByteArray} {a k j n : Nat} (h : Gam s a j n) (hz : ∀ i, i < k → bit s (a + i) = 0) : k ≤ j := by
  rcases Nat.lt_or_ge j k with hl | hl
  · have := hz j hl
    have := h.2.2.2.1
    omega
  · exact hl
/-- What reading a number answers, the reader being in block b. -/
def L6Post (s : ByteArray) (at0 b : Nat) (T : TypeId) (w : World) (e : Ending) (w' : World) : Prop :=
  ((∃ k n : Nat, Gam s at0 k n ∧ e = .returned (.int .i64 n) ∧ Has w' b T #[.string s, .int .i64 ((at0 + (2 * k + 1) : Nat) : Int)]) ∨
   ((∀ k n, ¬ Gam s at0 k n) ∧ e = .returned (.int .i64 0))) ∧ Only b w w'
theorem l6post_no {s : ByteArray} {at0 b : Nat} {T : TypeId} {w w' : World} (h : ∀ k n, ¬ Gam s at0 k n) (ho : Only b w w') : L6Post s at0 b T w (.returned (.int .i64 0)) w' := ⟨.inr ⟨h, rfl⟩, ho⟩
/-- Where the reader stands, and what was read last. -/
def L6At (s : ByteArray) (at0 b : Nat) (T : TypeId) (k : Nat) (x : Int) (w : World) : Prop :=
  (at0 + k + 1 ≤ 8 * s.size ∧ x = (bit s (at0 + k) : Int) ∧ Has w b T #[.string s, .int .i64 ((at0 + k + 1 : Nat) : Int)]) ∨ (8 * s.size < at0 + k + 1 ∧ x = -1 ∧ ∃ c : Int, Has w b T #[.string s, .int .i64 c])
theorem l6bit (s : ByteArray) (at0 k b : Nat) (T : TypeId) (w : World) (hs : s.size ≤ 1048576) (ha : at0 + k ≤ 8 * s.size) (hb : Has w b T #[.string s, .int .i64 ((at0 + k : Nat) : Int)]) :
    Calls Tryd.prog 40 #[.pointer (some ⟨b, 0, none⟩), .int .i64 1] w fun e w' => ∃ x : Int, e = .returned (.int .i64 x) ∧ L6At s at0 b T k x w' ∧ Only b w w' := by
  by_cases h : at0 + k + 1 ≤ 8 * s.size
  · have h1 := l1get_yes s (at0 + k) 1 b T w hs (by omega) h hb
    refine h1.mono ?_
    rintro e w' ⟨rfl, hB, hO⟩
    exact ⟨_, rfl, .inl ⟨h, by simp [row, num], hB⟩, hO⟩
  · have h1 := l1get_none s (at0 + k) 1 b T w hs (by omega) ha (by omega) hb
    refine h1.mono ?_
    rintro e w' ⟨rfl, q, rfl⟩
    exact ⟨_, rfl, .inr ⟨by omega, rfl, _, hb.drewN q⟩, (Only.refl _ _).drewN q⟩
set_option maxHeartbeats 4000000 in
set_option maxRecDepth 100000 in
theorem l6get_any (s : ByteArray) (at0 b : Nat) (T : TypeId) (w : World) (hs : s.size ≤ 1048576) (ha : at0 ≤ 8 * s.size) (hb : Has w b T #[.string s, .int .i64 at0]) :
    Calls Tryd.prog 30 #[.pointer (some ⟨b, 0, none⟩)] w (L6Post s at0 b T w) := by
  have hbl := hb.lt
  have K1 := hidden (fun (W : World) (k : Nat) (h : at0 + k ≤ 8 * s.size) (hB : Has W b T #[.string s, .int .i64 ((at0 + k : Nat) : Int)]) => l6bit s at0 k b T W hs h hB)
  have c0 := hb.cell 0
  have c1 := hb.cell 1
  simp at c0 c1
  have HB := hidden hb
  have K0 := hidden (K1.out w 0 (by omega) hb)
  clear hb
  go_enter Tryd.func30, Tryd.ntmps30
  go_wp2_with fail
  refine K0.out.mono ?_
  rintro e w1 ⟨x, rfl, hA, hO⟩
  clear c0 c1
  go_wp2
  go_loopg [4, 5] 21 (fun g sk sx wr => ∃ (k : Nat) (x : Int), Hid (k + g = 21) ∧ k ≤ 20 ∧ sk = .int .i64 k ∧ sx = .int .i64 x ∧ Hid (∀ i, i < k → bit s (at0 + i) = 0) ∧ L6At s at0 b T k x wr ∧ Only b w wr)
  case atStart => exact ⟨0, x, hidden rfl, by omega, rfl, rfl, hidden (fun i hi => by omega), hA, hO⟩
  case round =>
    obtain ⟨k, x, HG, hk, rfl, rfl, HZ, hA, hO⟩ := hrel
    rcases hA with ⟨hroom, hx, hB⟩ | ⟨hroom, rfl, c, hB⟩
    · have hb2 := bit_lt s (at0 + k)
      by_cases hb0 : bit s (at0 + k) = 0
      · rw [hb0] at hx
        subst hx
        have HZ2 : Hid (∀ i, i < k + 1 → bit s (at0 + i) = 0) := hidden (fun i hi => by
          rcases Nat.lt_or_ge i k with h | h
          · exact HZ.out i h
          · obtain rfl : i = k := by omega
            exact hb0)
        by_cases hk20 : k < 20
        · have hkI : (k : Int) < 20 := by omega
          have K2 := hidden (K1.out wr (k + 1) (by omega) (by rw [← Nat.add_assoc]; exact hB))
          clear hb0 hb2 hB hroom
          go_wp2_with fail
          refine K2.out.mono ?_
          rintro e w2 ⟨x2, rfl, hA2, hO2⟩
          have hO3 : Only b w w2 := World.grownBy.trans hO hO2
          clear hO hO2 K2
          go_wp2
          go_roundg (gk - 1)
          case measure => have := HG.out; omega
          case rel => exact ⟨k + 1, x2, hidden (by have := HG.out; omega), by omega, by go_num, rfl, HZ2, hA2, hO3⟩
        · have hkI : ¬ (k : Int) < 20 := by omega
          have HNX : Hid (∀ j n, ¬ Gam s at0 j n) := hidden (fun j n h => by have := gam_ge h HZ2.out; have := h.1; omega)
          clear hb0 hb2 hroom
          have r0 := hB.cell 0
          have r1 := hB.cell 1
          have f1 := hB.free 1
          simp at r0 r1
          go_wp2
          go_ret
          exact l6post_no HNX.out (hO.store (.inl rfl) _)
      · have hb1 : bit s (at0 + k) = 1 := by omega
        rw [hb1] at hx
        subst hx
        by_cases hk20 : k < 20
        · have hkI : (k : Int) < 20 := by omega
          have HON := hidden (fun j n (h : Gam s at0 j n) => gam_zeros h HZ.out hb1)
          by_cases hr2 : at0 + k + 1 + k ≤ 8 * s.size
          · have K2 := hidden (l1get_yes s (at0 + k + 1) k b T wr hs (by omega) hr2 hB)
            have HGM : Hid (Gam s at0 k (2 ^ k + num (row s (at0 + k + 1) k))) := hidden ⟨by omega, by omega, (num_zero_bits k).2 HZ.out, hb1, rfl⟩
            have hv := num_row_lt s (at0 + k + 1) k
            have hp20 : 2 ^ k ≤ 2 ^ 20 := Nat.pow_le_pow_right (by omega) (by omega)
            obtain ⟨v, hvv⟩ : ∃ v, num (row s (at0 + k + 1) k) = v := ⟨_, rfl⟩
            obtain ⟨p, hp⟩ : ∃ p, 2 ^ k = p := ⟨_, rfl⟩
            have hwd : Value.int .i64 (wrap64 (2 ^ k)) = Value.int .i64 (p : Int) := by
              rw [show ((2 : Int) ^ k) = ((2 ^ k : Nat) : Int) by simp, hp, wrap64_n _ (by omega)]
            rw [hvv] at K2 HGM hv
            rw [hp] at HGM hv hp20
            have hv0 : ¬ (v : Int) < 0 := by omega
            clear hvv hp hb0 hb1 hb2 hB hroom
            go_wp2_with fail
            refine K2.out.mono ?_
            rintro e w2 ⟨rfl, hB2, hO2⟩
            have hO3 : Only b w w2 := World.grownBy.trans hO hO2
            clear hO hO2 K2
            go_wp2
            go_ret
            refine ⟨.inl ⟨k, p + v, HGM.out, ?_, ?_⟩, hO3⟩
            · go_num
            · rw [show at0 + (2 * k + 1) = at0 + k + 1 + k by omega]; exact hB2
          · have HNX : Hid (∀ j n, ¬ Gam s at0 j n) := hidden (fun j n h => by
              have e := HON.out j n h
              have := gam_row h
              subst e; omega)
            have K2 := hidden (l1get_none s (at0 + k + 1) k b T wr hs (by omega) hroom (by omega) hB)
            have HBX := hidden hB
            clear hb0 hb1 hb2 hB hr2 HON
            go_wp2_with fail
            refine K2.out.mono ?_
            rintro e w2 ⟨rfl, q, rfl⟩
            have hB3 := HBX.out.drewN q
            have hO3 := hO.drewN q
            have r0 := hB3.cell 0
            have r1 := hB3.cell 1
            have f1 := hB3.free 1
            simp at r0 r1
            go_wp2
            go_ret
            exact l6post_no HNX.out (hO3.store (.inl rfl) _)
        · have hkI : ¬ (k : Int) < 20 := by omega
          have HNX : Hid (∀ j n, ¬ Gam s at0 j n) := hidden (fun j n h => by have := gam_ge h HZ.out; have := h.1; omega)
          clear hb0 hb1 hb2 hroom
          have r0 := hB.cell 0
          have r1 := hB.cell 1
          have f1 := hB.free 1
          simp at r0 r1
          go_wp2
          go_ret
          exact l6post_no HNX.out (hO.store (.inl rfl) _)
    · have HNX : Hid (∀ j n, ¬ Gam s at0 j n) := hidden (fun j n h => by have := gam_ge h HZ.out; have := h.2.1; omega)
      clear hroom
      have r0 := hB.cell 0
      have r1 := hB.cell 1
      have f1 := hB.free 1
      simp at r0 r1
      go_wp2
      go_ret
      exact l6post_no HNX.out (hO.store (.inl rfl) _)
end Go.Proofs.YtpngomjkapccdaaDoor
