/- Chapter 6, the program: a number is read bit by bit; what is missing is told by an error that wraps the sentinel. -/
import Derived.Test.YtpngomjkapccdaaDoorGam
import Derived.Test.YtpngomjkapccdaaDoorC1Get
import Derived.Test.YtpngomjkapccdaaDoorC1Get2
import Derived.Test.YtpngomjkapccdaaDoorI6P
namespace Go.Proofs.YtpngomjkapccdaaDoor
set_option linter.unusedVariables false
set_option linter.unusedSimpArgs false
open Go.RowKit

theorem bel_only {a w : World} (h : Below a.heap.size a w) (g : Nat) : Only g a w := ⟨h.os, h.tape, h.output, h.size, fun i hi _ => h.block i hi⟩
theorem takeIf_yes (s : ByteArray) (p n b : Nat) (T : TypeId) (w : World) (hs : s.size ≤ 1048576) (hn : n ≤ 32) (hl : p + n ≤ 8 * s.size) (hb : Has w b T #[.string s, .int .i64 p]) :
    Calls Tryd.prog 37 #[.pointer (some ⟨b, 0, none⟩), .int .i64 n] w fun e w' =>
      e = .returned (.tuple #[.int .i64 (num (row s p n)), .nilIface]) ∧ Has w' b T #[.string s, .int .i64 ((p + n : Nat) : Int)] ∧ Only b w w' := by
  have K1 := hidden (implLeft_yes s p w hs (by omega))
  have K2 := hidden (fun (W : World) (h : Has W b T #[.string s, .int .i64 (p : Int)]) => take_any s p n b T W hs hn hl h)
  have c0 := hb.cell 0
  have c1 := hb.cell 1
  simp at c0 c1
  have hbl := hb.lt
  have HB := hidden hb
  have hx : ¬ (8 * (s.size : Int) - p < n) := by omega
  clear hb
  go_enter Tryd.func37, Tryd.ntmps37
  go_wp2_with fail
  refine K1.out.mono ?_
  rintro e w1 ⟨rfl, b1⟩
  have hB1 := HB.out.below b1 hbl
  have hO1 : Only b w w1 := bel_only b1 b
  clear c0 c1
  go_wp2_with fail
  refine (K2.out _ hB1).mono ?_
  rintro e w2 ⟨rfl, hB2, hO2⟩
  go_wp2
  exact bodyPost_ret (v := .tuple #[.int .i64 (num (row s p n)), .nilIface]) (by simp [results, Tryd.results37, go_sem]) rfl ⟨rfl, hB2, World.grownBy.trans hO1 hO2⟩
theorem takeIf_no (s : ByteArray) (p n b : Nat) (T : TypeId) (w : World) (hs : s.size ≤ 1048576) (hn : n ≤ 32) (hp : p ≤ 8 * s.size) (hl : 8 * s.size < p + n) (hb : Has w b T #[.string s, .int .i64 p]) :
    Calls Tryd.prog 37 #[.pointer (some ⟨b, 0, none⟩), .int .i64 n] w fun e w' =>
      ∃ m : Int, e = .returned (.tuple #[.int .i64 0, .iface 86 (.agg #[.int .i64 m])]) ∧ Has w' b T #[.string s, .int .i64 p] ∧ Only b w w' := by
  have K1 := hidden (implLeft_yes s p w hs (by omega))
  have c0 := hb.cell 0
  have c1 := hb.cell 1
  simp at c0 c1
  have hbl := hb.lt
  have HB := hidden hb
  have hx : (8 * (s.size : Int) - p < n) := by omega
  clear hb
  go_enter Tryd.func37, Tryd.ntmps37
  go_wp2_with fail
  refine K1.out.mono ?_
  rintro e w1 ⟨rfl, b1⟩
  have hB1 := HB.out.below b1 hbl
  have hO1 : Only b w w1 := bel_only b1 b
  clear c0 c1
  go_wp2
  exact bodyPost_ret (v := .tuple #[.int .i64 0, .iface 86 (.agg #[.int .i64 ((n : Int) - (8 * (s.size : Int) - p))])]) (by simp [results, Tryd.results37, go_sem]) rfl ⟨_, rfl, hB1, hO1⟩
/-- What reading a number answers, the reader being in block b. -/
def R6Post (s : ByteArray) (at0 b : Nat) (T : TypeId) (w : World) (e : Ending) (w' : World) : Prop :=
  ((∃ k n : Nat, Gam s at0 k n ∧ e = .returned (.tuple #[.int .i64 n, .nilIface]) ∧ Has w' b T #[.string s, .int .i64 ((at0 + (2 * k + 1) : Nat) : Int)]) ∨
   ((∀ k n, ¬ Gam s at0 k n) ∧ ((∃ m : Int, e = .returned (.tuple #[.int .i64 0, .iface 86 (.agg #[.int .i64 m])])) ∨ e = .returned (.tuple #[.int .i64 1048576, .nilIface])))) ∧ Only b w w'
theorem gam_ge2 {s : ByteArray} {a k j n : Nat} (h : Gam s a j n) (hz : ∀ i, i < k → bit s (a + i) = 0) : k ≤ j := by
  rcases Nat.lt_or_ge j k with hl | hl
  · have := hz j hl
    have := h.2.2.2.1
    omega
  · exact hl
theorem or_add {k v : Nat} (hk : k ≤ 20) (hv : v < 2 ^ k) : bits .or .i64 ((2 ^ k : Nat) : Int) (v : Int) = ((2 ^ k + v : Nat) : Int) := by
  have hp20 : 2 ^ k ≤ 2 ^ 20 := Nat.pow_le_pow_right (by omega) hk
  rw [i64_or_nat _ _ (by omega) (by omega)]
  have h := Nat.two_pow_add_eq_or_of_lt hv 1
  rw [Nat.mul_one] at h
  rw [h]
set_option maxHeartbeats 4000000 in
set_option maxRecDepth 100000 in
theorem gamma_any (s : ByteArray) (at0 b : Nat) (T : TypeId) (w : World) (hs : s.size ≤ 1048576) (ha : at0 ≤ 8 * s.size) (hb : Has w b T #[.string s, .int .i64 at0]) :
    Calls Tryd.prog 27 #[.pointer (some ⟨b, 0, none⟩)] w (R6Post s at0 b T w) := by
  have hbl := hb.lt
  have KZ : Hid (∀ W : World, Calls Tryd.prog 21 #[.int .i64 1048575] W fun e w' => e = .returned (.int .i64 19) ∧ w' = W) := hidden (fun W => by
    have h := zerosOf_any 1048575 W (by omega) (by omega)
    rw [show Nat.log2 1048575 = 19 by decide +kernel] at h
    exact h)
  have KY := hidden (fun (W : World) (p n : Nat) (hn : n ≤ 32) (hl : p + n ≤ 8 * s.size) (h : Has W b T #[.string s, .int .i64 p]) => takeIf_yes s p n b T W hs hn hl h)
  have KN := hidden (fun (W : World) (p n : Nat) (hn : n ≤ 32) (hp : p ≤ 8 * s.size) (hl : 8 * s.size < p + n) (h : Has W b T #[.string s, .int .i64 p]) => takeIf_no s p n b T W hs hn hp hl h)
  have HB := hidden hb
  clear hb
  go_enter Tryd.func27, Tryd.ntmps27
  go_wp2_with fail
  go_loopw [4, 5, 6, 7] (fun sk _ _ _ wr => ∃ k : Nat, k ≤ 20 ∧ sk = .int .i64 k ∧ at0 + k ≤ 8 * s.size ∧ Hid (∀ i, i < k → bit s (at0 + i) = 0) ∧ Has wr b T #[.string s, .int .i64 ((at0 + k : Nat) : Int)] ∧ Only b w wr) (fun sk _ _ _ _ => 20 - (intOf sk).toNat)
  case atStart => exact ⟨0, by omega, rfl, ha, hidden (fun i hi => by omega), HB.out, Only.refl _ _⟩
  case round =>
    obtain ⟨k, hk, rfl, hroom, HZ, hB, hO⟩ := hrel
    have hb2 := bit_lt s (at0 + k)
    by_cases hk20 : k ≤ 19
    · have hkI : (k : Int) ≤ 19 := by omega
      by_cases hr1 : at0 + k + 1 ≤ 8 * s.size
      · have K2 := hidden (KY.out wr (at0 + k) 1 (by omega) hr1 hB)
        rw [show num (row s (at0 + k) 1) = bit s (at0 + k) by simp [row, num]] at K2
        by_cases hb0 : bit s (at0 + k) = 0
        · have HZ2 : Hid (∀ i, i < k + 1 → bit s (at0 + i) = 0) := hidden (fun i hi => by
            rcases Nat.lt_or_ge i k with h | h
            · exact HZ.out i h
            · obtain rfl : i = k := by omega
              exact hb0)
          rw [hb0] at K2
          clear hb0 hb2 hB
          go_wp2_with fail
          refine (KZ.out _).mono ?_
          rintro e w1 ⟨rfl, rfl⟩
          go_wp2_with fail
          refine K2.out.mono ?_
          rintro e w2 ⟨rfl, hB2, hO2⟩
          have hO3 : Only b w w2 := World.grownBy.trans hO hO2
          clear hO hO2 K2
          go_wp2
          go_roundw
          case rel => exact ⟨k + 1, by omega, by go_num, by omega, HZ2, by rw [← Nat.add_assoc]; exact hB2, hO3⟩
          case measure => simp [intOf]; omega
        · have hb1 : bit s (at0 + k) = 1 := by omega
          rw [hb1] at K2
          have HON := hidden (fun j n (h : Gam s at0 j n) => gam_zeros h HZ.out hb1)
          by_cases hr2 : at0 + k + 1 + k ≤ 8 * s.size
          · have HGM : Hid (Gam s at0 k (2 ^ k + num (row s (at0 + k + 1) k))) := hidden ⟨by omega, by omega, (num_zero_bits k).2 HZ.out, hb1, rfl⟩
            have HOR := hidden (or_add (k := k) (by omega) (num_row_lt s (at0 + k + 1) k))
            have K3 := hidden (fun (W : World) (h : Has W b T #[.string s, .int .i64 ((at0 + k + 1 : Nat) : Int)]) => KY.out W (at0 + k + 1) k (by omega) hr2 h)
            have hp20 : 2 ^ k ≤ 2 ^ 20 := Nat.pow_le_pow_right (by omega) (by omega)
            obtain ⟨v, hvv⟩ : ∃ v, num (row s (at0 + k + 1) k) = v := ⟨_, rfl⟩
            obtain ⟨p, hp⟩ : ∃ p, 2 ^ k = p := ⟨_, rfl⟩
            have hwd : Value.int .i64 (wrap64 (2 ^ k)) = Value.int .i64 (p : Int) := by
              rw [show ((2 : Int) ^ k) = ((2 ^ k : Nat) : Int) by simp, hp, wrap64_n _ (by omega)]
            rw [hvv] at K3 HGM HOR
            rw [hp] at HGM hp20 HOR
            clear hvv hp hb0 hb1 hb2 hB
            go_wp2_with fail
            refine (KZ.out _).mono ?_
            rintro e w1 ⟨rfl, rfl⟩
            go_wp2_with fail
            refine K2.out.mono ?_
            rintro e w2 ⟨rfl, hB2, hO2⟩
            have hO3 : Only b w w2 := World.grownBy.trans hO hO2
            clear hO hO2 K2
            go_wp2_with fail
            refine (K3.out _ hB2).mono ?_
            rintro e w3 ⟨rfl, hB3, hO4⟩
            have hO5 : Only b w w3 := World.grownBy.trans hO3 hO4
            clear hO3 hO4 K3
            go_wp2
            exact bodyPost_ret (v := .tuple #[.int .i64 ((p + v : Nat) : Int), .nilIface]) (by simp [results, Tryd.results27, go_sem]; exact HOR.out) rfl ⟨.inl ⟨k, p + v, HGM.out, rfl, by rw [show at0 + (2 * k + 1) = at0 + k + 1 + k by omega]; exact hB3⟩, hO5⟩
          · have HNX : Hid (∀ j n, ¬ Gam s at0 j n) := hidden (fun j n h => by
              have e := HON.out j n h
              have := gam_row h
              subst e; omega)
            have K3 := hidden (fun (W : World) (h : Has W b T #[.string s, .int .i64 ((at0 + k + 1 : Nat) : Int)]) => KN.out W (at0 + k + 1) k (by omega) hr1 (by omega) h)
            clear hb0 hb1 hb2 hB hr2
            go_wp2_with fail
            refine (KZ.out _).mono ?_
            rintro e w1 ⟨rfl, rfl⟩
            go_wp2_with fail
            refine K2.out.mono ?_
            rintro e w2 ⟨rfl, hB2, hO2⟩
            have hO3 : Only b w w2 := World.grownBy.trans hO hO2
            clear hO hO2 K2
            go_wp2_with fail
            refine (K3.out _ hB2).mono ?_
            rintro e w3 ⟨m, rfl, hB3, hO4⟩
            have hO5 : Only b w w3 := World.grownBy.trans hO3 hO4
            clear hO3 hO4 K3
            go_wp2
            exact bodyPost_ret (v := .tuple #[.int .i64 0, .iface 86 (.agg #[.int .i64 m])]) (by simp [results, Tryd.results27, go_sem]) rfl ⟨.inr ⟨HNX.out, .inl ⟨m, rfl⟩⟩, hO5⟩
      · have HNX : Hid (∀ j n, ¬ Gam s at0 j n) := hidden (fun j n h => by
          have h1 := gam_ge2 h HZ.out
          have := gam_row h
          omega)
        have K3 := hidden (KN.out wr (at0 + k) 1 (by omega) hroom (by omega) hB)
        clear hb2 hB hr1
        go_wp2_with fail
        refine (KZ.out _).mono ?_
        rintro e w1 ⟨rfl, rfl⟩
        go_wp2_with fail
        refine K3.out.mono ?_
        rintro e w3 ⟨m, rfl, hB3, hO4⟩
        have hO5 : Only b w w3 := World.grownBy.trans hO hO4
        clear hO hO4 K3
        go_wp2
        exact bodyPost_ret (v := .tuple #[.int .i64 0, .iface 86 (.agg #[.int .i64 m])]) (by simp [results, Tryd.results27, go_sem]) rfl ⟨.inr ⟨HNX.out, .inl ⟨m, rfl⟩⟩, hO5⟩
    · have hkI : ¬ (k : Int) ≤ 19 := by omega
      have HNX : Hid (∀ j n, ¬ Gam s at0 j n) := hidden (fun j n h => by
        have h1 := gam_ge2 h HZ.out
        have := h.1
        omega)
      clear hb2 hB
      go_wp2_with fail
      refine (KZ.out _).mono ?_
      rintro e w1 ⟨rfl, rfl⟩
      go_wp2
      exact bodyPost_ret (v := .tuple #[.int .i64 1048576, .nilIface]) (by simp [results, Tryd.results27, go_sem]) rfl ⟨.inr ⟨HNX.out, .inr rfl⟩, hO⟩
end Go.Proofs.YtpngomjkapccdaaDoor
