/- Merged: I6P, I6R. -/
import Derived.Test.YtaaahmfkdiogkaaQM12
import Derived.Test.YtaaahmfkdiogkaaQM19
import Derived.Test.YtaaahmfkdiogkaaQM1
import Derived.Test.YtaaahmfkdiogkaaQM5
import Derived.Lib.Strings
import Derived.Lib.Slices
import Derived.Lib.Small
import Derived.Lib.Walk
import Derived.Lib.BitFns
namespace Go.Proofs.Ytaaahmfkdiogkaa
set_option linter.unusedVariables false
set_option linter.unusedSimpArgs false
open Go.RowKit

theorem bitLen_byte : ∀ n : Fin 256, n.val ≠ 0 → Lib.bitLen n.val = Nat.log2 n.val + 1 := by decide +kernel
theorem log_256 {n : Nat} (h : 256 ≤ n) : Nat.log2 n = Nat.log2 (n / 256) + 8 := by
  rw [log_half (n := n) (by omega), log_half (n := n / 2) (by omega), log_half (n := n / 2 / 2) (by omega), log_half (n := n / 2 / 2 / 2) (by omega), log_half (n := n / 2 / 2 / 2 / 2) (by omega),
    log_half (n := n / 2 / 2 / 2 / 2 / 2) (by omega), log_half (n := n / 2 / 2 / 2 / 2 / 2 / 2) (by omega), log_half (n := n / 2 / 2 / 2 / 2 / 2 / 2 / 2) (by omega)]
  rw [show n / 2 / 2 / 2 / 2 / 2 / 2 / 2 / 2 = n / 256 by omega]
theorem len8_log (b : Nat) (h0 : b ≠ 0) (h1 : b ≤ 255) : Lib.len8 (b : Int) = ((Nat.log2 b + 1 : Nat) : Int) := by
  rw [Lib.len8_of _ (by omega) (by omega), Int.toNat_natCast, bitLen_byte ⟨b, by omega⟩ h0]
theorem len8_any (x : Int) (h0 : 1 ≤ x) (h1 : x ≤ 255) : Lib.len8 x = ((Nat.log2 x.toNat + 1 : Nat) : Int) := by
  obtain ⟨b, rfl⟩ : ∃ b : Nat, x = b := ⟨x.toNat, by omega⟩
  rw [len8_log b (by omega) (by omega), Int.toNat_natCast]
theorem tab_get (i : Int) (h : i.toNat < Lib.len8tab.size) : (Lib.len8tab[i.toNat].toNat : Int) = Lib.len8 i := by
  unfold Lib.len8
  rw [getElem?_pos Lib.len8tab i.toNat h]
  rfl
theorem log_8 (x : Int) (h : 256 ≤ x) : Nat.log2 x.toNat = Nat.log2 (x / 256).toNat + 8 := by
  rw [log_256 (n := x.toNat) (by omega), show x.toNat / 256 = (x / 256).toNat by omega]
theorem log_16 (x : Int) (h : 65536 ≤ x) : Nat.log2 x.toNat = Nat.log2 (x / 65536).toNat + 16 := by
  rw [log_8 x (by omega), log_8 (x / 256) (by omega), show x / 256 / 256 = x / 65536 by omega]
theorem log_lt (x : Int) (h0 : 1 ≤ x) (h1 : x ≤ 1048575) : Nat.log2 x.toNat ≤ 19 := log_le (by omega) (by omega)
theorem gamL_two (n : Nat) : nbits 0 (Nat.log2 n) ++ nbits n (Nat.log2 n + 1) = gamL n := by
  have h := log_up n
  unfold gamL
  rw [show 2 * Nat.log2 n + 1 = Nat.log2 n + (Nat.log2 n + 1) by omega, nbits_add n (Nat.log2 n) (Nat.log2 n + 1), Nat.div_eq_of_lt h, Nat.mod_eq_of_lt h]
end Go.Proofs.Ytaaahmfkdiogkaa
namespace Go.Proofs.Ytaaahmfkdiogkaa
set_option linter.unusedVariables false
set_option linter.unusedSimpArgs false
open Go.RowKit

theorem bel_only {a w : World} (h : Below a.heap.size a w) (g : Nat) : Only g a w := ⟨h.os, h.tape, h.output, h.size, fun i hi _ => h.block i hi⟩
theorem takeIf_yes (s : ByteArray) (p n b : Nat) (T : TypeId) (w : World) (hs : s.size ≤ 1048576) (hn : n ≤ 32) (hl : p + n ≤ 8 * s.size) (hb : Has w b T #[.string s, .int .i64 p]) :
    Calls Try.prog 111 #[.pointer (some ⟨b, 0, none⟩), .int .i64 n] w fun e w' =>
      e = .returned (.tuple #[.int .i64 (num (row s p n)), .nilIface]) ∧ Has w' b T #[.string s, .int .i64 ((p + n : Nat) : Int)] ∧ Only b w w' := by
  have K1 := hidden (implLeft_yes s p w hs (by omega))
  have K2 := hidden (fun (W : World) (h : Has W b T #[.string s, .int .i64 (p : Int)]) => take_any s p n b T W hs hn hl h)
  have c0 := hb.cell 0
  have c1 := hb.cell 1
  simp at c0 c1
  have hbl := hb.lt
  have HB := hidden hb
  have hx : ¬ (8 * (s.size : Int) - p < n) := by omega
  clear hb
  go_enter Try.func111, Try.ntmps111
  go_wp2_with fail
  refine K1.out.mono ?_
  rintro e w1 ⟨rfl, b1⟩
  have hB1 := HB.out.below b1 hbl
  have hO1 : Only b w w1 := bel_only b1 b
  clear c0 c1
  go_wp2_with fail
  refine (K2.out _ hB1).mono ?_
  rintro e w2 ⟨rfl, hB2, hO2⟩
  go_wp2
  exact bodyPost_ret (v := .tuple #[.int .i64 (num (row s p n)), .nilIface]) (by simp [results, Try.results111, go_sem]) rfl ⟨rfl, hB2, World.grownBy.trans hO1 hO2⟩
theorem takeIf_no (s : ByteArray) (p n b : Nat) (T : TypeId) (w : World) (hs : s.size ≤ 1048576) (hn : n ≤ 32) (hp : p ≤ 8 * s.size) (hl : 8 * s.size < p + n) (hb : Has w b T #[.string s, .int .i64 p]) :
    Calls Try.prog 111 #[.pointer (some ⟨b, 0, none⟩), .int .i64 n] w fun e w' =>
      ∃ m : Int, e = .returned (.tuple #[.int .i64 0, .iface 170 (.agg #[.int .i64 m])]) ∧ Has w' b T #[.string s, .int .i64 p] ∧ Only b w w' := by
  have K1 := hidden (implLeft_yes s p w hs (by omega))
  have c0 := hb.cell 0
  have c1 := hb.cell 1
  simp at c0 c1
  have hbl := hb.lt
  have HB := hidden hb
  have hx : (8 * (s.size : Int) - p < n) := by omega
  clear hb
  go_enter Try.func111, Try.ntmps111
  go_wp2_with fail
  refine K1.out.mono ?_
  rintro e w1 ⟨rfl, b1⟩
  have hB1 := HB.out.below b1 hbl
  have hO1 : Only b w w1 := bel_only b1 b
  clear c0 c1
  go_wp2
  exact bodyPost_ret (v := .tuple #[.int .i64 0, .iface 170 (.agg #[.int .i64 ((n : Int) - (8 * (s.size : Int) - p))])]) (by simp [results, Try.results111, go_sem]) rfl ⟨_, rfl, hB1, hO1⟩
/-- What reading a number answers, the reader being in block b. -/
def R6Post (s : ByteArray) (at0 b : Nat) (T : TypeId) (w : World) (e : Ending) (w' : World) : Prop :=
  ((∃ k n : Nat, Gam s at0 k n ∧ e = .returned (.tuple #[.int .i64 n, .nilIface]) ∧ Has w' b T #[.string s, .int .i64 ((at0 + (2 * k + 1) : Nat) : Int)]) ∨
   ((∀ k n, ¬ Gam s at0 k n) ∧ ((∃ m : Int, e = .returned (.tuple #[.int .i64 0, .iface 170 (.agg #[.int .i64 m])])) ∨ e = .returned (.tuple #[.int .i64 1048576, .nilIface])))) ∧ Only b w w'
theorem gam_ge2 {s : ByteArray} {a k j n : Nat} (h : Gam s a j n) (hz : ∀ i, i < k → bit s (a + i) = 0) : k ≤ j := by
  rcases Nat.lt_or_ge j k with hl | hl
  · have := hz j hl
    have := h.2.2.2.1
    omega
  · exact hl
theorem or_add {k v : Nat} (hk : k ≤ 20) (hv : v < 2 ^ k) : bits .or .i64 ((2 ^ k : Nat) : Int) (v : Int) = ((2 ^ k + v : Nat) : Int) := by
  have hp20 : 2 ^ k ≤ 2 ^ 20 := Nat.pow_le_pow_right (by omega) hk
  rw [i64_or_nat _ _ (by omega) (by omega)]
  have h := Nat.two_pow_add_eq_or_of_lt hv 1
  rw [Nat.mul_one] at h
  rw [h]
end Go.Proofs.Ytaaahmfkdiogkaa
