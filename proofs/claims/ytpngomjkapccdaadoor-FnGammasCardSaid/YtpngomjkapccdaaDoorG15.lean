/- Texts of one reach, one behind the other: I6P, I6R. What each is about stands in its theorems. -/
import Derived.Test.YtpngomjkapccdaaDoorG5
import Derived.Test.YtpngomjkapccdaaDoorG13
import Derived.Test.YtpngomjkapccdaaDoorG3
import Derived.Test.YtpngomjkapccdaaDoorG4
import Derived.Lib.BitFns
import Derived.Lib.Slices
import Derived.Lib.Small
import Derived.Lib.Strings
import Derived.Lib.Walk
namespace Go.Proofs.YtpngomjkapccdaaDoor
set_option linter.unusedVariables false
set_option linter.unusedSimpArgs false
open Go.RowKit

theorem bitLen_byte : ∀ n : Fin 256, n.val ≠ 0 → Lib.bitLen n.val = Nat.log2 n.val + 1 := by decide +kernel
theorem log_256 {n : Nat} (h : 256 ≤ n) : Nat.log2 n = Nat.log2 (n / 256) + 8 := by
  rw [log_half (n := n) (by omega), log_half (n := n / 2) (by omega), log_half (n := n / 2 / 2) (by omega), log_half (n := n / 2 / 2 / 2) (by omega), log_half (n := n / 2 / 2 / 2 / 2) (by omega),
    log_half (n := n / 2 / 2 / 2 / 2 / 2) (by omega), log_half (n := n / 2 / 2 / 2 / 2 / 2 / 2) (by omega), log_half (n := n / 2 / 2 / 2 / 2 / 2 / 2 / 2) (by omega)]
  rw [show n / 2 / 2 / 2 / 2 / 2 / 2 / 2 / 2 = n / 256 by omega]
theorem len8_log (b : Nat) (h0 : b ≠ 0) (h1 : b ≤ 255) : Lib.len8 (b : Int) = ((Nat.log2 b + 1 : Nat) : Int) := by
  rw [Lib.len8_of _ (by omega) (by omega), Int.toNat_natCast, bitLen_byte ⟨b, by omega⟩ h0]
theorem len8_any (x : Int) (h0 : 1 ≤ x) (h1 : x ≤ 255) : Lib.len8 x = ((Nat.log2 x.toNat + 1 : Nat) : Int) := by
  obtain ⟨b, rfl⟩ : ∃ b : Nat, x = b := ⟨x.toNat, by omega⟩
  rw [len8_log b (by omega) (by omega), Int.toNat_natCast]
theorem tab_get (i : Int) (h : i.toNat < Lib.len8tab.size) : (Lib.len8tab[i.toNat].toNat : Int) = Lib.len8 i := by
  unfold Lib.len8
  rw [getElem?_pos Lib.len8tab i.toNat h]
  rfl
theorem log_8 (x : Int) (h : 256 ≤ x) : Nat.log2 x.toNat = Nat.log2 (x / 256).toNat + 8 := by
  rw [log_256 (n := x.toNat) (by omega), show x.toNat / 256 = (x / 256).toNat by omega]
theorem log_16 (x : Int) (h : 65536 ≤ x) : Nat.log2 x.toNat = Nat.log2 (x / 65536).toNat + 16 := by
  rw [log_8 x (by omega), log_8 (x / 256) (by omega), show x / 256 / 256 = x / 65536 by omega]
theorem log_lt (x : Int) (h0 : 1 ≤ x) (h1 : x ≤ 1048575) : Nat.log2 x.toNat ≤ 19 := log_le (by omega) (by omega)
set_option maxHeartbeats 4000000 in
set_option maxRecDepth 100000 in
theorem len64_small (x : Int) (w : World) (h1 : 1 ≤ x) (h2 : x ≤ 1048575) :
    Calls Tryd.prog 43 #[.int .u64 x] w fun e w' => e = .returned (.int .i64 ((Nat.log2 x.toNat + 1 : Nat) : Int)) ∧ w' = w := by
  have H1 := hidden h1
  have H2 := hidden h2
  have h3 : 0 ≤ x := by omega
  have h4 : x ≤ 18446744073709551615 := by omega
  clear h1 h2
  go_enter Tryd.func43, Tryd.ntmps43
  have hz := hidden Lib.len8tab_size
  go_wp2
  all_goals first
    | (exfalso; have := hz.out; omega)
    | (go_ret; refine ⟨congrArg Ending.returned (congrArg (Value.int IntKind.i64) ?_), rfl⟩; have := H1.out; have := H2.out)
  all_goals first
    | (exfalso; omega)
    | (have hs := hz.out
       have hl := log_lt (x / 65536) (by omega) (by omega)
       rw [tab_get _ (by omega), len8_any _ (by omega) (by omega), wrap64_n _ (by omega), log_16 x (by omega), IntWalk.wrap64_in _ (by omega)]
       omega)
    | (have hs := hz.out
       have hl := log_lt (x / 256) (by omega) (by omega)
       rw [tab_get _ (by omega), len8_any _ (by omega) (by omega), wrap64_n _ (by omega), log_8 x (by omega), IntWalk.wrap64_in _ (by omega)]
       omega)
    | (have hs := hz.out
       have hl := log_lt x (by omega) (by omega)
       rw [tab_get _ (by omega), len8_any _ (by omega) (by omega), wrap64_n _ (by omega), wrap64_n _ (by omega)])
set_option maxHeartbeats 4000000 in
theorem zerosOf_any (n : Nat) (w : World) (h1 : 1 ≤ n) (h2 : n ≤ 1048575) :
    Calls Tryd.prog 21 #[.int .i64 n] w fun e w' => e = .returned (.int .i64 (Nat.log2 n)) ∧ w' = w := by
  have hk := log_le h1 h2
  have K := hidden (fun W => len64_small n W (by omega) (by omega))
  rw [Int.toNat_natCast] at K
  obtain ⟨x, hx⟩ : ∃ x : Int, (n : Int) = x := ⟨_, rfl⟩
  obtain ⟨g, hg⟩ : ∃ g, Nat.log2 n = g := ⟨_, rfl⟩
  rw [hg] at hk K ⊢
  rw [hx] at K ⊢
  have hx0 : 1 ≤ x := by omega
  have hx1 : x ≤ 1048575 := by omega
  clear hx hg h1 h2
  have KL : Hid (∀ W : World, Calls Tryd.prog 35 #[.int .u64 x] W fun e w' => e = .returned (.int .i64 ((g + 1 : Nat) : Int)) ∧ w' = W) := hidden (fun W => by
    go_enter Tryd.func35, Tryd.ntmps35
    go_wp2_with fail
    refine (K.out _).mono ?_
    rintro e w1 ⟨rfl, rfl⟩
    go_wp2
    go_ret
    exact ⟨rfl, rfl⟩)
  go_enter Tryd.func21, Tryd.ntmps21
  go_wp2_with fail
  refine (KL.out _).mono ?_
  rintro e w1 ⟨rfl, rfl⟩
  go_wp2
  go_ret
  exact ⟨by go_num, rfl⟩
theorem hasGamma_any (n : Int) (w : World) :
    Calls Tryd.prog 18 #[.int .i64 n] w fun e w' => e = .returned (.bool (gamOk n)) ∧ w' = w := by
  have HF : Hid (gamOk n = decide (1 ≤ n ∧ n ≤ 1048575)) := hidden rfl
  by_cases h1 : 1 ≤ n
  · by_cases h2 : n ≤ 1048575
    · go_enter Tryd.func18, Tryd.ntmps18
      go_wp2
      go_ret
      exact ⟨by rw [HF.out, decide_eq_true (by omega)]; rfl, rfl⟩
    · go_enter Tryd.func18, Tryd.ntmps18
      go_wp2
      go_ret
      exact ⟨by rw [HF.out, decide_eq_false (by omega)]; rfl, rfl⟩
  · go_enter Tryd.func18, Tryd.ntmps18
    go_wp2
    go_ret
    exact ⟨by rw [HF.out, decide_eq_false (by omega)]; rfl, rfl⟩
theorem implGammaBits_any (n : Int) (w : World) :
    Calls Tryd.prog 7 #[.int .i64 n] w fun e w' => e = .returned (.int .i64 (gamB n)) ∧ Below w.heap.size w w' := by
  have K0 := hidden (fun W => hasGamma_any n W)
  by_cases h : gamOk n = true
  · have hr := (gamOk_iff n).1 h
    obtain ⟨q, rfl⟩ : ∃ q : Nat, n = q := ⟨n.toNat, by omega⟩
    have K1 := hidden (fun W => zerosOf_any q W (by omega) (by omega))
    have hk := log_le (n := q) (by omega) (by omega)
    have HF : Hid (gamB q = 2 * (Nat.log2 q : Int) + 1) := hidden (by unfold gamB; rw [if_pos h, Int.toNat_natCast, gamL_len]; omega)
    obtain ⟨g, hg⟩ : ∃ g, Nat.log2 q = g := ⟨_, rfl⟩
    rw [hg] at hk K1 HF
    rw [h] at K0
    obtain ⟨x, hx⟩ : ∃ x : Int, (q : Int) = x := ⟨_, rfl⟩
    rw [hx] at hr K0 K1 HF ⊢
    clear hg h hx
    go_enter Tryd.func7, Tryd.ntmps7
    go_wp2_with fail
    refine (K0.out _).mono ?_
    rintro e w1 ⟨rfl, rfl⟩
    go_wp2_with fail
    refine (K1.out _).mono ?_
    rintro e w1 ⟨rfl, rfl⟩
    go_wp2
    go_ret
    exact ⟨ret_int HF.out.symm, Below.refl _ _⟩
  · have HF : Hid (gamB n = -1) := hidden (by unfold gamB; rw [if_neg h])
    have h2 : gamOk n = false := by simpa using h
    rw [h2] at K0
    clear h h2
    go_enter Tryd.func7, Tryd.ntmps7
    go_wp2_with fail
    refine (K0.out _).mono ?_
    rintro e w1 ⟨rfl, rfl⟩
    go_wp2
    go_ret
    exact ⟨ret_int HF.out.symm, Below.refl _ _⟩
theorem gamL_two (n : Nat) : nbits 0 (Nat.log2 n) ++ nbits n (Nat.log2 n + 1) = gamL n := by
  have h := log_up n
  unfold gamL
  rw [show 2 * Nat.log2 n + 1 = Nat.log2 n + (Nat.log2 n + 1) by omega, nbits_add n (Nat.log2 n) (Nat.log2 n + 1), Nat.div_eq_of_lt h, Nat.mod_eq_of_lt h]
set_option maxHeartbeats 2000000 in
theorem implPutGamma_yes (n : Nat) (w : World) (h1 : 1 ≤ n) (h2 : n ≤ 1048575) :
    Calls Tryd.prog 6 #[.int .i64 n] w fun e w' => ∃ D, Packs D (gamL n) ∧ e = .returned (.agg #[.string (strOf D), .int .i64 ((gamL n).length : Int)]) ∧ Below w.heap.size w w' := by
  have bb : Below w.heap.size w (w.alloc (.cells #[.string ⟨#[]⟩, .int .i64 0] 25)) := (Below.refl _ _).alloc (Nat.le_refl _) _
  have hR := Has.fresh w 25 #[.string ⟨#[]⟩, .int .i64 0]
  have K0 := hidden (fun W => hasGamma_any n W)
  rw [(gamOk_iff n).2 (by omega)] at K0
  have K1 := hidden (fun W => zerosOf_any n W h1 h2)
  have K4 := hidden (fun (W : World) => writerOf_any ⟨#[]⟩ 0 W (by decide))
  have hk := log_le h1 h2
  have HL := hidden (gamL_two n)
  have HU := hidden (log_up n)
  have HLL := hidden (gamL_len n)
  obtain ⟨P, hP⟩ : ∃ P, gamL n = P := ⟨_, rfl⟩
  obtain ⟨k, hg⟩ : ∃ k, Nat.log2 n = k := ⟨_, rfl⟩
  rw [hP] at HL HLL ⊢
  rw [hg] at K1 hk HL HU HLL
  clear hP hg
  go_enter Tryd.func6, Tryd.ntmps6
  go_wp2_with fail
  refine (K0.out _).mono ?_
  rintro e w1 ⟨rfl, hw1⟩
  rw [← hw1] at hR bb
  clear hw1 K0
  have hs1 := bb.size
  go_wp2_with fail
  refine (K4.out _).mono ?_
  rintro e w2 ⟨g, rfl, hW2, hg2, b2⟩
  replace bb := bel_then b2 hs1 bb
  have hRl1 := hR.lt
  replace hR := hR.below b2 hR.lt
  have hs2 := bb.size
  have hs12 := b2.size
  rw [show row ⟨#[]⟩ 0 0 = [] from rfl] at hW2
  obtain ⟨base, hbase⟩ : ∃ base, w1.heap.size = base := ⟨_, rfl⟩
  rw [hbase] at hW2 hg2 hs12 hRl1 hs1
  have K5 := hidden (put_any g base [] 0 k w2 hW2 hg2 hs12 (by omega) (Nat.two_pow_pos _) (by simp; omega))
  rw [List.nil_append] at K5
  have HR := hidden hR
  have HBB := hidden bb
  clear hR bb hW2 b2 K4
  go_wp2_with fail
  refine (K1.out _).mono ?_
  rintro e w3 ⟨rfl, rfl⟩
  go_wp2_with fail
  refine K5.out.mono ?_
  rintro e w4 ⟨rfl, hW4, b4, _⟩
  have hs4 := b4.size
  have K6 := hidden (put_any g base (nbits 0 k) n (k + 1) w4 hW4 hg2 (by omega) (by omega) HU.out (by rw [nbits_len]; omega))
  rw [HL.out] at K6
  clear K5 hW4
  go_wp2_with fail
  refine (K1.out _).mono ?_
  rintro e w5 ⟨rfl, rfl⟩
  go_wp2_with fail
  refine K6.out.mono ?_
  rintro e w6 ⟨rfl, hW6, b6, _⟩
  have hb6 := b4.trans b6
  have hs6 := hb6.size
  have K7 := hidden (bits_any g base _ w6 hW6)
  clear K6 hW6 b4 b6
  go_wp2_with fail
  refine K7.out.mono ?_
  rintro e w7 ⟨D, hD, rfl, b7⟩
  have bb := bel_then b7 (by omega) (HBB.out.trans (hb6.mono (by omega)))
  have hR := (HR.out.below hb6 (by omega)).below b7 (by omega)
  have e0 := hR.cell 0
  have e1 := hR.cell 1
  have g0 := hR.free 0
  have g1 := hR.free 1
  simp at e0 e1
  have hs7 := bb.size
  clear b7 hR hb6
  go_wp2
  refine bodyPost_ret (v := .agg #[.string (strOf D), .int .i64 (P.length : Int)]) (by simp [results, Tryd.results6, go_sem, e0, e1, g0, g1]) rfl ⟨D, hD, rfl, ?_⟩
  repeat (first | exact Below.refl _ _ | assumption | refine Below.alloc ?_ (by (try simp); (try omega)) _ | refine Below.setCell ?_ (by (try simp); (try omega)) _ | refine Below.drew ?_ | refine bel_then (by assumption) (by (try simp); (try omega)) ?_)
theorem implPutGamma_no (n : Int) (w : World) (h : gamOk n = false) :
    Calls Tryd.prog 6 #[.int .i64 n] w fun e w' => e = .returned (.agg #[.string ⟨#[]⟩, .int .i64 0]) ∧ Below w.heap.size w w' := by
  have bb : Below w.heap.size w (w.alloc (.cells #[.string ⟨#[]⟩, .int .i64 0] 25)) := (Below.refl _ _).alloc (Nat.le_refl _) _
  have hR := Has.fresh w 25 #[.string ⟨#[]⟩, .int .i64 0]
  have K0 := hidden (fun W => hasGamma_any n W)
  rw [h] at K0
  clear h
  go_enter Tryd.func6, Tryd.ntmps6
  go_wp2_with fail
  refine (K0.out _).mono ?_
  rintro e w1 ⟨rfl, hw1⟩
  rw [← hw1] at hR bb
  clear hw1
  have e0 := hR.cell 0
  have e1 := hR.cell 1
  have g0 := hR.free 0
  have g1 := hR.free 1
  simp at e0 e1
  clear hR
  go_wp2
  refine bodyPost_ret (v := .agg #[.string ⟨#[]⟩, .int .i64 0]) (by simp [results, Tryd.results6, go_sem, e0, e1, g0, g1]) rfl ⟨rfl, ?_⟩
  repeat (first | exact Below.refl _ _ | assumption | refine Below.alloc ?_ (by (try simp); (try omega)) _ | refine Below.setCell ?_ (by (try simp); (try omega)) _ | refine Below.drew ?_ | refine bel_then (by assumption) (by (try simp); (try omega)) ?_)
end Go.Proofs.YtpngomjkapccdaaDoor
namespace Go.Proofs.YtpngomjkapccdaaDoor
set_option linter.unusedVariables false
set_option linter.unusedSimpArgs false
open Go.RowKit

theorem bel_only {a w : World} (h : Below a.heap.size a w) (g : Nat) : Only g a w := ⟨h.os, h.tape, h.output, h.size, fun i hi _ => h.block i hi⟩
theorem takeIf_yes (s : ByteArray) (p n b : Nat) (T : TypeId) (w : World) (hs : s.size ≤ 1048576) (hn : n ≤ 32) (hl : p + n ≤ 8 * s.size) (hb : Has w b T #[.string s, .int .i64 p]) :
    Calls Tryd.prog 37 #[.pointer (some ⟨b, 0, none⟩), .int .i64 n] w fun e w' =>
      e = .returned (.tuple #[.int .i64 (num (row s p n)), .nilIface]) ∧ Has w' b T #[.string s, .int .i64 ((p + n : Nat) : Int)] ∧ Only b w w' := by
  have K1 := hidden (implLeft_yes s p w hs (by omega))
  have K2 := hidden (fun (W : World) (h : Has W b T #[.string s, .int .i64 (p : Int)]) => take_any s p n b T W hs hn hl h)
  have c0 := hb.cell 0
  have c1 := hb.cell 1
  simp at c0 c1
  have hbl := hb.lt
  have HB := hidden hb
  have hx : ¬ (8 * (s.size : Int) - p < n) := by omega
  clear hb
  go_enter Tryd.func37, Tryd.ntmps37
  go_wp2_with fail
  refine K1.out.mono ?_
  rintro e w1 ⟨rfl, b1⟩
  have hB1 := HB.out.below b1 hbl
  have hO1 : Only b w w1 := bel_only b1 b
  clear c0 c1
  go_wp2_with fail
  refine (K2.out _ hB1).mono ?_
  rintro e w2 ⟨rfl, hB2, hO2⟩
  go_wp2
  exact bodyPost_ret (v := .tuple #[.int .i64 (num (row s p n)), .nilIface]) (by simp [results, Tryd.results37, go_sem]) rfl ⟨rfl, hB2, World.grownBy.trans hO1 hO2⟩
theorem takeIf_no (s : ByteArray) (p n b : Nat) (T : TypeId) (w : World) (hs : s.size ≤ 1048576) (hn : n ≤ 32) (hp : p ≤ 8 * s.size) (hl : 8 * s.size < p + n) (hb : Has w b T #[.string s, .int .i64 p]) :
    Calls Tryd.prog 37 #[.pointer (some ⟨b, 0, none⟩), .int .i64 n] w fun e w' =>
      ∃ m : Int, e = .returned (.tuple #[.int .i64 0, .iface 86 (.agg #[.int .i64 m])]) ∧ Has w' b T #[.string s, .int .i64 p] ∧ Only b w w' := by
  have K1 := hidden (implLeft_yes s p w hs (by omega))
  have c0 := hb.cell 0
  have c1 := hb.cell 1
  simp at c0 c1
  have hbl := hb.lt
  have HB := hidden hb
  have hx : (8 * (s.size : Int) - p < n) := by omega
  clear hb
  go_enter Tryd.func37, Tryd.ntmps37
  go_wp2_with fail
  refine K1.out.mono ?_
  rintro e w1 ⟨rfl, b1⟩
  have hB1 := HB.out.below b1 hbl
  have hO1 : Only b w w1 := bel_only b1 b
  clear c0 c1
  go_wp2
  exact bodyPost_ret (v := .tuple #[.int .i64 0, .iface 86 (.agg #[.int .i64 ((n : Int) - (8 * (s.size : Int) - p))])]) (by simp [results, Tryd.results37, go_sem]) rfl ⟨_, rfl, hB1, hO1⟩
/-- What reading a number answers, the reader being in block b. -/
def R6Post (s : ByteArray) (at0 b : Nat) (T : TypeId) (w : World) (e : Ending) (w' : World) : Prop :=
  ((∃ k n : Nat, Gam s at0 k n ∧ e = .returned (.tuple #[.int .i64 n, .nilIface]) ∧ Has w' b T #[.string s, .int .i64 ((at0 + (2 * k + 1) : Nat) : Int)]) ∨
   ((∀ k n, ¬ Gam s at0 k n) ∧ ((∃ m : Int, e = .returned (.tuple #[.int .i64 0, .iface 86 (.agg #[.int .i64 m])])) ∨ e = .returned (.tuple #[.int .i64 1048576, .nilIface])))) ∧ Only b w w'
theorem gam_ge2 {s : ByteArray} {a k j n : Nat} (h : Gam s a j n) (hz : ∀ i, i < k → bit s (a + i) = 0) : k ≤ j := by
  rcases Nat.lt_or_ge j k with hl | hl
  · have := hz j hl
    have := h.2.2.2.1
    omega
  · exact hl
theorem or_add {k v : Nat} (hk : k ≤ 20) (hv : v < 2 ^ k) : bits .or .i64 ((2 ^ k : Nat) : Int) (v : Int) = ((2 ^ k + v : Nat) : Int) := by
  have hp20 : 2 ^ k ≤ 2 ^ 20 := Nat.pow_le_pow_right (by omega) hk
  rw [i64_or_nat _ _ (by omega) (by omega)]
  have h := Nat.two_pow_add_eq_or_of_lt hv 1
  rw [Nat.mul_one] at h
  rw [h]
set_option maxHeartbeats 4000000 in
set_option maxRecDepth 100000 in
theorem gamma_any (s : ByteArray) (at0 b : Nat) (T : TypeId) (w : World) (hs : s.size ≤ 1048576) (ha : at0 ≤ 8 * s.size) (hb : Has w b T #[.string s, .int .i64 at0]) :
    Calls Tryd.prog 27 #[.pointer (some ⟨b, 0, none⟩)] w (R6Post s at0 b T w) := by
  have hbl := hb.lt
  have KZ : Hid (∀ W : World, Calls Tryd.prog 21 #[.int .i64 1048575] W fun e w' => e = .returned (.int .i64 19) ∧ w' = W) := hidden (fun W => by
    have h := zerosOf_any 1048575 W (by omega) (by omega)
    rw [show Nat.log2 1048575 = 19 by decide +kernel] at h
    exact h)
  have KY := hidden (fun (W : World) (p n : Nat) (hn : n ≤ 32) (hl : p + n ≤ 8 * s.size) (h : Has W b T #[.string s, .int .i64 p]) => takeIf_yes s p n b T W hs hn hl h)
  have KN := hidden (fun (W : World) (p n : Nat) (hn : n ≤ 32) (hp : p ≤ 8 * s.size) (hl : 8 * s.size < p + n) (h : Has W b T #[.string s, .int .i64 p]) => takeIf_no s p n b T W hs hn hp hl h)
  have HB := hidden hb
  clear hb
  go_enter Tryd.func27, Tryd.ntmps27
  go_wp2_with fail
  go_loopw [4, 5, 6, 7] (fun sk _ _ _ wr => ∃ k : Nat, k ≤ 20 ∧ sk = .int .i64 k ∧ at0 + k ≤ 8 * s.size ∧ Hid (∀ i, i < k → bit s (at0 + i) = 0) ∧ Has wr b T #[.string s, .int .i64 ((at0 + k : Nat) : Int)] ∧ Only b w wr) (fun sk _ _ _ _ => 20 - (intOf sk).toNat)
  case atStart => exact ⟨0, by omega, rfl, ha, hidden (fun i hi => by omega), HB.out, Only.refl _ _⟩
  case round =>
    obtain ⟨k, hk, rfl, hroom, HZ, hB, hO⟩ := hrel
    have hb2 := bit_lt s (at0 + k)
    by_cases hk20 : k ≤ 19
    · have hkI : (k : Int) ≤ 19 := by omega
      by_cases hr1 : at0 + k + 1 ≤ 8 * s.size
      · have K2 := hidden (KY.out wr (at0 + k) 1 (by omega) hr1 hB)
        rw [show num (row s (at0 + k) 1) = bit s (at0 + k) by simp [row, num]] at K2
        by_cases hb0 : bit s (at0 + k) = 0
        · have HZ2 : Hid (∀ i, i < k + 1 → bit s (at0 + i) = 0) := hidden (fun i hi => by
            rcases Nat.lt_or_ge i k with h | h
            · exact HZ.out i h
            · obtain rfl : i = k := by omega
              exact hb0)
          rw [hb0] at K2
          clear hb0 hb2 hB
          go_wp2_with fail
          refine (KZ.out _).mono ?_
          rintro e w1 ⟨rfl, rfl⟩
          go_wp2_with fail
          refine K2.out.mono ?_
          rintro e w2 ⟨rfl, hB2, hO2⟩
          have hO3 : Only b w w2 := World.grownBy.trans hO hO2
          clear hO hO2 K2
          go_wp2
          go_roundw
          case rel => exact ⟨k + 1, by omega, by go_num, by omega, HZ2, by rw [← Nat.add_assoc]; exact hB2, hO3⟩
          case measure => simp [intOf]; omega
        · have hb1 : bit s (at0 + k) = 1 := by omega
          rw [hb1] at K2
          have HON := hidden (fun j n (h : Gam s at0 j n) => gam_zeros h HZ.out hb1)
          by_cases hr2 : at0 + k + 1 + k ≤ 8 * s.size
          · have HGM : Hid (Gam s at0 k (2 ^ k + num (row s (at0 + k + 1) k))) := hidden ⟨by omega, by omega, (num_zero_bits k).2 HZ.out, hb1, rfl⟩
            have HOR := hidden (or_add (k := k) (by omega) (num_row_lt s (at0 + k + 1) k))
            have K3 := hidden (fun (W : World) (h : Has W b T #[.string s, .int .i64 ((at0 + k + 1 : Nat) : Int)]) => KY.out W (at0 + k + 1) k (by omega) hr2 h)
            have hp20 : 2 ^ k ≤ 2 ^ 20 := Nat.pow_le_pow_right (by omega) (by omega)
            obtain ⟨v, hvv⟩ : ∃ v, num (row s (at0 + k + 1) k) = v := ⟨_, rfl⟩
            obtain ⟨p, hp⟩ : ∃ p, 2 ^ k = p := ⟨_, rfl⟩
            have hwd : Value.int .i64 (wrap64 (2 ^ k)) = Value.int .i64 (p : Int) := by
              rw [show ((2 : Int) ^ k) = ((2 ^ k : Nat) : Int) by simp, hp, wrap64_n _ (by omega)]
            rw [hvv] at K3 HGM HOR
            rw [hp] at HGM hp20 HOR
            clear hvv hp hb0 hb1 hb2 hB
            go_wp2_with fail
            refine (KZ.out _).mono ?_
            rintro e w1 ⟨rfl, rfl⟩
            go_wp2_with fail
            refine K2.out.mono ?_
            rintro e w2 ⟨rfl, hB2, hO2⟩
            have hO3 : Only b w w2 := World.grownBy.trans hO hO2
            clear hO hO2 K2
            go_wp2_with fail
            refine (K3.out _ hB2).mono ?_
            rintro e w3 ⟨rfl, hB3, hO4⟩
            have hO5 : Only b w w3 := World.grownBy.trans hO3 hO4
            clear hO3 hO4 K3
            go_wp2
            exact bodyPost_ret (v := .tuple #[.int .i64 ((p + v : Nat) : Int), .nilIface]) (by simp [results, Tryd.results27, go_sem]; exact HOR.out) rfl ⟨.inl ⟨k, p + v, HGM.out, rfl, by rw [show at0 + (2 * k + 1) = at0 + k + 1 + k by omega]; exact hB3⟩, hO5⟩
          · have HNX : Hid (∀ j n, ¬ Gam s at0 j n) := hidden (fun j n h => by
              have e := HON.out j n h
              have := gam_row h
              subst e; omega)
            have K3 := hidden (fun (W : World) (h : Has W b T #[.string s, .int .i64 ((at0 + k + 1 : Nat) : Int)]) => KN.out W (at0 + k + 1) k (by omega) hr1 (by omega) h)
            clear hb0 hb1 hb2 hB hr2
            go_wp2_with fail
            refine (KZ.out _).mono ?_
            rintro e w1 ⟨rfl, rfl⟩
            go_wp2_with fail
            refine K2.out.mono ?_
            rintro e w2 ⟨rfl, hB2, hO2⟩
            have hO3 : Only b w w2 := World.grownBy.trans hO hO2
            clear hO hO2 K2
            go_wp2_with fail
            refine (K3.out _ hB2).mono ?_
            rintro e w3 ⟨m, rfl, hB3, hO4⟩
            have hO5 : Only b w w3 := World.grownBy.trans hO3 hO4
            clear hO3 hO4 K3
            go_wp2
            exact bodyPost_ret (v := .tuple #[.int .i64 0, .iface 86 (.agg #[.int .i64 m])]) (by simp [results, Tryd.results27, go_sem]) rfl ⟨.inr ⟨HNX.out, .inl ⟨m, rfl⟩⟩, hO5⟩
      · have HNX : Hid (∀ j n, ¬ Gam s at0 j n) := hidden (fun j n h => by
          have h1 := gam_ge2 h HZ.out
          have := gam_row h
          omega)
        have K3 := hidden (KN.out wr (at0 + k) 1 (by omega) hroom (by omega) hB)
        clear hb2 hB hr1
        go_wp2_with fail
        refine (KZ.out _).mono ?_
        rintro e w1 ⟨rfl, rfl⟩
        go_wp2_with fail
        refine K3.out.mono ?_
        rintro e w3 ⟨m, rfl, hB3, hO4⟩
        have hO5 : Only b w w3 := World.grownBy.trans hO hO4
        clear hO hO4 K3
        go_wp2
        exact bodyPost_ret (v := .tuple #[.int .i64 0, .iface 86 (.agg #[.int .i64 m])]) (by simp [results, Tryd.results27, go_sem]) rfl ⟨.inr ⟨HNX.out, .inl ⟨m, rfl⟩⟩, hO5⟩
    · have hkI : ¬ (k : Int) ≤ 19 := by omega
      have HNX : Hid (∀ j n, ¬ Gam s at0 j n) := hidden (fun j n h => by
        have h1 := gam_ge2 h HZ.out
        have := h.1
        omega)
      clear hb2 hB
      go_wp2_with fail
      refine (KZ.out _).mono ?_
      rintro e w1 ⟨rfl, rfl⟩
      go_wp2
      exact bodyPost_ret (v := .tuple #[.int .i64 1048576, .nilIface]) (by simp [results, Tryd.results27, go_sem]) rfl ⟨.inr ⟨HNX.out, .inr rfl⟩, hO⟩
end Go.Proofs.YtpngomjkapccdaaDoor
