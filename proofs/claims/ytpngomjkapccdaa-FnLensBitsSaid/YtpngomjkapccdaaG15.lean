/- Texts of one reach, one behind the other: I6P. What each is about stands in its theorems. -/
import Derived.Test.YtpngomjkapccdaaG4
import Derived.Test.YtpngomjkapccdaaG14
import Derived.Lib.BitFns
import Derived.Lib.Slices
import Derived.Lib.Small
import Derived.Lib.Strings
import Derived.Lib.Walk
namespace Go.Proofs.Ytpngomjkapccdaa
set_option linter.unusedVariables false
set_option linter.unusedSimpArgs false
open Go.RowKit

theorem bitLen_byte : ∀ n : Fin 256, n.val ≠ 0 → Lib.bitLen n.val = Nat.log2 n.val + 1 := by decide +kernel
theorem log_256 {n : Nat} (h : 256 ≤ n) : Nat.log2 n = Nat.log2 (n / 256) + 8 := by
  rw [log_half (n := n) (by omega), log_half (n := n / 2) (by omega), log_half (n := n / 2 / 2) (by omega), log_half (n := n / 2 / 2 / 2) (by omega), log_half (n := n / 2 / 2 / 2 / 2) (by omega),
    log_half (n := n / 2 / 2 / 2 / 2 / 2) (by omega), log_half (n := n / 2 / 2 / 2 / 2 / 2 / 2) (by omega), log_half (n := n / 2 / 2 / 2 / 2 / 2 / 2 / 2) (by omega)]
  rw [show n / 2 / 2 / 2 / 2 / 2 / 2 / 2 / 2 = n / 256 by omega]
theorem len8_log (b : Nat) (h0 : b ≠ 0) (h1 : b ≤ 255) : Lib.len8 (b : Int) = ((Nat.log2 b + 1 : Nat) : Int) := by
  rw [Lib.len8_of _ (by omega) (by omega), Int.toNat_natCast, bitLen_byte ⟨b, by omega⟩ h0]
theorem len8_any (x : Int) (h0 : 1 ≤ x) (h1 : x ≤ 255) : Lib.len8 x = ((Nat.log2 x.toNat + 1 : Nat) : Int) := by
  obtain ⟨b, rfl⟩ : ∃ b : Nat, x = b := ⟨x.toNat, by omega⟩
  rw [len8_log b (by omega) (by omega), Int.toNat_natCast]
theorem tab_get (i : Int) (h : i.toNat < Lib.len8tab.size) : (Lib.len8tab[i.toNat].toNat : Int) = Lib.len8 i := by
  unfold Lib.len8
  rw [getElem?_pos Lib.len8tab i.toNat h]
  rfl
theorem log_8 (x : Int) (h : 256 ≤ x) : Nat.log2 x.toNat = Nat.log2 (x / 256).toNat + 8 := by
  rw [log_256 (n := x.toNat) (by omega), show x.toNat / 256 = (x / 256).toNat by omega]
theorem log_16 (x : Int) (h : 65536 ≤ x) : Nat.log2 x.toNat = Nat.log2 (x / 65536).toNat + 16 := by
  rw [log_8 x (by omega), log_8 (x / 256) (by omega), show x / 256 / 256 = x / 65536 by omega]
theorem log_lt (x : Int) (h0 : 1 ≤ x) (h1 : x ≤ 1048575) : Nat.log2 x.toNat ≤ 19 := log_le (by omega) (by omega)
set_option maxHeartbeats 4000000 in
set_option maxRecDepth 100000 in
theorem len64_small (x : Int) (w : World) (h1 : 1 ≤ x) (h2 : x ≤ 1048575) :
    Calls Try.prog 47 #[.int .u64 x] w fun e w' => e = .returned (.int .i64 ((Nat.log2 x.toNat + 1 : Nat) : Int)) ∧ w' = w := by
  have H1 := hidden h1
  have H2 := hidden h2
  have h3 : 0 ≤ x := by omega
  have h4 : x ≤ 18446744073709551615 := by omega
  clear h1 h2
  go_enter Try.func47, Try.ntmps47
  have hz := hidden Lib.len8tab_size
  go_wp2
  all_goals first
    | (exfalso; have := hz.out; omega)
    | (go_ret; refine ⟨congrArg Ending.returned (congrArg (Value.int IntKind.i64) ?_), rfl⟩; have := H1.out; have := H2.out)
  all_goals first
    | (exfalso; omega)
    | (have hs := hz.out
       have hl := log_lt (x / 65536) (by omega) (by omega)
       rw [tab_get _ (by omega), len8_any _ (by omega) (by omega), wrap64_n _ (by omega), log_16 x (by omega), IntWalk.wrap64_in _ (by omega)]
       omega)
    | (have hs := hz.out
       have hl := log_lt (x / 256) (by omega) (by omega)
       rw [tab_get _ (by omega), len8_any _ (by omega) (by omega), wrap64_n _ (by omega), log_8 x (by omega), IntWalk.wrap64_in _ (by omega)]
       omega)
    | (have hs := hz.out
       have hl := log_lt x (by omega) (by omega)
       rw [tab_get _ (by omega), len8_any _ (by omega) (by omega), wrap64_n _ (by omega), wrap64_n _ (by omega)])
set_option maxHeartbeats 4000000 in
theorem zerosOf_any (n : Nat) (w : World) (h1 : 1 ≤ n) (h2 : n ≤ 1048575) :
    Calls Try.prog 29 #[.int .i64 n] w fun e w' => e = .returned (.int .i64 (Nat.log2 n)) ∧ w' = w := by
  have hk := log_le h1 h2
  have K := hidden (fun W => len64_small n W (by omega) (by omega))
  rw [Int.toNat_natCast] at K
  obtain ⟨x, hx⟩ : ∃ x : Int, (n : Int) = x := ⟨_, rfl⟩
  obtain ⟨g, hg⟩ : ∃ g, Nat.log2 n = g := ⟨_, rfl⟩
  rw [hg] at hk K ⊢
  rw [hx] at K ⊢
  have hx0 : 1 ≤ x := by omega
  have hx1 : x ≤ 1048575 := by omega
  clear hx hg h1 h2
  have KL : Hid (∀ W : World, Calls Try.prog 40 #[.int .u64 x] W fun e w' => e = .returned (.int .i64 ((g + 1 : Nat) : Int)) ∧ w' = W) := hidden (fun W => by
    go_enter Try.func40, Try.ntmps40
    go_wp2_with fail
    refine (K.out _).mono ?_
    rintro e w1 ⟨rfl, rfl⟩
    go_wp2
    go_ret
    exact ⟨rfl, rfl⟩)
  go_enter Try.func29, Try.ntmps29
  go_wp2_with fail
  refine (KL.out _).mono ?_
  rintro e w1 ⟨rfl, rfl⟩
  go_wp2
  go_ret
  exact ⟨by go_num, rfl⟩
theorem hasGamma_any (n : Int) (w : World) :
    Calls Try.prog 28 #[.int .i64 n] w fun e w' => e = .returned (.bool (gamOk n)) ∧ w' = w := by
  have HF : Hid (gamOk n = decide (1 ≤ n ∧ n ≤ 1048575)) := hidden rfl
  by_cases h1 : 1 ≤ n
  · by_cases h2 : n ≤ 1048575
    · go_enter Try.func28, Try.ntmps28
      go_wp2
      go_ret
      exact ⟨by rw [HF.out, decide_eq_true (by omega)]; rfl, rfl⟩
    · go_enter Try.func28, Try.ntmps28
      go_wp2
      go_ret
      exact ⟨by rw [HF.out, decide_eq_false (by omega)]; rfl, rfl⟩
  · go_enter Try.func28, Try.ntmps28
    go_wp2
    go_ret
    exact ⟨by rw [HF.out, decide_eq_false (by omega)]; rfl, rfl⟩
theorem implGammaBits_any (n : Int) (w : World) :
    Calls Try.prog 17 #[.int .i64 n] w fun e w' => e = .returned (.int .i64 (gamB n)) ∧ Below w.heap.size w w' := by
  have K0 := hidden (fun W => hasGamma_any n W)
  by_cases h : gamOk n = true
  · have hr := (gamOk_iff n).1 h
    obtain ⟨q, rfl⟩ : ∃ q : Nat, n = q := ⟨n.toNat, by omega⟩
    have K1 := hidden (fun W => zerosOf_any q W (by omega) (by omega))
    have hk := log_le (n := q) (by omega) (by omega)
    have HF : Hid (gamB q = 2 * (Nat.log2 q : Int) + 1) := hidden (by unfold gamB; rw [if_pos h, Int.toNat_natCast, gamL_len]; omega)
    obtain ⟨g, hg⟩ : ∃ g, Nat.log2 q = g := ⟨_, rfl⟩
    rw [hg] at hk K1 HF
    rw [h] at K0
    obtain ⟨x, hx⟩ : ∃ x : Int, (q : Int) = x := ⟨_, rfl⟩
    rw [hx] at hr K0 K1 HF ⊢
    clear hg h hx
    go_enter Try.func17, Try.ntmps17
    go_wp2_with fail
    refine (K0.out _).mono ?_
    rintro e w1 ⟨rfl, rfl⟩
    go_wp2_with fail
    refine (K1.out _).mono ?_
    rintro e w1 ⟨rfl, rfl⟩
    go_wp2
    go_ret
    exact ⟨ret_int HF.out.symm, Below.refl _ _⟩
  · have HF : Hid (gamB n = -1) := hidden (by unfold gamB; rw [if_neg h])
    have h2 : gamOk n = false := by simpa using h
    rw [h2] at K0
    clear h h2
    go_enter Try.func17, Try.ntmps17
    go_wp2_with fail
    refine (K0.out _).mono ?_
    rintro e w1 ⟨rfl, rfl⟩
    go_wp2
    go_ret
    exact ⟨ret_int HF.out.symm, Below.refl _ _⟩
theorem gamL_two (n : Nat) : nbits 0 (Nat.log2 n) ++ nbits n (Nat.log2 n + 1) = gamL n := by
  have h := log_up n
  unfold gamL
  rw [show 2 * Nat.log2 n + 1 = Nat.log2 n + (Nat.log2 n + 1) by omega, nbits_add n (Nat.log2 n) (Nat.log2 n + 1), Nat.div_eq_of_lt h, Nat.mod_eq_of_lt h]
set_option maxHeartbeats 2000000 in
theorem implPutGamma_yes (n : Nat) (w : World) (h1 : 1 ≤ n) (h2 : n ≤ 1048575) :
    Calls Try.prog 14 #[.int .i64 n] w fun e w' => ∃ D, Packs D (gamL n) ∧ e = .returned (.agg #[.string (strOf D), .int .i64 ((gamL n).length : Int)]) ∧ Below w.heap.size w w' := by
  have bb : Below w.heap.size w (w.alloc (.cells #[.string ⟨#[]⟩, .int .i64 0] 26)) := (Below.refl _ _).alloc (Nat.le_refl _) _
  have hR := Has.fresh w 26 #[.string ⟨#[]⟩, .int .i64 0]
  have K0 := hidden (fun W => hasGamma_any n W)
  rw [(gamOk_iff n).2 (by omega)] at K0
  have K1 := hidden (fun W => zerosOf_any n W h1 h2)
  have K4 := hidden (fun (W : World) => writerOf_any ⟨#[]⟩ 0 W (by decide))
  have hk := log_le h1 h2
  have HL := hidden (gamL_two n)
  have HU := hidden (log_up n)
  have HLL := hidden (gamL_len n)
  obtain ⟨P, hP⟩ : ∃ P, gamL n = P := ⟨_, rfl⟩
  obtain ⟨k, hg⟩ : ∃ k, Nat.log2 n = k := ⟨_, rfl⟩
  rw [hP] at HL HLL ⊢
  rw [hg] at K1 hk HL HU HLL
  clear hP hg
  go_enter Try.func14, Try.ntmps14
  go_wp2_with fail
  refine (K0.out _).mono ?_
  rintro e w1 ⟨rfl, hw1⟩
  rw [← hw1] at hR bb
  clear hw1 K0
  have hs1 := bb.size
  go_wp2_with fail
  refine (K4.out _).mono ?_
  rintro e w2 ⟨g, rfl, hW2, hg2, b2⟩
  replace bb := bel_then b2 hs1 bb
  have hRl1 := hR.lt
  replace hR := hR.below b2 hR.lt
  have hs2 := bb.size
  have hs12 := b2.size
  rw [show row ⟨#[]⟩ 0 0 = [] from rfl] at hW2
  obtain ⟨base, hbase⟩ : ∃ base, w1.heap.size = base := ⟨_, rfl⟩
  rw [hbase] at hW2 hg2 hs12 hRl1 hs1
  have K5 := hidden (put_any g base [] 0 k w2 hW2 hg2 hs12 (by omega) (Nat.two_pow_pos _) (by simp; omega))
  rw [List.nil_append] at K5
  have HR := hidden hR
  have HBB := hidden bb
  clear hR bb hW2 b2 K4
  go_wp2_with fail
  refine (K1.out _).mono ?_
  rintro e w3 ⟨rfl, rfl⟩
  go_wp2_with fail
  refine K5.out.mono ?_
  rintro e w4 ⟨rfl, hW4, b4, _⟩
  have hs4 := b4.size
  have K6 := hidden (put_any g base (nbits 0 k) n (k + 1) w4 hW4 hg2 (by omega) (by omega) HU.out (by rw [nbits_len]; omega))
  rw [HL.out] at K6
  clear K5 hW4
  go_wp2_with fail
  refine (K1.out _).mono ?_
  rintro e w5 ⟨rfl, rfl⟩
  go_wp2_with fail
  refine K6.out.mono ?_
  rintro e w6 ⟨rfl, hW6, b6, _⟩
  have hb6 := b4.trans b6
  have hs6 := hb6.size
  have K7 := hidden (bits_any g base _ w6 hW6)
  clear K6 hW6 b4 b6
  go_wp2_with fail
  refine K7.out.mono ?_
  rintro e w7 ⟨D, hD, rfl, b7⟩
  have bb := bel_then b7 (by omega) (HBB.out.trans (hb6.mono (by omega)))
  have hR := (HR.out.below hb6 (by omega)).below b7 (by omega)
  have e0 := hR.cell 0
  have e1 := hR.cell 1
  have g0 := hR.free 0
  have g1 := hR.free 1
  simp at e0 e1
  have hs7 := bb.size
  clear b7 hR hb6
  go_wp2
  refine bodyPost_ret (v := .agg #[.string (strOf D), .int .i64 (P.length : Int)]) (by simp [results, Try.results14, go_sem, e0, e1, g0, g1]) rfl ⟨D, hD, rfl, ?_⟩
  repeat (first | exact Below.refl _ _ | assumption | refine Below.alloc ?_ (by (try simp); (try omega)) _ | refine Below.setCell ?_ (by (try simp); (try omega)) _ | refine Below.drew ?_ | refine bel_then (by assumption) (by (try simp); (try omega)) ?_)
theorem implPutGamma_no (n : Int) (w : World) (h : gamOk n = false) :
    Calls Try.prog 14 #[.int .i64 n] w fun e w' => e = .returned (.agg #[.string ⟨#[]⟩, .int .i64 0]) ∧ Below w.heap.size w w' := by
  have bb : Below w.heap.size w (w.alloc (.cells #[.string ⟨#[]⟩, .int .i64 0] 26)) := (Below.refl _ _).alloc (Nat.le_refl _) _
  have hR := Has.fresh w 26 #[.string ⟨#[]⟩, .int .i64 0]
  have K0 := hidden (fun W => hasGamma_any n W)
  rw [h] at K0
  clear h
  go_enter Try.func14, Try.ntmps14
  go_wp2_with fail
  refine (K0.out _).mono ?_
  rintro e w1 ⟨rfl, hw1⟩
  rw [← hw1] at hR bb
  clear hw1
  have e0 := hR.cell 0
  have e1 := hR.cell 1
  have g0 := hR.free 0
  have g1 := hR.free 1
  simp at e0 e1
  clear hR
  go_wp2
  refine bodyPost_ret (v := .agg #[.string ⟨#[]⟩, .int .i64 0]) (by simp [results, Try.results14, go_sem, e0, e1, g0, g1]) rfl ⟨rfl, ?_⟩
  repeat (first | exact Below.refl _ _ | assumption | refine Below.alloc ?_ (by (try simp); (try omega)) _ | refine Below.setCell ?_ (by (try simp); (try omega)) _ | refine Below.drew ?_ | refine bel_then (by assumption) (by (try simp); (try omega)) ?_)
end Go.Proofs.Ytpngomjkapccdaa
