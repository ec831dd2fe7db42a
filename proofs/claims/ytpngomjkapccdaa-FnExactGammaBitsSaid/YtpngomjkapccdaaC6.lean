/- Chapter 6: numbers are written (the model). -/
import Derived.Test.YtpngomjkapccdaaGam
import Derived.Test.YtpngomjkapccdaaC1Close
import Derived.Test.YtpngomjkapccdaaNats
namespace Go.Proofs.Ytpngomjkapccdaa
set_option linter.unusedVariables false
set_option linter.unusedSimpArgs false
open Go.RowKit

set_option maxHeartbeats 1000000 in
theorem l6log_any (n : Nat) (w : World) (h1 : 1 ≤ n) (h2 : n ≤ 1048575) :
    Calls Try.prog 30 #[.int .i64 n] w fun e w' => e = .returned (.int .i64 (Nat.log2 n)) ∧ w = w' := by
  have hk := log_le h1 h2
  have HF : Hid (∀ m, 2 ≤ m → Nat.log2 m = Nat.log2 (m / 2) + 1) := hidden (fun m h => log_half h)
  have H1 : Hid (Nat.log2 1 = 0) := hidden log_small
  obtain ⟨g, hg⟩ : ∃ g, Nat.log2 n = g := ⟨_, rfl⟩
  rw [hg] at hk ⊢
  have HG := hidden hg
  clear hg
  go_enter Try.func30, Try.ntmps30
  go_wp2
  go_loop [0, 3] (fun sn sk => ∃ m k : Nat, sn = .int .i64 m ∧ sk = .int .i64 k ∧ 1 ≤ m ∧ m ≤ 1048575 ∧ k ≤ g ∧ Hid (Nat.log2 m + k = g)) (fun sn _ => (intOf sn).toNat)
  case atStart => exact ⟨n, 0, rfl, rfl, h1, h2, by omega, hidden (by rw [HG.out]; rfl)⟩
  case round =>
    obtain ⟨m, k, rfl, rfl, hm1, hm2, hk2, HM⟩ := hrel
    by_cases hlt : 1 < m
    · have HM2 : Hid (Nat.log2 (m / 2) + (k + 1) = g) := hidden (by have := HF.out m (by omega); have := HM.out; omega)
      go_wp2
      go_round
      case rel => exact ⟨m / 2, k + 1, by go_num, by go_num, by omega, by omega, by have := HM2.out; omega, HM2⟩
      case measure => simp [intOf]; omega
    · have e : m = 1 := by omega
      subst e
      have hkg : k = g := by have := HM.out; rw [H1.out] at this; omega
      subst hkg
      go_wp2
      go_ret
      exact ⟨rfl, rfl⟩
theorem l6put_any (n : Nat) (w : World) (h1 : 1 ≤ n) (h2 : n ≤ 1048575) :
    Calls Try.prog 27 #[.int .i64 n] w fun e w' => ∃ v, e = .returned v ∧ w'.ownsRow w.heap.size 5 1 v (gamL n).length (u8s (gamL n)) ∧ Below w.heap.size w w' := by
  have K1 := hidden (fun W => l6log_any n W h1 h2)
  have hk := log_le h1 h2
  have HL := hidden (gamL_len n)
  have K2 : Hid (∀ W, Calls Try.prog 39 #[.int .i64 n, .int .i64 (2 * (Nat.log2 n : Int) + 1)] W fun e w' =>
      ∃ v, e = .returned v ∧ w'.ownsRow W.heap.size 5 1 v (2 * Nat.log2 n + 1) (u8s (gamL n)) ∧ Below W.heap.size W w') := hidden (fun W => by
    have h := l1num_any n (2 * Nat.log2 n + 1) W (by omega) (by omega)
    rw [show ((2 * Nat.log2 n + 1 : Nat) : Int) = 2 * (Nat.log2 n : Int) + 1 by omega] at h
    refine h.mono ?_
    rintro e w' ⟨rfl, hown, hb⟩
    exact ⟨_, rfl, hown, hb⟩)
  obtain ⟨g, hg⟩ : ∃ g, Nat.log2 n = g := ⟨_, rfl⟩
  rw [hg] at hk K1 K2 HL
  clear hg
  go_enter Try.func27, Try.ntmps27
  go_wp2_with fail
  refine (K1.out _).mono ?_
  rintro e w1 ⟨rfl, rfl⟩
  go_wp2_with fail
  refine (K2.out _).mono ?_
  rintro e w2 ⟨v, rfl, hown, hb⟩
  go_wp2
  go_ret
  exact ⟨v, rfl, by rw [HL.out]; exact hown, hb⟩
/-- How many bits a number has; -1 where it is none. -/
def gamOk (n : Int) : Bool := decide (1 ≤ n ∧ n ≤ 1048575)
theorem gamOk_iff (n : Int) : gamOk n = true ↔ 1 ≤ n ∧ n ≤ 1048575 := by simp [gamOk]
def gamB (n : Int) : Int := if gamOk n = true then ((gamL n.toNat).length : Int) else -1
set_option maxHeartbeats 1000000 in
theorem specPutGamma_yes (n : Nat) (w : World) (h1 : 1 ≤ n) (h2 : n ≤ 1048575) :
    Calls Try.prog 13 #[.int .i64 n] w fun e w' => ∃ D, Packs D (gamL n) ∧ e = .returned (.agg #[.string (strOf D), .int .i64 ((gamL n).length : Int)]) ∧ Below w.heap.size w w' := by
  have bb : Below w.heap.size w (w.alloc (.cells #[.string ⟨#[]⟩, .int .i64 0] 26)) := (Below.refl _ _).alloc (Nat.le_refl _) _
  have hR := Has.fresh w 26 #[.string ⟨#[]⟩, .int .i64 0]
  have K1 := hidden (fun W => l6put_any n W h1 h2)
  have hle : (gamL n).length ≤ 40 := by rw [gamL_len]; have := log_le h1 h2; omega
  have K2 := hidden (fun (W : World) v base h => l1close_own (gamL n) (gamL_lt n) v base W (by omega) h)
  obtain ⟨P, hP⟩ : ∃ P, gamL n = P := ⟨_, rfl⟩
  rw [hP] at K1 K2 ⊢
  clear hP hle
  go_enter Try.func13, Try.ntmps13
  go_wp2_with fail
  refine (K1.out _).mono ?_
  rintro e w3 ⟨v, rfl, hown, b3⟩
  replace bb := bel_then b3 bb.size bb
  replace hR := hR.below b3 hR.lt
  have hs3 := bb.size
  clear b3
  go_wp2_with fail
  refine (K2.out _ _ _ hown).mono ?_
  rintro e w4 ⟨D, hD, rfl, b4⟩
  replace bb := bel_then b4 hs3 bb
  replace hR := hR.below b4 hR.lt
  have e0 := hR.cell 0
  have e1 := hR.cell 1
  have g0 := hR.free 0
  have g1 := hR.free 1
  simp at e0 e1
  have hs4 := bb.size
  clear b4 hown hR
  go_wp2
  refine bodyPost_ret (v := .agg #[.string (strOf D), .int .i64 (P.length : Int)]) (by simp [results, Try.results13, go_sem, e0, e1, g0, g1]) rfl ⟨D, hD, rfl, ?_⟩
  repeat (first | exact Below.refl _ _ | assumption | refine Below.alloc ?_ (by (try simp); (try omega)) _ | refine Below.setCell ?_ (by (try simp); (try omega)) _ | refine Below.drew ?_ | refine bel_then (by assumption) (by (try simp); (try omega)) ?_)
theorem specPutGamma_no (n : Int) (w : World) (h : gamOk n = false) :
    Calls Try.prog 13 #[.int .i64 n] w fun e w' => e = .returned (.agg #[.string ⟨#[]⟩, .int .i64 0]) ∧ Below w.heap.size w w' := by
  have bb : Below w.heap.size w (w.alloc (.cells #[.string ⟨#[]⟩, .int .i64 0] 26)) := (Below.refl _ _).alloc (Nat.le_refl _) _
  have hR := Has.fresh w 26 #[.string ⟨#[]⟩, .int .i64 0]
  have hn : n < 1 ∨ 1048575 < n := by
    have : ¬ (gamOk n = true) := by rw [h]; decide
    rw [gamOk_iff] at this; omega
  have e0 := hR.cell 0
  have e1 := hR.cell 1
  have g0 := hR.free 0
  have g1 := hR.free 1
  simp at e0 e1
  clear hR h
  rcases hn with hn | hn
  all_goals
    go_enter Try.func13, Try.ntmps13
    go_wp2
    refine bodyPost_ret (v := .agg #[.string ⟨#[]⟩, .int .i64 0]) (by simp [results, Try.results13, go_sem]) rfl ⟨rfl, ?_⟩
    repeat (first | exact Below.refl _ _ | assumption | refine Below.alloc ?_ (by (try simp); (try omega)) _ | refine Below.setCell ?_ (by (try simp); (try omega)) _ | refine Below.drew ?_ | refine bel_then (by assumption) (by (try simp); (try omega)) ?_)
theorem specGammaBits_any (n : Int) (w : World) :
    Calls Try.prog 16 #[.int .i64 n] w fun e w' => e = .returned (.int .i64 (gamB n)) ∧ Below w.heap.size w w' := by
  by_cases h : gamOk n = true
  · have hr := (gamOk_iff n).1 h
    obtain ⟨q, rfl⟩ : ∃ q : Nat, n = q := ⟨n.toNat, by omega⟩
    have K1 := hidden (fun W => l6log_any q W (by omega) (by omega))
    have hk := log_le (n := q) (by omega) (by omega)
    have HF : Hid (gamB q = 2 * (Nat.log2 q : Int) + 1) := hidden (by unfold gamB; rw [if_pos h, Int.toNat_natCast, gamL_len]; omega)
    obtain ⟨g, hg⟩ : ∃ g, Nat.log2 q = g := ⟨_, rfl⟩
    rw [hg] at hk K1 HF
    clear hg h
    go_enter Try.func16, Try.ntmps16
    go_wp2_with fail
    refine (K1.out _).mono ?_
    rintro e w1 ⟨rfl, rfl⟩
    go_wp2
    go_ret
    exact ⟨ret_int HF.out.symm, Below.refl _ _⟩
  · have HF : Hid (gamB n = -1) := hidden (by unfold gamB; rw [if_neg h])
    have hn : n < 1 ∨ 1048575 < n := by rw [gamOk_iff] at h; omega
    clear h
    rcases hn with hn | hn
    all_goals
      go_enter Try.func16, Try.ntmps16
      go_wp2
      go_ret
      exact ⟨ret_int HF.out.symm, Below.refl _ _⟩
end Go.Proofs.Ytpngomjkapccdaa
