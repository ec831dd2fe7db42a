/- Chapter 1: Fill of the program. -/
import Derived.Test.YtagjafkleemffaaC1Fill
namespace Go.Proofs.Ytagjafkleemffaa
set_option linter.unusedVariables false
set_option linter.unusedSimpArgs false
open Go.RowKit

theorem implPut_zero (s : ByteArray) (n k : Nat) (w : World) (hs : s.size ≤ maxLen) (hok : okB s n = true) (hk : k ≤ 32) (hr : n + k ≤ 400000) :
    Calls Try.prog 17 #[.agg #[.string s, .int .i64 n], .int .i64 0, .int .i64 k] w fun e w' =>
      ∃ D, Packs D (row s 0 n ++ nbits 0 k) ∧ e = .returned (.tuple #[.agg #[.string (strOf D), .int .i64 ((n + k : Nat) : Int)], .bool true]) ∧ Below w.heap.size w w' :=
  implPut_yes s n 0 k w hs hok hk (Nat.two_pow_pos k) hr
set_option maxHeartbeats 8000000 in
theorem implFill_yes (s : ByteArray) (n : Nat) (w : World) (hs : s.size ≤ maxLen) (hok : okB s n = true) :
    Calls Try.prog 26 #[.agg #[.string s, .int .i64 n]] w fun e w' =>
      ∃ D, Packs D (row s 0 n ++ nbits 0 (upN n)) ∧ e = .returned (.agg #[.string (strOf D), .int .i64 ((n + upN n : Nat) : Int)]) ∧ Below w.heap.size w w' := by
  have hroom := okB_room hok
  have hu := upN_lt n
  have hr : n + upN n ≤ 400000 := by unfold upN; omega
  have H := hidden hok
  clear hok
  go_enter Try.func26, Try.ntmps26
  go_wp2
  go_region_with (first | (go_at_call 59; refine (upToByte_nat n _ (by omega)).mono ?_; rintro e w1 ⟨rfl, rfl⟩) | (go_at_call 17; refine (implPut_zero s n (upN n) _ hs H.out (by omega) hr).mono ?_; rintro e w1 ⟨D, hD, rfl, hb⟩; obtain ⟨hc, hf, hll⟩ := bcell3 hb; have hy := hb.size; (try simp at hy); have hz : w.heap.size + 1 < w1.heap.size := by omega))
  all_goals
    go_wp2
    refine bodyPost_ret (v := .agg #[.string (strOf D), .int .i64 ((n + upN n : Nat) : Int)]) (by simp [results, Try.results26, go_sem, hc, hf, hz]) rfl ⟨D, hD, rfl, ?_⟩
    repeat (first | exact Below.refl _ _ | assumption | refine Below.alloc ?_ (by (try simp); (try omega)) _ | refine Below.setCell ?_ (by (try simp); (try omega)) _ | refine Below.drew ?_ | refine bel_then (by assumption) (by (try simp); (try omega)) ?_ | refine only_then (by assumption) (by (try simp); (try omega)) (by (try simp); (try omega)) ?_ | refine bel_thenB (by assumption) (by (try simp); (try omega)) ?_)
end Go.Proofs.Ytagjafkleemffaa
