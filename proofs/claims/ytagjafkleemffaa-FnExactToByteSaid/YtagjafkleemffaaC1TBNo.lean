/- Chapter 1: ToByte of the program, where it refuses. -/
import Derived.Test.YtagjafkleemffaaC1TB
namespace Go.Proofs.Ytagjafkleemffaa
set_option linter.unusedVariables false
set_option linter.unusedSimpArgs false
open Go.RowKit

set_option maxHeartbeats 8000000 in
theorem implToByte_bits (s : ByteArray) (a : Nat) (w : World) (hs : s.size ≤ 1048576) (hl : a ≤ 8 * s.size) (h0 : num (row s a (upN a)) ≠ 0) :
    Calls Try.prog 28 #[.agg #[.string s, .int .i64 a]] w fun e w' => e = .returned (.tuple #[.agg #[.string ⟨#[]⟩, .int .i64 0], .bool false]) ∧ Below w.heap.size w w' := by
  have h1 : ((num (row s a (upN a)) : Int) != 0) = true := by simp; omega
  clear h0
  have hu := upN_lt a
  have hv := upN_div a
  have hl2 : a + upN a ≤ 8 * s.size := by omega
  clear hv
  go_enter Try.func28, Try.ntmps28
  go_wp2
  go_region_with (first | (go_at_call 59; refine (upToByte_nat _ _ (by omega)).mono ?_; rintro e w1 ⟨rfl, rfl⟩) | (go_at_call 20; refine (implGet_yes s a (upN a) _ hs (by omega) hl2).mono ?_; rintro e w1 ⟨rfl, hb⟩; obtain ⟨hc, hf, hll⟩ := bcell3 hb; have hy := hb.size; (try simp at hy); have hz : w.heap.size + 1 < w1.heap.size := by omega))
  all_goals
    go_wp2
    refine bodyPost_ret (v := .tuple #[.agg #[.string ⟨#[]⟩, .int .i64 0], .bool false]) (by simp [results, Try.results28, go_sem, hc, hf, hz]) rfl ⟨rfl, ?_⟩
    repeat (first | exact Below.refl _ _ | assumption | refine Below.alloc ?_ (by (try simp); (try omega)) _ | refine Below.setCell ?_ (by (try simp); (try omega)) _ | refine Below.drew ?_ | refine bel_then (by assumption) (by (try simp); (try omega)) ?_ | refine only_then (by assumption) (by (try simp); (try omega)) (by (try simp); (try omega)) ?_ | refine bel_thenB (by assumption) (by (try simp); (try omega)) ?_)
end Go.Proofs.Ytagjafkleemffaa
