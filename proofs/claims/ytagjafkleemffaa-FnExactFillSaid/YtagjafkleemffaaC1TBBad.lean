/- Chapter 1: ToByte of the program, its reader not valid. -/
import Derived.Test.YtagjafkleemffaaC1TB
namespace Go.Proofs.Ytagjafkleemffaa
set_option linter.unusedVariables false
set_option linter.unusedSimpArgs false
open Go.RowKit

set_option maxHeartbeats 8000000 in
theorem implToByte_bad (s : ByteArray) (a : Int) (w : World) (hs : s.size ≤ 1048576) (b1 : -9223372036854775808 ≤ a) (b2 : a ≤ 9223372036854775807) (h0 : ¬ (0 ≤ a ∧ a ≤ 8 * s.size)) :
    Calls Try.prog 28 #[.agg #[.string s, .int .i64 a]] w fun e w' => e = .returned (.tuple #[.agg #[.string ⟨#[]⟩, .int .i64 0], .bool false]) ∧ Below w.heap.size w w' := by
  have hno := fun W (k : Int) => implGet_no s a k W hs b1 b2 (fun h => h0 (by omega))
  obtain ⟨k, hk⟩ : ∃ k : Int, k = (-a) % 8 := ⟨_, rfl⟩
  have hup := fun W => upToByte_any a W b1 b2
  simp only [← hk] at hup
  clear hk h0
  have HU := hidden hup
  have HN := hidden hno
  clear hup hno
  go_enter Try.func28, Try.ntmps28
  go_wp2
  go_region_with (first | (go_at_call 59; refine (HU.out _).mono ?_; rintro e w1 ⟨rfl, rfl⟩) | (go_at_call 20; refine (HN.out _ k).mono ?_; rintro e w1 ⟨rfl, hb⟩; obtain ⟨hc, hf, hll⟩ := bcell3 hb; have hy := hb.size; (try simp at hy); have hz : w.heap.size + 1 < w1.heap.size := by omega))
  all_goals
    go_wp2
    refine bodyPost_ret (v := .tuple #[.agg #[.string ⟨#[]⟩, .int .i64 0], .bool false]) (by simp [results, Try.results28, go_sem, hc, hf, hz]) rfl ⟨rfl, ?_⟩
    repeat (first | exact Below.refl _ _ | assumption | refine Below.alloc ?_ (by (try simp); (try omega)) _ | refine Below.setCell ?_ (by (try simp); (try omega)) _ | refine Below.drew ?_ | refine bel_then (by assumption) (by (try simp); (try omega)) ?_ | refine only_then (by assumption) (by (try simp); (try omega)) (by (try simp); (try omega)) ?_ | refine bel_thenB (by assumption) (by (try simp); (try omega)) ?_)
end Go.Proofs.Ytagjafkleemffaa
