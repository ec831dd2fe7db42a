/- Chapter 1: Fill of the program, where it refuses. -/
import Derived.Test.YtagjafkleemffaaC1Fill
namespace Go.Proofs.Ytagjafkleemffaa
set_option linter.unusedVariables false
set_option linter.unusedSimpArgs false
open Go.RowKit

set_option maxHeartbeats 8000000 in
theorem implFill_no (s : ByteArray) (n : Int) (w : World) (hs : s.size ≤ maxLen) (b1 : -9223372036854775808 ≤ n) (b2 : n ≤ 9223372036854775807) (hok : okB s n = false) :
    Calls Try.prog 26 #[.agg #[.string s, .int .i64 n]] w fun e w' => e = .returned (.agg #[.string ⟨#[]⟩, .int .i64 0]) ∧ Below w.heap.size w w' := by
  have hno := fun W k => implPut_no s n 0 k W hs b1 b2 (by omega) (by omega) (fun h => by rw [hok] at h; simp at h)
  have H := hidden hok
  clear hok
  obtain ⟨k, hk⟩ : ∃ k : Int, k = (-n) % 8 := ⟨_, rfl⟩
  have hup := fun W => upToByte_any n W b1 b2
  simp only [← hk] at hup
  clear hk
  have HU := hidden hup
  have HN := hidden hno
  clear hup hno
  go_enter Try.func26, Try.ntmps26
  go_wp2
  go_region_with (first | (go_at_call 59; refine (HU.out _).mono ?_; rintro e w1 ⟨rfl, rfl⟩) | (go_at_call 17; refine (HN.out _ k).mono ?_; rintro e w1 ⟨rfl, hb⟩; obtain ⟨hc, hf, hll⟩ := bcell3 hb; have hy := hb.size; (try simp at hy); have hz : w.heap.size + 1 < w1.heap.size := by omega))
  all_goals
    go_wp2
    refine bodyPost_ret (v := .agg #[.string ⟨#[]⟩, .int .i64 0]) (by simp [results, Try.results26, go_sem, hc, hf, hz]) rfl ⟨rfl, ?_⟩
    repeat (first | exact Below.refl _ _ | assumption | refine Below.alloc ?_ (by (try simp); (try omega)) _ | refine Below.setCell ?_ (by (try simp); (try omega)) _ | refine Below.drew ?_ | refine bel_then (by assumption) (by (try simp); (try omega)) ?_ | refine only_then (by assumption) (by (try simp); (try omega)) (by (try simp); (try omega)) ?_ | refine bel_thenB (by assumption) (by (try simp); (try omega)) ?_)
end Go.Proofs.Ytagjafkleemffaa
