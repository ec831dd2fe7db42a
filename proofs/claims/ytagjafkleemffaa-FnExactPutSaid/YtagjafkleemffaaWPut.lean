/- The walk of the law over Put. -/
import Derived.Test.YtagjafkleemffaaC1IPut
import Derived.Test.YtagjafkleemffaaC1SPutNo
import Derived.Test.YtagjafkleemffaaC1IPutNo
import Derived.Test.YtagjafkleemffaaWGet
namespace Go.Proofs.Ytagjafkleemffaa
set_option linter.unusedVariables false
set_option linter.unusedSimpArgs false
open Go.RowKit

set_option maxHeartbeats 1000000 in
theorem walk_FnExactPut (w : World) (s : ByteArray) (n : Int) (hs : s.size ≤ maxLen) (b1 : -9223372036854775808 ≤ n) (b2 : n ≤ 9223372036854775807) (v : Int) (c1 : -9223372036854775808 ≤ v) (c2 : v ≤ 9223372036854775807) (k : Int) (d1 : -9223372036854775808 ≤ k) (d2 : k ≤ 9223372036854775807) :
    Calls Try.prog 8 #[.agg #[.string s, .int .i64 n], .int .i64 v, .int .i64 k] w fun e w' => e = .returned (.bool true) ∧ Below w.heap.size w w' := by
  have hs' := hs
  unfold maxLen at hs
  by_cases h20 : s.size ≤ 1048576
  · by_cases hg : okB s n = true ∧ 0 ≤ k ∧ k ≤ 32 ∧ 0 ≤ v ∧ v < ((2 ^ k.toNat : Nat) : Int) ∧ n + k ≤ 400000
    · obtain ⟨hok, g1, g2, g3, g4, g5⟩ := hg
      obtain ⟨n, rfl⟩ : ∃ m : Nat, n = m := ⟨n.toNat, by have := (okB_iff _ _).1 hok; omega⟩
      obtain ⟨v, rfl⟩ : ∃ m : Nat, v = m := ⟨v.toNat, by omega⟩
      obtain ⟨k, rfl⟩ : ∃ m : Nat, k = m := ⟨k.toNat, by omega⟩
      have g4' : v < 2 ^ k := by rw [Int.toNat_natCast] at g4; omega
      have g2' : k ≤ 32 := by omega
      have g5' : n + k ≤ 400000 := by omega
      have G4 := hidden g4'
      clear g4 g4'
      go_enter Try.func8, Try.ntmps8
      go_wp2_with (first | (go_at_call 34; go_in) | (go_at_call 36; go_in))
      refine (toBits_any _ _ _).mono ?_
      rintro e wa ⟨rfl, Bwa⟩
      obtain ⟨Cwa, Fwa, Lwa⟩ := bcell3 Bwa
      have ywa := Bwa.size; (try simp at ywa)
      have zwa0 : w.heap.size < wa.heap.size := by omega
      go_wp2_with (first | (go_at_call 34; go_in) | (go_at_call 36; go_in))
      refine (specPut_yes _ _ _ _ _ hs' hok g2' G4.out g5').mono ?_
      rintro e wb ⟨D, hD, rfl, Bwb⟩
      obtain ⟨Cwb, Fwb, Lwb⟩ := bcell3 Bwb
      have ywb := Bwb.size; (try simp at ywb)
      have zwb0 : w.heap.size < wb.heap.size := by omega
      go_wp2_with (first | (go_at_call 34; go_in) | (go_at_call 36; go_in))
      refine (toBits_any _ _ _).mono ?_
      rintro e wc ⟨rfl, Bwc⟩
      obtain ⟨Cwc, Fwc, Lwc⟩ := bcell3 Bwc
      have ywc := Bwc.size; (try simp at ywc)
      have zwc0 : w.heap.size < wc.heap.size := by omega
      have zwc1 : wb.heap.size < wc.heap.size := by omega
      go_wp2_with (first | (go_at_call 34; go_in) | (go_at_call 36; go_in))
      refine (implPut_yes _ _ _ _ _ hs' hok g2' G4.out g5').mono ?_
      rintro e wd ⟨D2, hD2, rfl, Bwd⟩
      obtain ⟨Cwd, Fwd, Lwd⟩ := bcell3 Bwd
      have ywd := Bwd.size; (try simp at ywd)
      have zwd0 : w.heap.size < wd.heap.size := by omega
      have zwd1 : wb.heap.size < wd.heap.size := by omega
      obtain rfl : D = D2 := hD.unique hD2
      go_wp2
      all_goals
        go_ret
        refine ⟨rfl, ?_⟩
        repeat (first | exact Below.refl _ _ | assumption | refine Below.alloc ?_ (by (try simp); (try omega)) _ | refine Below.setCell ?_ (by (try simp); (try omega)) _ | refine Below.drew ?_ | refine bel_then (by assumption) (by (try simp); (try omega)) ?_ | refine only_then (by assumption) (by (try simp); (try omega)) (by (try simp); (try omega)) ?_ | refine bel_thenB (by assumption) (by (try simp); (try omega)) ?_)
    · have hg' := hidden hg
      clear hg
      go_enter Try.func8, Try.ntmps8
      go_wp2_with (first | (go_at_call 34; go_in) | (go_at_call 36; go_in))
      refine (toBits_any _ _ _).mono ?_
      rintro e wa ⟨rfl, Bwa⟩
      obtain ⟨Cwa, Fwa, Lwa⟩ := bcell3 Bwa
      have ywa := Bwa.size; (try simp at ywa)
      have zwa0 : w.heap.size < wa.heap.size := by omega
      go_wp2_with (first | (go_at_call 34; go_in) | (go_at_call 36; go_in))
      refine (specPut_no _ _ _ _ _ hs' b1 b2 c1 c2 hg'.out).mono ?_
      rintro e wb ⟨rfl, Bwb⟩
      obtain ⟨Cwb, Fwb, Lwb⟩ := bcell3 Bwb
      have ywb := Bwb.size; (try simp at ywb)
      have zwb0 : w.heap.size < wb.heap.size := by omega
      go_wp2_with (first | (go_at_call 34; go_in) | (go_at_call 36; go_in))
      refine (toBits_any _ _ _).mono ?_
      rintro e wc ⟨rfl, Bwc⟩
      obtain ⟨Cwc, Fwc, Lwc⟩ := bcell3 Bwc
      have ywc := Bwc.size; (try simp at ywc)
      have zwc0 : w.heap.size < wc.heap.size := by omega
      have zwc1 : wb.heap.size < wc.heap.size := by omega
      go_wp2_with (first | (go_at_call 34; go_in) | (go_at_call 36; go_in))
      refine (implPut_no _ _ _ _ _ hs' b1 b2 c1 c2 hg'.out).mono ?_
      rintro e wd ⟨rfl, Bwd⟩
      obtain ⟨Cwd, Fwd, Lwd⟩ := bcell3 Bwd
      have ywd := Bwd.size; (try simp at ywd)
      have zwd0 : w.heap.size < wd.heap.size := by omega
      have zwd1 : wb.heap.size < wd.heap.size := by omega
      go_wp2
      all_goals
        go_ret
        refine ⟨rfl, ?_⟩
        repeat (first | exact Below.refl _ _ | assumption | refine Below.alloc ?_ (by (try simp); (try omega)) _ | refine Below.setCell ?_ (by (try simp); (try omega)) _ | refine Below.drew ?_ | refine bel_then (by assumption) (by (try simp); (try omega)) ?_ | refine only_then (by assumption) (by (try simp); (try omega)) (by (try simp); (try omega)) ?_ | refine bel_thenB (by assumption) (by (try simp); (try omega)) ?_)
  · go_enter Try.func8, Try.ntmps8
    go_wp2
    go_ret
    refine ⟨rfl, ?_⟩
    repeat (first | exact Below.refl _ _ | assumption | refine Below.alloc ?_ (by (try simp); (try omega)) _ | refine Below.setCell ?_ (by (try simp); (try omega)) _ | refine Below.drew ?_ | refine bel_then (by assumption) (by (try simp); (try omega)) ?_ | refine only_then (by assumption) (by (try simp); (try omega)) (by (try simp); (try omega)) ?_ | refine bel_thenB (by assumption) (by (try simp); (try omega)) ?_)

end Go.Proofs.Ytagjafkleemffaa
