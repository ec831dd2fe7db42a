/- The walks of the laws over BitsOk and Get. -/
import Derived.Test.YtagjafkleemffaaC1SGet
import Derived.Test.YtagjafkleemffaaWRd
namespace Go.Proofs.Ytagjafkleemffaa
set_option linter.unusedVariables false
set_option linter.unusedSimpArgs false
open Go.RowKit

theorem toBits_any (s : ByteArray) (n : Int) (w : World) :
    Calls Try.prog 35 #[.agg #[.string s, .int .i64 n]] w fun e w' => e = .returned (.agg #[.string s, .int .i64 n]) ∧ Below w.heap.size w w' := by
  go_enter Try.func35, Try.ntmps35
  go_wp2
  refine bodyPost_ret (v := .agg #[.string s, .int .i64 n]) (by simp [results, Try.results35, go_sem]) rfl ⟨rfl, ?_⟩
  repeat (first | exact Below.refl _ _ | refine Below.alloc ?_ (by (try simp); (try omega)) _ | refine Below.setCell ?_ (by (try simp); (try omega)) _ | refine Below.drew ?_ | refine bel_then (by assumption) (by (try simp); (try omega)) ?_ | refine only_then (by assumption) (by (try simp); (try omega)) (by (try simp); (try omega)) ?_)

theorem walk_FnExactBitsOk (w : World) (s : ByteArray) (n : Int) (hs : s.size ≤ maxLen) (b1 : -9223372036854775808 ≤ n) (b2 : n ≤ 9223372036854775807) :
    Calls Try.prog 7 #[.agg #[.string s, .int .i64 n]] w fun e w' => e = .returned (.bool true) ∧ Below w.heap.size w w' := by
  have hs' := hs
  unfold maxLen at hs
  by_cases h20 : s.size ≤ 1048576
  · go_enter Try.func7, Try.ntmps7
    go_wp2_with (first | (go_at_call 34; go_in))
    refine (toBits_any _ _ _).mono ?_
    rintro e wa ⟨rfl, Bwa⟩
    obtain ⟨Cwa, Fwa, Lwa⟩ := bcell3 Bwa
    have ywa := Bwa.size; (try simp at ywa)
    have zwa0 : w.heap.size < wa.heap.size := by omega
    go_wp2_with (first | (go_at_call 34; go_in))
    refine (specBitsOk_any _ _ _ hs' b1 b2).mono ?_
    rintro e wb ⟨rfl, Bwb⟩
    obtain ⟨Cwb, Fwb, Lwb⟩ := bcell3 Bwb
    have ywb := Bwb.size; (try simp at ywb)
    have zwb0 : w.heap.size < wb.heap.size := by omega
    go_wp2_with (first | (go_at_call 34; go_in))
    refine (toBits_any _ _ _).mono ?_
    rintro e wc ⟨rfl, Bwc⟩
    obtain ⟨Cwc, Fwc, Lwc⟩ := bcell3 Bwc
    have ywc := Bwc.size; (try simp at ywc)
    have zwc0 : w.heap.size < wc.heap.size := by omega
    go_wp2_with (first | (go_at_call 34; go_in))
    refine (implBitsOk_any _ _ _ hs' b1 b2).mono ?_
    rintro e wd ⟨rfl, Bwd⟩
    obtain ⟨Cwd, Fwd, Lwd⟩ := bcell3 Bwd
    have ywd := Bwd.size; (try simp at ywd)
    have zwd0 : w.heap.size < wd.heap.size := by omega
    go_wp2
    all_goals
      go_ret
      refine ⟨rfl, ?_⟩
      repeat (first | exact Below.refl _ _ | refine Below.alloc ?_ (by (try simp); (try omega)) _ | refine Below.setCell ?_ (by (try simp); (try omega)) _ | refine Below.drew ?_ | refine bel_then (by assumption) (by (try simp); (try omega)) ?_ | refine only_then (by assumption) (by (try simp); (try omega)) (by (try simp); (try omega)) ?_)
  · go_enter Try.func7, Try.ntmps7
    go_wp2
    go_ret
    refine ⟨rfl, ?_⟩
    repeat (first | exact Below.refl _ _ | refine Below.alloc ?_ (by (try simp); (try omega)) _ | refine Below.setCell ?_ (by (try simp); (try omega)) _ | refine Below.drew ?_ | refine bel_then (by assumption) (by (try simp); (try omega)) ?_ | refine only_then (by assumption) (by (try simp); (try omega)) (by (try simp); (try omega)) ?_)

theorem walk_FnExactGet (w : World) (s : ByteArray) (n : Int) (hs : s.size ≤ maxLen) (b1 : -9223372036854775808 ≤ n) (b2 : n ≤ 9223372036854775807) (m : Int) (c1 : -9223372036854775808 ≤ m) (c2 : m ≤ 9223372036854775807) :
    Calls Try.prog 14 #[.agg #[.string s, .int .i64 n], .int .i64 m] w fun e w' => e = .returned (.bool true) ∧ Below w.heap.size w w' := by
  unfold maxLen at hs
  by_cases h20 : s.size ≤ 1048576
  · by_cases hg : 0 ≤ n ∧ 0 ≤ m ∧ m ≤ 32 ∧ n + m ≤ 8 * s.size
    · obtain ⟨n, rfl⟩ : ∃ k : Nat, n = k := ⟨n.toNat, by omega⟩
      obtain ⟨m, rfl⟩ : ∃ k : Nat, m = k := ⟨m.toNat, by omega⟩
      have g1 : m ≤ 32 := by omega
      have g2 : n + m ≤ 8 * s.size := by omega
      clear hg
      go_enter Try.func14, Try.ntmps14
      go_wp2_with (first | (go_at_call 39; go_in) | (go_at_call 44; go_in))
      refine (toRd_any _ _ _).mono ?_
      rintro e wa ⟨rfl, Bwa⟩
      obtain ⟨Cwa, Fwa, Lwa⟩ := bcell3 Bwa
      have ywa := Bwa.size; (try simp at ywa)
      have zwa0 : w.heap.size < wa.heap.size := by omega
      go_wp2_with (first | (go_at_call 39; go_in) | (go_at_call 44; go_in))
      refine (specGet_yes _ _ _ _ h20 g1 g2).mono ?_
      rintro e wb ⟨rfl, Bwb⟩
      obtain ⟨Cwb, Fwb, Lwb⟩ := bcell3 Bwb
      have ywb := Bwb.size; (try simp at ywb)
      have zwb0 : w.heap.size < wb.heap.size := by omega
      go_wp2_with (first | (go_at_call 39; go_in) | (go_at_call 44; go_in))
      refine (toRd_any _ _ _).mono ?_
      rintro e wc ⟨rfl, Bwc⟩
      obtain ⟨Cwc, Fwc, Lwc⟩ := bcell3 Bwc
      have ywc := Bwc.size; (try simp at ywc)
      have zwc0 : w.heap.size < wc.heap.size := by omega
      have zwc1 : wb.heap.size < wc.heap.size := by omega
      go_wp2_with (first | (go_at_call 39; go_in) | (go_at_call 44; go_in))
      refine (implGet_yes _ _ _ _ h20 g1 g2).mono ?_
      rintro e wd ⟨rfl, Bwd⟩
      obtain ⟨Cwd, Fwd, Lwd⟩ := bcell3 Bwd
      have ywd := Bwd.size; (try simp at ywd)
      have zwd0 : w.heap.size < wd.heap.size := by omega
      have zwd1 : wb.heap.size < wd.heap.size := by omega
      go_wp2
      all_goals
        go_ret
        refine ⟨rfl, ?_⟩
        repeat (first | exact Below.refl _ _ | refine Below.alloc ?_ (by (try simp); (try omega)) _ | refine Below.setCell ?_ (by (try simp); (try omega)) _ | refine Below.drew ?_ | refine bel_then (by assumption) (by (try simp); (try omega)) ?_ | refine only_then (by assumption) (by (try simp); (try omega)) (by (try simp); (try omega)) ?_)
    · have hg' := hidden hg
      clear hg
      go_enter Try.func14, Try.ntmps14
      go_wp2_with (first | (go_at_call 39; go_in) | (go_at_call 44; go_in))
      refine (toRd_any _ _ _).mono ?_
      rintro e wa ⟨rfl, Bwa⟩
      obtain ⟨Cwa, Fwa, Lwa⟩ := bcell3 Bwa
      have ywa := Bwa.size; (try simp at ywa)
      have zwa0 : w.heap.size < wa.heap.size := by omega
      go_wp2_with (first | (go_at_call 39; go_in) | (go_at_call 44; go_in))
      refine (specGet_no _ _ _ _ h20 b1 b2 hg'.out).mono ?_
      rintro e wb ⟨rfl, Bwb⟩
      obtain ⟨Cwb, Fwb, Lwb⟩ := bcell3 Bwb
      have ywb := Bwb.size; (try simp at ywb)
      have zwb0 : w.heap.size < wb.heap.size := by omega
      go_wp2_with (first | (go_at_call 39; go_in) | (go_at_call 44; go_in))
      refine (toRd_any _ _ _).mono ?_
      rintro e wc ⟨rfl, Bwc⟩
      obtain ⟨Cwc, Fwc, Lwc⟩ := bcell3 Bwc
      have ywc := Bwc.size; (try simp at ywc)
      have zwc0 : w.heap.size < wc.heap.size := by omega
      have zwc1 : wb.heap.size < wc.heap.size := by omega
      go_wp2_with (first | (go_at_call 39; go_in) | (go_at_call 44; go_in))
      refine (implGet_no _ _ _ _ h20 b1 b2 hg'.out).mono ?_
      rintro e wd ⟨rfl, Bwd⟩
      obtain ⟨Cwd, Fwd, Lwd⟩ := bcell3 Bwd
      have ywd := Bwd.size; (try simp at ywd)
      have zwd0 : w.heap.size < wd.heap.size := by omega
      have zwd1 : wb.heap.size < wd.heap.size := by omega
      go_wp2
      all_goals
        go_ret
        refine ⟨rfl, ?_⟩
        repeat (first | exact Below.refl _ _ | refine Below.alloc ?_ (by (try simp); (try omega)) _ | refine Below.setCell ?_ (by (try simp); (try omega)) _ | refine Below.drew ?_ | refine bel_then (by assumption) (by (try simp); (try omega)) ?_ | refine only_then (by assumption) (by (try simp); (try omega)) (by (try simp); (try omega)) ?_)
  · go_enter Try.func14, Try.ntmps14
    go_wp2
    go_ret
    refine ⟨rfl, ?_⟩
    repeat (first | exact Below.refl _ _ | refine Below.alloc ?_ (by (try simp); (try omega)) _ | refine Below.setCell ?_ (by (try simp); (try omega)) _ | refine Below.drew ?_ | refine bel_then (by assumption) (by (try simp); (try omega)) ?_ | refine only_then (by assumption) (by (try simp); (try omega)) (by (try simp); (try omega)) ?_)

end Go.Proofs.Ytagjafkleemffaa
