/- The walks of the laws over Join, Fill, BitsOf and ToByte. -/
import Derived.Test.YtagjafkleemffaaC1SJoin
import Derived.Test.YtagjafkleemffaaC1IFill
import Derived.Test.YtagjafkleemffaaC1IFillNo
import Derived.Test.YtagjafkleemffaaC1TBNo
import Derived.Test.YtagjafkleemffaaC1TBBad
import Derived.Test.YtagjafkleemffaaC1STB
namespace Go.Proofs.Ytagjafkleemffaa
set_option linter.unusedVariables false
set_option linter.unusedSimpArgs false
open Go.RowKit

set_option maxHeartbeats 1000000 in
theorem walk_FnExactFill (w : World) (s : ByteArray) (n : Int) (hs : s.size ≤ maxLen) (b1 : -9223372036854775808 ≤ n) (b2 : n ≤ 9223372036854775807) :
    Calls Try.prog 10 #[.agg #[.string s, .int .i64 n]] w fun e w' => e = .returned (.bool true) ∧ Below w.heap.size w w' := by
  have hs' := hs
  unfold maxLen at hs
  by_cases h20 : s.size ≤ 1048576
  · by_cases hok : okB s n = true
    · obtain ⟨n, rfl⟩ : ∃ k : Nat, n = k := ⟨n.toNat, by have := (okB_iff _ _).1 hok; omega⟩
      go_enter Try.func10, Try.ntmps10
      go_wp2_with (first | (go_at_call 34; go_in) | (go_at_call 36; go_in))
      refine (toBits_any _ _ _).mono ?_
      rintro e wa ⟨rfl, Bwa⟩
      obtain ⟨Cwa, Fwa, Lwa⟩ := bcell3 Bwa
      have ywa := Bwa.size; (try simp at ywa)
      have zwa0 : w.heap.size < wa.heap.size := by omega
      go_wp2_with (first | (go_at_call 34; go_in) | (go_at_call 36; go_in))
      refine (specFill_yes _ _ _ hs' hok).mono ?_
      rintro e wb ⟨D, hD, rfl, Bwb⟩
      obtain ⟨Cwb, Fwb, Lwb⟩ := bcell3 Bwb
      have ywb := Bwb.size; (try simp at ywb)
      have zwb0 : w.heap.size < wb.heap.size := by omega
      go_wp2_with (first | (go_at_call 34; go_in) | (go_at_call 36; go_in))
      refine (toBits_any _ _ _).mono ?_
      rintro e wc ⟨rfl, Bwc⟩
      obtain ⟨Cwc, Fwc, Lwc⟩ := bcell3 Bwc
      have ywc := Bwc.size; (try simp at ywc)
      have zwc0 : w.heap.size < wc.heap.size := by omega
      have zwc1 : wb.heap.size < wc.heap.size := by omega
      go_wp2_with (first | (go_at_call 34; go_in) | (go_at_call 36; go_in))
      refine (implFill_yes _ _ _ hs' hok).mono ?_
      rintro e wd ⟨D2, hD2, rfl, Bwd⟩
      obtain ⟨Cwd, Fwd, Lwd⟩ := bcell3 Bwd
      have ywd := Bwd.size; (try simp at ywd)
      have zwd0 : w.heap.size < wd.heap.size := by omega
      have zwd1 : wb.heap.size < wd.heap.size := by omega
      obtain rfl : D = D2 := hD.unique hD2
      go_wp2
      all_goals
        go_ret
        refine ⟨rfl, ?_⟩
        repeat (first | exact Below.refl _ _ | assumption | refine Below.alloc ?_ (by (try simp); (try omega)) _ | refine Below.setCell ?_ (by (try simp); (try omega)) _ | refine Below.drew ?_ | refine bel_then (by assumption) (by (try simp); (try omega)) ?_ | refine only_then (by assumption) (by (try simp); (try omega)) (by (try simp); (try omega)) ?_ | refine bel_thenB (by assumption) (by (try simp); (try omega)) ?_)
    · have hok' : okB s n = false := by simpa using hok
      clear hok
      go_enter Try.func10, Try.ntmps10
      go_wp2_with (first | (go_at_call 34; go_in) | (go_at_call 36; go_in))
      refine (toBits_any _ _ _).mono ?_
      rintro e wa ⟨rfl, Bwa⟩
      obtain ⟨Cwa, Fwa, Lwa⟩ := bcell3 Bwa
      have ywa := Bwa.size; (try simp at ywa)
      have zwa0 : w.heap.size < wa.heap.size := by omega
      go_wp2_with (first | (go_at_call 34; go_in) | (go_at_call 36; go_in))
      refine (specFill_no _ _ _ hs' b1 b2 hok').mono ?_
      rintro e wb ⟨rfl, Bwb⟩
      obtain ⟨Cwb, Fwb, Lwb⟩ := bcell3 Bwb
      have ywb := Bwb.size; (try simp at ywb)
      have zwb0 : w.heap.size < wb.heap.size := by omega
      go_wp2_with (first | (go_at_call 34; go_in) | (go_at_call 36; go_in))
      refine (toBits_any _ _ _).mono ?_
      rintro e wc ⟨rfl, Bwc⟩
      obtain ⟨Cwc, Fwc, Lwc⟩ := bcell3 Bwc
      have ywc := Bwc.size; (try simp at ywc)
      have zwc0 : w.heap.size < wc.heap.size := by omega
      have zwc1 : wb.heap.size < wc.heap.size := by omega
      go_wp2_with (first | (go_at_call 34; go_in) | (go_at_call 36; go_in))
      refine (implFill_no _ _ _ hs' b1 b2 hok').mono ?_
      rintro e wd ⟨rfl, Bwd⟩
      obtain ⟨Cwd, Fwd, Lwd⟩ := bcell3 Bwd
      have ywd := Bwd.size; (try simp at ywd)
      have zwd0 : w.heap.size < wd.heap.size := by omega
      have zwd1 : wb.heap.size < wd.heap.size := by omega
      go_wp2
      all_goals
        go_ret
        refine ⟨rfl, ?_⟩
        repeat (first | exact Below.refl _ _ | assumption | refine Below.alloc ?_ (by (try simp); (try omega)) _ | refine Below.setCell ?_ (by (try simp); (try omega)) _ | refine Below.drew ?_ | refine bel_then (by assumption) (by (try simp); (try omega)) ?_ | refine only_then (by assumption) (by (try simp); (try omega)) (by (try simp); (try omega)) ?_ | refine bel_thenB (by assumption) (by (try simp); (try omega)) ?_)
  · go_enter Try.func10, Try.ntmps10
    go_wp2
    go_ret
    refine ⟨rfl, ?_⟩
    repeat (first | exact Below.refl _ _ | assumption | refine Below.alloc ?_ (by (try simp); (try omega)) _ | refine Below.setCell ?_ (by (try simp); (try omega)) _ | refine Below.drew ?_ | refine bel_then (by assumption) (by (try simp); (try omega)) ?_ | refine only_then (by assumption) (by (try simp); (try omega)) (by (try simp); (try omega)) ?_ | refine bel_thenB (by assumption) (by (try simp); (try omega)) ?_)

theorem specBitsOf_yes (s : ByteArray) (w : World) (hs : s.size ≤ 50000) :
    Calls Try.prog 38 #[.string s] w fun e w' => e = .returned (.tuple #[.agg #[.string s, .int .i64 ((8 * s.size : Nat) : Int)], .bool true]) ∧ Below w.heap.size w w' := by
  go_enter Try.func38, Try.ntmps38
  go_wp2
  refine bodyPost_ret (v := .tuple #[.agg #[.string s, .int .i64 ((8 * s.size : Nat) : Int)], .bool true]) (by simp [results, Try.results38, go_sem]) rfl ⟨rfl, ?_⟩
  repeat (first | exact Below.refl _ _ | assumption | refine Below.alloc ?_ (by (try simp); (try omega)) _ | refine Below.setCell ?_ (by (try simp); (try omega)) _ | refine Below.drew ?_ | refine bel_then (by assumption) (by (try simp); (try omega)) ?_ | refine only_then (by assumption) (by (try simp); (try omega)) (by (try simp); (try omega)) ?_ | refine bel_thenB (by assumption) (by (try simp); (try omega)) ?_)
theorem specBitsOf_no (s : ByteArray) (w : World) (hs : 50000 < s.size) (hs2 : s.size ≤ 1048576) :
    Calls Try.prog 38 #[.string s] w fun e w' => e = .returned (.tuple #[.agg #[.string ⟨#[]⟩, .int .i64 0], .bool false]) ∧ Below w.heap.size w w' := by
  go_enter Try.func38, Try.ntmps38
  go_wp2
  refine bodyPost_ret (v := .tuple #[.agg #[.string ⟨#[]⟩, .int .i64 0], .bool false]) (by simp [results, Try.results38, go_sem]) rfl ⟨rfl, ?_⟩
  repeat (first | exact Below.refl _ _ | assumption | refine Below.alloc ?_ (by (try simp); (try omega)) _ | refine Below.setCell ?_ (by (try simp); (try omega)) _ | refine Below.drew ?_ | refine bel_then (by assumption) (by (try simp); (try omega)) ?_ | refine only_then (by assumption) (by (try simp); (try omega)) (by (try simp); (try omega)) ?_ | refine bel_thenB (by assumption) (by (try simp); (try omega)) ?_)

theorem walk_FnExactBitsOf (w : World) (s : ByteArray) (hs : s.size ≤ maxLen) :
    Calls Try.prog 11 #[.string s] w fun e w' => e = .returned (.bool true) ∧ Below w.heap.size w w' := by
  unfold maxLen at hs
  by_cases h20 : s.size ≤ 1048576
  · by_cases h5 : s.size ≤ 50000
    · go_enter Try.func11, Try.ntmps11
      go_wp2_with (first | (go_at_call 36; go_in))
      refine (specBitsOf_yes _ _ h5).mono ?_
      rintro e wa ⟨rfl, Bwa⟩
      obtain ⟨Cwa, Fwa, Lwa⟩ := bcell3 Bwa
      have ywa := Bwa.size; (try simp at ywa)
      go_wp2_with (first | (go_at_call 36; go_in))
      refine (implBitsOf_yes _ _ h5).mono ?_
      rintro e wb ⟨rfl, Bwb⟩
      obtain ⟨Cwb, Fwb, Lwb⟩ := bcell3 Bwb
      have ywb := Bwb.size; (try simp at ywb)
      have zwb1 : wa.heap.size < wb.heap.size := by omega
      go_wp2
      all_goals
        go_ret
        refine ⟨rfl, ?_⟩
        repeat (first | exact Below.refl _ _ | assumption | refine Below.alloc ?_ (by (try simp); (try omega)) _ | refine Below.setCell ?_ (by (try simp); (try omega)) _ | refine Below.drew ?_ | refine bel_then (by assumption) (by (try simp); (try omega)) ?_ | refine only_then (by assumption) (by (try simp); (try omega)) (by (try simp); (try omega)) ?_ | refine bel_thenB (by assumption) (by (try simp); (try omega)) ?_)
    · have h5' : 50000 < s.size := by omega
      go_enter Try.func11, Try.ntmps11
      go_wp2_with (first | (go_at_call 36; go_in))
      refine (specBitsOf_no _ _ h5' h20).mono ?_
      rintro e wa ⟨rfl, Bwa⟩
      obtain ⟨Cwa, Fwa, Lwa⟩ := bcell3 Bwa
      have ywa := Bwa.size; (try simp at ywa)
      go_wp2_with (first | (go_at_call 36; go_in))
      refine (implBitsOf_no _ _ h5' h20).mono ?_
      rintro e wb ⟨rfl, Bwb⟩
      obtain ⟨Cwb, Fwb, Lwb⟩ := bcell3 Bwb
      have ywb := Bwb.size; (try simp at ywb)
      have zwb1 : wa.heap.size < wb.heap.size := by omega
      go_wp2
      all_goals
        go_ret
        refine ⟨rfl, ?_⟩
        repeat (first | exact Below.refl _ _ | assumption | refine Below.alloc ?_ (by (try simp); (try omega)) _ | refine Below.setCell ?_ (by (try simp); (try omega)) _ | refine Below.drew ?_ | refine bel_then (by assumption) (by (try simp); (try omega)) ?_ | refine only_then (by assumption) (by (try simp); (try omega)) (by (try simp); (try omega)) ?_ | refine bel_thenB (by assumption) (by (try simp); (try omega)) ?_)
  · go_enter Try.func11, Try.ntmps11
    go_wp2
    go_ret
    refine ⟨rfl, ?_⟩
    repeat (first | exact Below.refl _ _ | assumption | refine Below.alloc ?_ (by (try simp); (try omega)) _ | refine Below.setCell ?_ (by (try simp); (try omega)) _ | refine Below.drew ?_ | refine bel_then (by assumption) (by (try simp); (try omega)) ?_ | refine only_then (by assumption) (by (try simp); (try omega)) (by (try simp); (try omega)) ?_ | refine bel_thenB (by assumption) (by (try simp); (try omega)) ?_)

set_option maxHeartbeats 1000000 in
theorem walk_FnExactToByte (w : World) (s : ByteArray) (n : Int) (hs : s.size ≤ maxLen) (b1 : -9223372036854775808 ≤ n) (b2 : n ≤ 9223372036854775807) :
    Calls Try.prog 15 #[.agg #[.string s, .int .i64 n]] w fun e w' => e = .returned (.bool true) ∧ Below w.heap.size w w' := by
  unfold maxLen at hs
  by_cases h20 : s.size ≤ 1048576
  · by_cases hg : 0 ≤ n ∧ n ≤ 8 * s.size
    · obtain ⟨n, rfl⟩ : ∃ k : Nat, n = k := ⟨n.toNat, by omega⟩
      have g1 : n ≤ 8 * s.size := by omega
      clear hg
      by_cases hz : num (row s n (upN n)) = 0
      · have HZ := hidden hz
        clear hz
        go_enter Try.func15, Try.ntmps15
        go_wp2_with (first | (go_at_call 39; go_in) | (go_at_call 44; go_in))
        refine (toRd_any _ _ _).mono ?_
        rintro e wa ⟨rfl, Bwa⟩
        obtain ⟨Cwa, Fwa, Lwa⟩ := bcell3 Bwa
        have ywa := Bwa.size; (try simp at ywa)
        have zwa0 : w.heap.size < wa.heap.size := by omega
        go_wp2_with (first | (go_at_call 39; go_in) | (go_at_call 44; go_in))
        refine (specToByte_yes _ _ _ h20 g1 HZ.out).mono ?_
        rintro e wb ⟨rfl, Bwb⟩
        obtain ⟨Cwb, Fwb, Lwb⟩ := bcell3 Bwb
        have ywb := Bwb.size; (try simp at ywb)
        have zwb0 : w.heap.size < wb.heap.size := by omega
        go_wp2_with (first | (go_at_call 39; go_in) | (go_at_call 44; go_in))
        refine (toRd_any _ _ _).mono ?_
        rintro e wc ⟨rfl, Bwc⟩
        obtain ⟨Cwc, Fwc, Lwc⟩ := bcell3 Bwc
        have ywc := Bwc.size; (try simp at ywc)
        have zwc0 : w.heap.size < wc.heap.size := by omega
        have zwc1 : wb.heap.size < wc.heap.size := by omega
        go_wp2_with (first | (go_at_call 39; go_in) | (go_at_call 44; go_in))
        refine (implToByte_yes _ _ _ h20 g1 HZ.out).mono ?_
        rintro e wd ⟨rfl, Bwd⟩
        obtain ⟨Cwd, Fwd, Lwd⟩ := bcell3 Bwd
        have ywd := Bwd.size; (try simp at ywd)
        have zwd0 : w.heap.size < wd.heap.size := by omega
        have zwd1 : wb.heap.size < wd.heap.size := by omega
        go_wp2
        all_goals
          go_ret
          refine ⟨rfl, ?_⟩
          repeat (first | exact Below.refl _ _ | assumption | refine Below.alloc ?_ (by (try simp); (try omega)) _ | refine Below.setCell ?_ (by (try simp); (try omega)) _ | refine Below.drew ?_ | refine bel_then (by assumption) (by (try simp); (try omega)) ?_ | refine only_then (by assumption) (by (try simp); (try omega)) (by (try simp); (try omega)) ?_ | refine bel_thenB (by assumption) (by (try simp); (try omega)) ?_)
      · have HZ := hidden hz
        clear hz
        go_enter Try.func15, Try.ntmps15
        go_wp2_with (first | (go_at_call 39; go_in) | (go_at_call 44; go_in))
        refine (toRd_any _ _ _).mono ?_
        rintro e wa ⟨rfl, Bwa⟩
        obtain ⟨Cwa, Fwa, Lwa⟩ := bcell3 Bwa
        have ywa := Bwa.size; (try simp at ywa)
        have zwa0 : w.heap.size < wa.heap.size := by omega
        go_wp2_with (first | (go_at_call 39; go_in) | (go_at_call 44; go_in))
        refine (specToByte_bits _ _ _ h20 g1 HZ.out).mono ?_
        rintro e wb ⟨rfl, Bwb⟩
        obtain ⟨Cwb, Fwb, Lwb⟩ := bcell3 Bwb
        have ywb := Bwb.size; (try simp at ywb)
        have zwb0 : w.heap.size < wb.heap.size := by omega
        go_wp2_with (first | (go_at_call 39; go_in) | (go_at_call 44; go_in))
        refine (toRd_any _ _ _).mono ?_
        rintro e wc ⟨rfl, Bwc⟩
        obtain ⟨Cwc, Fwc, Lwc⟩ := bcell3 Bwc
        have ywc := Bwc.size; (try simp at ywc)
        have zwc0 : w.heap.size < wc.heap.size := by omega
        have zwc1 : wb.heap.size < wc.heap.size := by omega
        go_wp2_with (first | (go_at_call 39; go_in) | (go_at_call 44; go_in))
        refine (implToByte_bits _ _ _ h20 g1 HZ.out).mono ?_
        rintro e wd ⟨rfl, Bwd⟩
        obtain ⟨Cwd, Fwd, Lwd⟩ := bcell3 Bwd
        have ywd := Bwd.size; (try simp at ywd)
        have zwd0 : w.heap.size < wd.heap.size := by omega
        have zwd1 : wb.heap.size < wd.heap.size := by omega
        go_wp2
        all_goals
          go_ret
          refine ⟨rfl, ?_⟩
          repeat (first | exact Below.refl _ _ | assumption | refine Below.alloc ?_ (by (try simp); (try omega)) _ | refine Below.setCell ?_ (by (try simp); (try omega)) _ | refine Below.drew ?_ | refine bel_then (by assumption) (by (try simp); (try omega)) ?_ | refine only_then (by assumption) (by (try simp); (try omega)) (by (try simp); (try omega)) ?_ | refine bel_thenB (by assumption) (by (try simp); (try omega)) ?_)
    · have hg' := hidden hg
      clear hg
      go_enter Try.func15, Try.ntmps15
      go_wp2_with (first | (go_at_call 39; go_in) | (go_at_call 44; go_in))
      refine (toRd_any _ _ _).mono ?_
      rintro e wa ⟨rfl, Bwa⟩
      obtain ⟨Cwa, Fwa, Lwa⟩ := bcell3 Bwa
      have ywa := Bwa.size; (try simp at ywa)
      have zwa0 : w.heap.size < wa.heap.size := by omega
      go_wp2_with (first | (go_at_call 39; go_in) | (go_at_call 44; go_in))
      refine (specToByte_bad _ _ _ h20 b1 b2 hg'.out).mono ?_
      rintro e wb ⟨rfl, Bwb⟩
      obtain ⟨Cwb, Fwb, Lwb⟩ := bcell3 Bwb
      have ywb := Bwb.size; (try simp at ywb)
      have zwb0 : w.heap.size < wb.heap.size := by omega
      go_wp2_with (first | (go_at_call 39; go_in) | (go_at_call 44; go_in))
      refine (toRd_any _ _ _).mono ?_
      rintro e wc ⟨rfl, Bwc⟩
      obtain ⟨Cwc, Fwc, Lwc⟩ := bcell3 Bwc
      have ywc := Bwc.size; (try simp at ywc)
      have zwc0 : w.heap.size < wc.heap.size := by omega
      have zwc1 : wb.heap.size < wc.heap.size := by omega
      go_wp2_with (first | (go_at_call 39; go_in) | (go_at_call 44; go_in))
      refine (implToByte_bad _ _ _ h20 b1 b2 hg'.out).mono ?_
      rintro e wd ⟨rfl, Bwd⟩
      obtain ⟨Cwd, Fwd, Lwd⟩ := bcell3 Bwd
      have ywd := Bwd.size; (try simp at ywd)
      have zwd0 : w.heap.size < wd.heap.size := by omega
      have zwd1 : wb.heap.size < wd.heap.size := by omega
      go_wp2
      all_goals
        go_ret
        refine ⟨rfl, ?_⟩
        repeat (first | exact Below.refl _ _ | assumption | refine Below.alloc ?_ (by (try simp); (try omega)) _ | refine Below.setCell ?_ (by (try simp); (try omega)) _ | refine Below.drew ?_ | refine bel_then (by assumption) (by (try simp); (try omega)) ?_ | refine only_then (by assumption) (by (try simp); (try omega)) (by (try simp); (try omega)) ?_ | refine bel_thenB (by assumption) (by (try simp); (try omega)) ?_)
  · go_enter Try.func15, Try.ntmps15
    go_wp2
    go_ret
    refine ⟨rfl, ?_⟩
    repeat (first | exact Below.refl _ _ | assumption | refine Below.alloc ?_ (by (try simp); (try omega)) _ | refine Below.setCell ?_ (by (try simp); (try omega)) _ | refine Below.drew ?_ | refine bel_then (by assumption) (by (try simp); (try omega)) ?_ | refine only_then (by assumption) (by (try simp); (try omega)) (by (try simp); (try omega)) ?_ | refine bel_thenB (by assumption) (by (try simp); (try omega)) ?_)

end Go.Proofs.Ytagjafkleemffaa
