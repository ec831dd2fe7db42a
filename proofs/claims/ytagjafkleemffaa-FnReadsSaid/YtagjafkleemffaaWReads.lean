/- The walk of the law over reading in parts. -/
import Derived.Test.YtagjafkleemffaaDr5
namespace Go.Proofs.Ytagjafkleemffaa
set_option linter.unusedVariables false
set_option linter.unusedSimpArgs false
open Go.RowKit

attribute [local go_sem ↓] Go.wp_at_zero Go.wp_at_succ
set_option maxRecDepth 100000 in
set_option maxHeartbeats 4000000 in
theorem walk_FnReads (w : World) (a0 : Option Addr) (len0 cap0 : Nat) (z0 : List Int) (w0 : IsRow .u8 w a0 len0 cap0 z0) :
    Calls Try.prog 6 #[.slice a0 len0 cap0] w fun e w' => e = .returned (.bool true) ∧ Below w.heap.size w w' := by
  have hcode := Code.ofRow w0
  clear w0
  go_enter Try.func6, Try.ntmps6
  go_wp2_with fail
  refine (drawGet_any _ _ _ _ _ hcode).mono ?_
  rintro e wa ⟨s, A, N, rfl, hs, hA1, hA2, hN1, hN2, Ba⟩
  have ya := Ba.size
  have hcode1 := hcode.below (Ba.alloc ya (.cells #[.string s, .int .i64 A] 31))
  go_wp2_with fail
  refine (at_any _ _ _ _ 1 _ _ hcode1 ⟨by omega, by omega⟩).mono ?_
  rintro e wx ⟨x, rfl, hx0, hx1, rfl⟩
  obtain ⟨m, hm⟩ : ∃ m : Nat, x % 17 = m := ⟨(x % 17).toNat, by omega⟩
  have hm16 : m ≤ 16 := by omega
  clear hcode hcode1
  have hs2 : s.size ≤ 1048576 := by omega
  have he0 : (⟨#[]⟩ : ByteArray).size ≤ 1048576 := Nat.zero_le _
  by_cases hg : 0 ≤ A ∧ 0 ≤ N ∧ N ≤ 32 ∧ A + N ≤ 8 * s.size
  · obtain ⟨A, rfl⟩ : ∃ k : Nat, A = k := ⟨A.toNat, by omega⟩
    obtain ⟨N, rfl⟩ : ∃ k : Nat, N = k := ⟨N.toNat, by omega⟩
    have g1 : N ≤ 32 := by omega
    have g2 : A + N ≤ 8 * s.size := by omega
    clear hg hA1 hA2 hN1 hN2
    go_wp2_with fail
    refine (implGet_yes s A N _ hs2 g1 g2).mono ?_
    rintro e wb ⟨rfl, Bwb⟩
    obtain ⟨Cwb, Fwb, Lwb⟩ := bcell3 Bwb
    have ywb := Bwb.size; (try simp at ywb)
    have zwb0 : wa.heap.size < wb.heap.size := by omega
    by_cases hg2 : A + N + m ≤ 8 * s.size
    · have k0 := implGet_yes s (A + N) m
      have g3 : m ≤ 32 := by omega
      go_wp2_with fail
      refine (k0 _ hs2 g3 hg2).mono ?_
      rintro e wc ⟨rfl, Bwc⟩
      obtain ⟨Cwc, Fwc, Lwc⟩ := bcell3 Bwc
      have ywc := Bwc.size; (try simp at ywc)
      have zwc0 : wa.heap.size < wc.heap.size := by omega
      have zwc1 : wb.heap.size < wc.heap.size := by omega
      clear k0
      by_cases h32 : N + m ≤ 32
      · have hX : num (row s A (N + m)) = num (row s A N) * 2 ^ m + num (row s (A + N) m) := by rw [row_add, num_append, row_len]
        have k1 := implGet_yes s A (N + m)
        rw [← Nat.add_assoc A N m] at k1
        simp only [Int.natCast_add N m] at k1
        have hV := num_row_lt s A N
        have hV2 := num_row_lt s (A + N) m
        have h2 : 2 ^ N * 2 ^ m ≤ 2 ^ 32 := by rw [← Nat.pow_add]; exact Nat.pow_le_pow_right (by omega) h32
        have h3 : 2 ^ m ≤ 2 ^ 32 := Nat.pow_le_pow_right (by omega) g3
        have h4 : num (row s A N) * 2 ^ m ≤ 2 ^ N * 2 ^ m := Nat.mul_le_mul_right _ (by omega)
        have hsum : ((num (row s A (N + m)) : Int) == IntKind.i64.wrap (IntKind.i64.wrap ((num (row s A N) : Int) * 2 ^ m) + (num (row s (A + N) m) : Int))) = true := by
          rw [hX, show ((num (row s A N) : Int) * 2 ^ m) = ((num (row s A N) * 2 ^ m : Nat) : Int) by simp, wrap_i64_n _ (by omega), ← Int.natCast_add, wrap_i64_n _ (by omega)]
          simp
        have hleft : ((8 * (s.size : Int) - ((A : Int) + (N : Int) + (m : Int))) == IntKind.i64.wrap (IntKind.i64.wrap (8 * (s.size : Int) - (A : Int) - (N : Int)) - (m : Int))) = true := by
          rw [IntWalk.i64_in (8 * (s.size : Int) - (A : Int) - (N : Int)) (by omega), IntWalk.i64_in (8 * (s.size : Int) - (A : Int) - (N : Int) - (m : Int)) (by omega), beq_iff_eq]; omega
        have hleft2 : ((8 * (s.size : Int) - ((A + N + m : Nat) : Int)) == IntKind.i64.wrap (IntKind.i64.wrap (8 * (s.size : Int) - (A : Int) - (N : Int)) - (m : Int))) = true := by
          rw [IntWalk.i64_in (8 * (s.size : Int) - (A : Int) - (N : Int)) (by omega), IntWalk.i64_in (8 * (s.size : Int) - (A : Int) - (N : Int) - (m : Int)) (by omega), beq_iff_eq]; omega
        clear hX hV hV2 h2 h3 h4
        go_wp2_with fail
        refine (k1 _ hs2 h32 (by omega)).mono ?_
        rintro e wd ⟨rfl, Bwd⟩
        obtain ⟨Cwd, Fwd, Lwd⟩ := bcell3 Bwd
        have ywd := Bwd.size; (try simp at ywd)
        have zwd0 : wa.heap.size < wd.heap.size := by omega
        have zwd1 : wb.heap.size < wd.heap.size := by omega
        have zwd2 : wc.heap.size < wd.heap.size := by omega
        have hT3 := ((((Has.fresh wa 31 #[.string s, .int .i64 A]).below Bwb (by simp)).alloc (.cells #[.string s, .int .i64 ((A + N : Nat) : Int)] 31)).below Bwc (by (try simp); (try omega))).alloc (.cells #[.string s, .int .i64 ((A + N + m : Nat) : Int)] 31) |>.below Bwd (by (try simp); (try omega)) |>.alloc (.cells #[.string s, .int .i64 ((A + N + m : Nat) : Int)] 31)
        have hT10 := ((Has.fresh wc 31 #[.string s, .int .i64 ((A + N + m : Nat) : Int)]).below Bwd (by (try simp); (try omega))).alloc (.cells #[.string s, .int .i64 ((A + N + m : Nat) : Int)] 31)
        have hT16 := Has.fresh wd 31 #[.string s, .int .i64 ((A + N + m : Nat) : Int)]
        have bb : Below w.heap.size w (wd.alloc (.cells #[.string s, .int .i64 ((A + N + m : Nat) : Int)] 31)) := by
          repeat (first | exact Below.refl _ _ | assumption | refine Below.alloc ?_ (by (try simp); (try omega)) _ | refine Below.setCell ?_ (by (try simp); (try omega)) _ | refine Below.drew ?_ | refine bel_then (by assumption) (by (try simp); (try omega)) ?_ | refine only_then (by assumption) (by (try simp); (try omega)) (by (try simp); (try omega)) ?_ | refine bel_thenB (by assumption) (by (try simp); (try omega)) ?_)
        clear k1 Cwb Fwb Lwb Cwc Fwc Lwc Cwd Fwd Lwd
        have p0 := hT3.cell 0
        have p1 := hT3.cell 1
        have p2 := hT10.cell 0
        have p3 := hT10.cell 1
        simp at p0 p1 p2 p3
        have kL1 := fun W => implLeft_yes s (A + N + m) W hs2 hg2
        have kL2 := fun W => implLeft_yes s A W hs2 (by omega)
        simp only [Int.natCast_add] at kL1
        have KL1 := hidden kL1
        have KL2 := hidden kL2
        clear kL1 kL2
        go_wp2
        go_region_held3 (fun w' => w'.cell? ⟨wa.heap.size, 0, none⟩ = some (.string s) ∧ w'.cell? ⟨wa.heap.size, 1, none⟩ = some (.int .i64 A) ∧ w'.cell? ⟨wc.heap.size, 0, none⟩ = some (.string s) ∧ w'.cell? ⟨wc.heap.size, 1, none⟩ = some (.int .i64 ((A + N + m : Nat) : Int)) ∧ w'.cell? ⟨wd.heap.size, 0, none⟩ = some (.string s) ∧ w'.cell? ⟨wd.heap.size, 1, none⟩ = some (.int .i64 ((A + N + m : Nat) : Int))) (go_keep) (first | (go_at_call 33; first | ((with_reducible refine (KL1.out _).mono ?_); rintro e wX ⟨rfl, BX⟩; have yX := BX.size; (try simp at yX); replace hT3 : Has wX _ _ _ := (BX.block _ (by (try simp); (try omega))).trans hT3; replace hT10 : Has wX _ _ _ := (BX.block _ (by (try simp); (try omega))).trans hT10; replace hT16 : Has wX _ _ _ := (BX.block _ (by (try simp); (try omega))).trans hT16; replace bb : Below w.heap.size w wX := bel_then BX (by (try simp); (try omega)) ⟨bb.os, bb.tape, bb.output, bb.size, bb.block⟩; have l1 := hT3.lt; have l2 := hT10.lt; have l3 := hT16.lt; have p0 := hT3.cell 0; have p1 := hT3.cell 1; have p2 := hT10.cell 0; have p3 := hT10.cell 1; have p4 := hT16.cell 0; have p5 := hT16.cell 1; simp at p0 p1 p2 p3 p4 p5; clear BX) | ((with_reducible refine (KL2.out _).mono ?_); rintro e wX ⟨rfl, BX⟩; have yX := BX.size; (try simp at yX); replace hT3 : Has wX _ _ _ := (BX.block _ (by (try simp); (try omega))).trans hT3; replace hT10 : Has wX _ _ _ := (BX.block _ (by (try simp); (try omega))).trans hT10; replace hT16 : Has wX _ _ _ := (BX.block _ (by (try simp); (try omega))).trans hT16; replace bb : Below w.heap.size w wX := bel_then BX (by (try simp); (try omega)) ⟨bb.os, bb.tape, bb.output, bb.size, bb.block⟩; have l1 := hT3.lt; have l2 := hT10.lt; have l3 := hT16.lt; have p0 := hT3.cell 0; have p1 := hT3.cell 1; have p2 := hT10.cell 0; have p3 := hT10.cell 1; have p4 := hT16.cell 0; have p5 := hT16.cell 1; simp at p0 p1 p2 p3 p4 p5; clear BX)) | (go_at_call 19; refine (rows_any _).mono ?_; rintro e wX ⟨rfl, BX⟩; have yX := BX.size; (try simp at yX); replace hT3 : Has wX _ _ _ := (BX.block _ (by (try simp); (try omega))).trans hT3; replace hT10 : Has wX _ _ _ := (BX.block _ (by (try simp); (try omega))).trans hT10; replace hT16 : Has wX _ _ _ := (BX.block _ (by (try simp); (try omega))).trans hT16; replace bb : Below w.heap.size w wX := bel_then BX (by (try simp); (try omega)) ⟨bb.os, bb.tape, bb.output, bb.size, bb.block⟩; have l1 := hT3.lt; have l2 := hT10.lt; have l3 := hT16.lt; have p0 := hT3.cell 0; have p1 := hT3.cell 1; have p2 := hT10.cell 0; have p3 := hT10.cell 1; have p4 := hT16.cell 0; have p5 := hT16.cell 1; simp at p0 p1 p2 p3 p4 p5; clear BX))
        all_goals
          go_wp2
          go_ret
          refine ⟨rfl, ?_⟩
          repeat (first | exact Below.refl _ _ | assumption | refine Below.alloc ?_ (by (try simp); (try omega)) _ | refine Below.setCell ?_ (by (try simp); (try omega)) _ | refine Below.drew ?_ | refine bel_then (by assumption) (by (try simp); (try omega)) ?_ | refine only_then (by assumption) (by (try simp); (try omega)) (by (try simp); (try omega)) ?_ | refine bel_thenB (by assumption) (by (try simp); (try omega)) ?_)

      · have h32' : (32 : Int) < (N : Int) + (m : Int) := by omega
        go_wp2_with fail
        refine (specGet_yes s A N _ hs2 g1 g2).mono ?_
        rintro e wd ⟨rfl, Bwd⟩
        obtain ⟨Cwd, Fwd, Lwd⟩ := bcell3 Bwd
        have ywd := Bwd.size; (try simp at ywd)
        have zwd0 : wa.heap.size < wd.heap.size := by omega
        have zwd1 : wb.heap.size < wd.heap.size := by omega
        have zwd2 : wc.heap.size < wd.heap.size := by omega
        go_wp2_with fail
        refine (rows_any _).mono ?_
        rintro e we ⟨rfl, Bwe⟩
        obtain ⟨Cwe, Fwe, Lwe⟩ := bcell3 Bwe
        have ywe := Bwe.size; (try simp at ywe)
        have zwe0 : wa.heap.size < we.heap.size := by omega
        go_wp2
        go_ret
        refine ⟨rfl, ?_⟩
        repeat (first | exact Below.refl _ _ | assumption | refine Below.alloc ?_ (by (try simp); (try omega)) _ | refine Below.setCell ?_ (by (try simp); (try omega)) _ | refine Below.drew ?_ | refine bel_then (by assumption) (by (try simp); (try omega)) ?_ | refine only_then (by assumption) (by (try simp); (try omega)) (by (try simp); (try omega)) ?_ | refine bel_thenB (by assumption) (by (try simp); (try omega)) ?_)
    · have hno := fun W => implGet_no s ((A + N : Nat) : Int) m W hs2 (by omega) (by omega) (fun h => hg2 (by omega))
      go_wp2_with fail
      refine (hno _).mono ?_
      rintro e wc ⟨rfl, Bwc⟩
      obtain ⟨Cwc, Fwc, Lwc⟩ := bcell3 Bwc
      have ywc := Bwc.size; (try simp at ywc)
      have zwc0 : wa.heap.size < wc.heap.size := by omega
      have zwc1 : wb.heap.size < wc.heap.size := by omega
      clear hno
      go_wp2_with fail
      refine (specGet_yes s A N _ hs2 g1 g2).mono ?_
      rintro e wd ⟨rfl, Bwd⟩
      obtain ⟨Cwd, Fwd, Lwd⟩ := bcell3 Bwd
      have ywd := Bwd.size; (try simp at ywd)
      have zwd0 : wa.heap.size < wd.heap.size := by omega
      have zwd1 : wb.heap.size < wd.heap.size := by omega
      have zwd2 : wc.heap.size < wd.heap.size := by omega
      go_wp2_with fail
      refine (rows_any _).mono ?_
      rintro e we ⟨rfl, Bwe⟩
      obtain ⟨Cwe, Fwe, Lwe⟩ := bcell3 Bwe
      have ywe := Bwe.size; (try simp at ywe)
      have zwe0 : wa.heap.size < we.heap.size := by omega
      go_wp2
      go_ret
      refine ⟨rfl, ?_⟩
      repeat (first | exact Below.refl _ _ | assumption | refine Below.alloc ?_ (by (try simp); (try omega)) _ | refine Below.setCell ?_ (by (try simp); (try omega)) _ | refine Below.drew ?_ | refine bel_then (by assumption) (by (try simp); (try omega)) ?_ | refine only_then (by assumption) (by (try simp); (try omega)) (by (try simp); (try omega)) ?_ | refine bel_thenB (by assumption) (by (try simp); (try omega)) ?_)
  · have hA1' : (-9223372036854775808 : Int) ≤ A := by omega
    have hA2' : A ≤ 9223372036854775807 := by omega
    have HG := hidden hg
    clear hg
    go_wp2_with fail
    refine (implGet_no s A N _ hs2 hA1' hA2' HG.out).mono ?_
    rintro e wb ⟨rfl, Bwb⟩
    obtain ⟨Cwb, Fwb, Lwb⟩ := bcell3 Bwb
    have ywb := Bwb.size; (try simp at ywb)
    have zwb0 : wa.heap.size < wb.heap.size := by omega
    by_cases hm0 : m = 0
    · subst hm0
      have k0 : ∀ W, Calls Try.prog 20 #[.agg #[.string ⟨#[]⟩, .int .i64 0], .int .i64 ((0 : Nat) : Int)] W fun e w' => e = .returned (.tuple #[.int .i64 0, .agg #[.string ⟨#[]⟩, .int .i64 0], .bool true]) ∧ Below W.heap.size W w' := fun W => (implGet_yes ⟨#[]⟩ 0 0 W he0 (by omega) (by simp)).mono fun e w' h => h
      go_wp2_with fail
      refine (k0 _).mono ?_
      rintro e wc ⟨rfl, Bwc⟩
      obtain ⟨Cwc, Fwc, Lwc⟩ := bcell3 Bwc
      have ywc := Bwc.size; (try simp at ywc)
      have zwc0 : wa.heap.size < wc.heap.size := by omega
      have zwc1 : wb.heap.size < wc.heap.size := by omega
      clear k0
      go_wp2_with fail
      refine (specGet_no s A N _ hs2 hA1' hA2' HG.out).mono ?_
      rintro e wd ⟨rfl, Bwd⟩
      obtain ⟨Cwd, Fwd, Lwd⟩ := bcell3 Bwd
      have ywd := Bwd.size; (try simp at ywd)
      have zwd0 : wa.heap.size < wd.heap.size := by omega
      have zwd1 : wb.heap.size < wd.heap.size := by omega
      have zwd2 : wc.heap.size < wd.heap.size := by omega
      go_wp2_with fail
      refine (rows_any _).mono ?_
      rintro e we ⟨rfl, Bwe⟩
      obtain ⟨Cwe, Fwe, Lwe⟩ := bcell3 Bwe
      have ywe := Bwe.size; (try simp at ywe)
      have zwe0 : wa.heap.size < we.heap.size := by omega
      go_wp2
      go_ret
      refine ⟨rfl, ?_⟩
      repeat (first | exact Below.refl _ _ | assumption | refine Below.alloc ?_ (by (try simp); (try omega)) _ | refine Below.setCell ?_ (by (try simp); (try omega)) _ | refine Below.drew ?_ | refine bel_then (by assumption) (by (try simp); (try omega)) ?_ | refine only_then (by assumption) (by (try simp); (try omega)) (by (try simp); (try omega)) ?_ | refine bel_thenB (by assumption) (by (try simp); (try omega)) ?_)
    · have k0 := fun W => implGet_no ⟨#[]⟩ 0 m W he0 (by omega) (by omega) (fun h => by have h' : (0 : Int) + (m : Int) ≤ 8 * (((⟨#[]⟩ : ByteArray).size : Nat) : Int) := h.2.2.2; have hz : (⟨#[]⟩ : ByteArray).size = 0 := rfl; rw [hz] at h'; omega)
      go_wp2_with fail
      refine (k0 _).mono ?_
      rintro e wc ⟨rfl, Bwc⟩
      obtain ⟨Cwc, Fwc, Lwc⟩ := bcell3 Bwc
      have ywc := Bwc.size; (try simp at ywc)
      have zwc0 : wa.heap.size < wc.heap.size := by omega
      have zwc1 : wb.heap.size < wc.heap.size := by omega
      clear k0
      go_wp2_with fail
      refine (specGet_no s A N _ hs2 hA1' hA2' HG.out).mono ?_
      rintro e wd ⟨rfl, Bwd⟩
      obtain ⟨Cwd, Fwd, Lwd⟩ := bcell3 Bwd
      have ywd := Bwd.size; (try simp at ywd)
      have zwd0 : wa.heap.size < wd.heap.size := by omega
      have zwd1 : wb.heap.size < wd.heap.size := by omega
      have zwd2 : wc.heap.size < wd.heap.size := by omega
      go_wp2_with fail
      refine (rows_any _).mono ?_
      rintro e we ⟨rfl, Bwe⟩
      obtain ⟨Cwe, Fwe, Lwe⟩ := bcell3 Bwe
      have ywe := Bwe.size; (try simp at ywe)
      have zwe0 : wa.heap.size < we.heap.size := by omega
      go_wp2
      go_ret
      refine ⟨rfl, ?_⟩
      repeat (first | exact Below.refl _ _ | assumption | refine Below.alloc ?_ (by (try simp); (try omega)) _ | refine Below.setCell ?_ (by (try simp); (try omega)) _ | refine Below.drew ?_ | refine bel_then (by assumption) (by (try simp); (try omega)) ?_ | refine only_then (by assumption) (by (try simp); (try omega)) (by (try simp); (try omega)) ?_ | refine bel_thenB (by assumption) (by (try simp); (try omega)) ?_)
end Go.Proofs.Ytagjafkleemffaa
