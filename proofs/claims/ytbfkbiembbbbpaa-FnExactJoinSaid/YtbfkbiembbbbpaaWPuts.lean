/- The walk of the law over appending. -/
import Derived.Test.YtbfkbiembbbbpaaDrJoin
import Derived.Test.YtbfkbiembbbbpaaDr4
import Derived.Test.YtbfkbiembbbbpaaC1IPut
import Derived.Test.YtbfkbiembbbbpaaC1SPutNo
import Derived.Test.YtbfkbiembbbbpaaC1IPutNo
namespace Go.Proofs.Ytbfkbiembbbbpaa
set_option linter.unusedVariables false
set_option linter.unusedSimpArgs false
open Go.RowKit

theorem row_split {s t : ByteArray} {a b : Nat} {l : List Nat} (h : row t 0 (a + b) = row s 0 a ++ l) : row t 0 a = row s 0 a ∧ row t a b = l := by
  rw [row_add] at h
  have := List.append_inj h (by rw [row_len, row_len])
  rw [Nat.zero_add] at this
  exact this
theorem row_first {s t : ByteArray} {a k : Nat} (h : row t 0 a = row s 0 a) (hk : k ≤ a) : row t 0 k = row s 0 k := by
  obtain ⟨b, rfl⟩ : ∃ b, a = k + b := ⟨a - k, by omega⟩
  rw [row_add, row_add] at h
  exact (List.append_inj h (by rw [row_len, row_len])).1
theorem get0 (s : ByteArray) (K : Nat) (hs : s.size ≤ 1048576) (hK : K ≤ 32) (hl : K ≤ 8 * s.size) (W : World) :
    Calls Try.prog 17 #[.agg #[.string s, .int .i64 0], .int .i64 K] W fun e w' => e = .returned (.tuple #[.int .i64 (num (row s 0 K)), .agg #[.string s, .int .i64 K], .bool true]) ∧ Below W.heap.size W w' := by
  have := implGet_yes s 0 K W hs hK (by omega)
  rw [Nat.zero_add] at this
  exact this

attribute [local go_sem ↓] Go.wp_at_zero Go.wp_at_succ
set_option maxRecDepth 100000 in
set_option maxHeartbeats 4000000 in
theorem walk_FnPuts (w : World) (a0 : Option Addr) (len0 cap0 : Nat) (z0 : List Int) (w0 : IsRow .u8 w a0 len0 cap0 z0) :
    Calls Try.prog 3 #[.slice a0 len0 cap0] w fun e w' => e = .returned (.bool true) ∧ Below w.heap.size w w' := by
  have hcode := Code.ofRow w0
  clear w0
  go_enter Try.func3, Try.ntmps3
  go_wp2_with fail
  refine (drawPut_any _ _ _ _ _ hcode).mono ?_
  rintro e wa ⟨s, n, v, k, rfl, hs, n1, n2, v1, v2, k1, k2, Ba⟩
  have ya := Ba.size
  clear hcode
  have hs' : s.size ≤ maxLen := by unfold maxLen; omega
  have hs2 : s.size ≤ 1048576 := by omega
  by_cases hg : okB s n = true ∧ 0 ≤ k ∧ k ≤ 32 ∧ 0 ≤ v ∧ v < ((2 ^ k.toNat : Nat) : Int) ∧ n + k ≤ 400000
  · obtain ⟨n, rfl⟩ : ∃ q : Nat, n = q := ⟨n.toNat, by have := (okB_iff _ _).1 hg.1; omega⟩
    obtain ⟨k, rfl⟩ : ∃ q : Nat, k = q := ⟨k.toNat, by omega⟩
    obtain ⟨v, rfl⟩ : ∃ q : Nat, v = q := ⟨v.toNat, by omega⟩
    have hok := hg.1
    have hk : k ≤ 32 := by omega
    have hv : v < 2 ^ k := by have := hg.2.2.2.2.1; simp at this; exact_mod_cast this
    have hr : n + k ≤ 400000 := by omega
    have hroom := okB_room hok
    have v32 : (v : Int) ≤ 4294967296 := v2
    clear hg n1 n2 v1 v2 k1 k2
    have HI := hidden (fun W => implPut_yes s n v k W hs' hok hk hv hr)
    have HS := hidden (fun W => specPut_yes s n v k W hs' hok hk hv hr)
    have HV := hidden hv
    clear hok hv
    go_wp2_with fail
    refine (HI.out _).mono ?_
    rintro e wb ⟨D, hD, rfl, Bwb⟩
    obtain ⟨Cwb, Fwb, Lwb⟩ := bcell3 Bwb
    have ywb := Bwb.size; (try simp at ywb)
    have zwb0 : wa.heap.size < wb.heap.size := by omega
    have hlen : (row s 0 n ++ nbits v k).length = n + k := by rw [List.length_append, row_len, nbits_len]
    have hpk := packs_ok hD (by rw [hlen]; exact hr)
    rw [hlen] at hpk
    have hsz : (strOf D).size = (n + k + 7) / 8 := by rw [strOf_size, hD.len, hlen]
    clear hD hlen
    generalize strOf D = X at *
    obtain ⟨hokX, hrow⟩ := hpk
    have hsp := row_split hrow
    have hX2 : X.size ≤ 1048576 := by omega
    have hX3 : X.size ≤ maxLen := by unfold maxLen; omega
    have hnX : n + k ≤ 8 * X.size := by omega
    have HG := hidden (fun W => implGet_yes X n k W hX2 hk hnX)
    rw [hsp.2, num_nbits v k HV.out] at HG
    have HB := hidden (fun W => implBitsOk_any X ((n + k : Nat) : Int) W hX3 (by omega) (by omega))
    rw [hokX] at HB
    have HF := hidden hsp.1
    clear hrow hsp hsz hokX
    simp only [Int.natCast_add] at HG HB
    go_wp2_with fail
    refine (HS.out _).mono ?_
    rintro e wc ⟨D2, hD2, rfl, Bwc⟩
    obtain ⟨Cwc, Fwc, Lwc⟩ := bcell3 Bwc
    have ywc := Bwc.size; (try simp at ywc)
    have zwc0 : wa.heap.size < wc.heap.size := by omega
    have zwc1 : wb.heap.size < wc.heap.size := by omega
    clear hD2
    go_wp2_with fail
    refine (HG.out _).mono ?_
    rintro e wd ⟨rfl, Bwd⟩
    obtain ⟨Cwd, Fwd, Lwd⟩ := bcell3 Bwd
    have ywd := Bwd.size; (try simp at ywd)
    have zwd0 : wa.heap.size < wd.heap.size := by omega
    have zwd1 : wb.heap.size < wd.heap.size := by omega
    by_cases h32 : 32 < n
    · have HK1 := hidden (fun W => get0 s 32 hs2 (by omega) (by omega) W)
      have HK2 := hidden (fun W => get0 X 32 hX2 (by omega) (by omega) W)
      rw [row_first HF.out (Nat.le_of_lt h32)] at HK2
      go_wp2_with fail
      refine (HK1.out _).mono ?_
      rintro e we ⟨rfl, Bwe⟩
      obtain ⟨Cwe, Fwe, Lwe⟩ := bcell3 Bwe
      have ywe := Bwe.size; (try simp at ywe)
      have zwe0 : wa.heap.size < we.heap.size := by omega
      have zwe1 : wb.heap.size < we.heap.size := by omega
      have zwe2 : wd.heap.size < we.heap.size := by omega
      go_wp2_with fail
      refine (HK2.out _).mono ?_
      rintro e wf ⟨rfl, Bwf⟩
      obtain ⟨Cwf, Fwf, Lwf⟩ := bcell3 Bwf
      have ywf := Bwf.size; (try simp at ywf)
      have zwf0 : wa.heap.size < wf.heap.size := by omega
      have zwf1 : wb.heap.size < wf.heap.size := by omega
      have zwf2 : wd.heap.size < wf.heap.size := by omega
      go_wp2_with fail
      refine (HB.out _).mono ?_
      rintro e wg ⟨rfl, Bwg⟩
      obtain ⟨Cwg, Fwg, Lwg⟩ := bcell3 Bwg
      have ywg := Bwg.size; (try simp at ywg)
      have zwg0 : wa.heap.size < wg.heap.size := by omega
      go_wp2_with fail
      refine (rows_any _).mono ?_
      rintro e wh ⟨rfl, Bwh⟩
      obtain ⟨Cwh, Fwh, Lwh⟩ := bcell3 Bwh
      have ywh := Bwh.size; (try simp at ywh)
      have zwh0 : wa.heap.size < wh.heap.size := by omega
      go_wp2
      go_ret
      refine ⟨rfl, ?_⟩
      repeat (first | exact Below.refl _ _ | assumption | refine Below.alloc ?_ (by (try simp); (try omega)) _ | refine Below.setCell ?_ (by (try simp); (try omega)) _ | refine Below.drew ?_ | refine bel_then (by assumption) (by (try simp); (try omega)) ?_ | refine only_then (by assumption) (by (try simp); (try omega)) (by (try simp); (try omega)) ?_ | refine bel_thenB (by assumption) (by (try simp); (try omega)) ?_)
    · have HK1 := hidden (fun W => get0 s n hs2 (by omega) (by omega) W)
      have HK2 := hidden (fun W => get0 X n hX2 (by omega) (by omega) W)
      rw [row_first HF.out (Nat.le_refl n)] at HK2
      go_wp2_with fail
      refine (HK1.out _).mono ?_
      rintro e we ⟨rfl, Bwe⟩
      obtain ⟨Cwe, Fwe, Lwe⟩ := bcell3 Bwe
      have ywe := Bwe.size; (try simp at ywe)
      have zwe0 : wa.heap.size < we.heap.size := by omega
      have zwe1 : wb.heap.size < we.heap.size := by omega
      have zwe2 : wd.heap.size < we.heap.size := by omega
      go_wp2_with fail
      refine (HK2.out _).mono ?_
      rintro e wf ⟨rfl, Bwf⟩
      obtain ⟨Cwf, Fwf, Lwf⟩ := bcell3 Bwf
      have ywf := Bwf.size; (try simp at ywf)
      have zwf0 : wa.heap.size < wf.heap.size := by omega
      have zwf1 : wb.heap.size < wf.heap.size := by omega
      have zwf2 : wd.heap.size < wf.heap.size := by omega
      go_wp2_with fail
      refine (HB.out _).mono ?_
      rintro e wg ⟨rfl, Bwg⟩
      obtain ⟨Cwg, Fwg, Lwg⟩ := bcell3 Bwg
      have ywg := Bwg.size; (try simp at ywg)
      have zwg0 : wa.heap.size < wg.heap.size := by omega
      go_wp2_with fail
      refine (rows_any _).mono ?_
      rintro e wh ⟨rfl, Bwh⟩
      obtain ⟨Cwh, Fwh, Lwh⟩ := bcell3 Bwh
      have ywh := Bwh.size; (try simp at ywh)
      have zwh0 : wa.heap.size < wh.heap.size := by omega
      go_wp2
      go_ret
      refine ⟨rfl, ?_⟩
      repeat (first | exact Below.refl _ _ | assumption | refine Below.alloc ?_ (by (try simp); (try omega)) _ | refine Below.setCell ?_ (by (try simp); (try omega)) _ | refine Below.drew ?_ | refine bel_then (by assumption) (by (try simp); (try omega)) ?_ | refine only_then (by assumption) (by (try simp); (try omega)) (by (try simp); (try omega)) ?_ | refine bel_thenB (by assumption) (by (try simp); (try omega)) ?_)
  · have HI := hidden (fun W => implPut_no s n v k W hs' (by omega) (by omega) (by omega) (by omega) hg)
    have HS := hidden (fun W => specPut_no s n v k W hs' (by omega) (by omega) (by omega) (by omega) hg)
    clear hg
    go_wp2_with fail
    refine (HI.out _).mono ?_
    rintro e wb ⟨rfl, Bwb⟩
    obtain ⟨Cwb, Fwb, Lwb⟩ := bcell3 Bwb
    have ywb := Bwb.size; (try simp at ywb)
    have zwb0 : wa.heap.size < wb.heap.size := by omega
    go_wp2_with fail
    refine (HS.out _).mono ?_
    rintro e wc ⟨rfl, Bwc⟩
    obtain ⟨Cwc, Fwc, Lwc⟩ := bcell3 Bwc
    have ywc := Bwc.size; (try simp at ywc)
    have zwc0 : wa.heap.size < wc.heap.size := by omega
    have zwc1 : wb.heap.size < wc.heap.size := by omega
    go_wp2_with fail
    refine (rows_any _).mono ?_
    rintro e wd ⟨rfl, Bwd⟩
    obtain ⟨Cwd, Fwd, Lwd⟩ := bcell3 Bwd
    have ywd := Bwd.size; (try simp at ywd)
    have zwd0 : wa.heap.size < wd.heap.size := by omega
    go_wp2
    go_ret
    refine ⟨rfl, ?_⟩
    repeat (first | exact Below.refl _ _ | assumption | refine Below.alloc ?_ (by (try simp); (try omega)) _ | refine Below.setCell ?_ (by (try simp); (try omega)) _ | refine Below.drew ?_ | refine bel_then (by assumption) (by (try simp); (try omega)) ?_ | refine only_then (by assumption) (by (try simp); (try omega)) (by (try simp); (try omega)) ?_ | refine bel_thenB (by assumption) (by (try simp); (try omega)) ?_)
end Go.Proofs.Ytbfkbiembbbbpaa
