/- The walk of the law over bits behind others. -/
import Derived.Test.YtbfkbiembbbbpaaWPuts
import Derived.Test.YtbfkbiembbbbpaaC1SJoin
import Derived.Test.YtbfkbiembbbbpaaC1IJoin
namespace Go.Proofs.Ytbfkbiembbbbpaa
set_option linter.unusedVariables false
set_option linter.unusedSimpArgs false
open Go.RowKit

theorem okB_empty : okB ⟨#[]⟩ 0 = true := by rw [show (0 : Int) = ((0 : Nat) : Int) from rfl, okB_nat]; exact ⟨by omega, rfl, fun k hk _ => by have h0 : (⟨#[]⟩ : ByteArray).size = 0 := rfl; omega⟩
theorem packs_ok_same {D : List Nat} {s : ByteArray} {n : Nat} (h : Packs D (row s 0 n)) (hok : okB s n = true) : strOf D = s := by
  have := h.unique (bitsOk_packs hok)
  rw [this, strOf_bytesOf]
attribute [local go_sem ↓] Go.wp_at_zero Go.wp_at_succ
set_option maxRecDepth 100000 in
set_option maxHeartbeats 4000000 in
theorem walk_FnJoins (w : World) (a0 : Option Addr) (len0 cap0 : Nat) (z0 : List Int) (w0 : IsRow .u8 w a0 len0 cap0 z0) :
    Calls Try.prog 4 #[.slice a0 len0 cap0] w fun e w' => e = .returned (.bool true) ∧ Below w.heap.size w w' := by
  have hcode := Code.ofRow w0
  clear w0
  go_enter Try.func4, Try.ntmps4
  go_wp2_with fail
  refine (drawJoin_any _ _ _ _ _ hcode).mono ?_
  rintro e wa ⟨s, n, t, m, rfl, hs, n1, n2, ht, m1, m2, Ba⟩
  have ya := Ba.size
  clear hcode
  have hs' : s.size ≤ maxLen := by unfold maxLen; omega
  have hs2 : s.size ≤ 1048576 := by omega
  have ht' : t.size ≤ maxLen := by unfold maxLen; omega
  have ht2 : t.size ≤ 1048576 := by omega
  by_cases hg : okB s n = true ∧ okB t m = true ∧ n + m ≤ 400000
  · obtain ⟨n, rfl⟩ : ∃ q : Nat, n = q := ⟨n.toNat, by have := (okB_iff _ _).1 hg.1; omega⟩
    obtain ⟨m, rfl⟩ : ∃ q : Nat, m = q := ⟨m.toNat, by have := (okB_iff _ _).1 hg.2.1; omega⟩
    have hok := hg.1
    have hok2 := hg.2.1
    have hr : n + m ≤ 400000 := by omega
    have hroom := okB_room hok
    have hroom2 := okB_room hok2
    clear hg n1 n2 m1 m2
    have HI := hidden (fun W => implJoin_yes s n t m W hs' ht' hok hok2 hr)
    have HS := hidden (fun W => specJoin_yes s n t m W hs' ht' hok hok2 hr)
    clear hok hok2
    go_wp2_with fail
    refine (HI.out _).mono ?_
    rintro e wb ⟨D, hD, rfl, Bwb⟩
    obtain ⟨Cwb, Fwb, Lwb⟩ := bcell3 Bwb
    have ywb := Bwb.size; (try simp at ywb)
    have zwb0 : wa.heap.size < wb.heap.size := by omega
    have hlen : (row s 0 n ++ row t 0 m).length = n + m := by rw [List.length_append, row_len, row_len]
    have hpk := packs_ok hD (by rw [hlen]; exact hr)
    rw [hlen] at hpk
    have hsz : (strOf D).size = (n + m + 7) / 8 := by rw [strOf_size, hD.len, hlen]
    clear hD hlen
    generalize strOf D = X at *
    obtain ⟨hokX, hrow⟩ := hpk
    have hsp := row_split hrow
    have hX2 : X.size ≤ 1048576 := by omega
    have hX3 : X.size ≤ maxLen := by unfold maxLen; omega
    have hnX : n + m ≤ 8 * X.size := by omega
    have HB := hidden (fun W => implBitsOk_any X ((n + m : Nat) : Int) W hX3 (by omega) (by omega))
    rw [hokX] at HB
    have HE := hidden (fun W => implJoin_yes ⟨#[]⟩ 0 X (n + m) W (Nat.zero_le _) hX3 okB_empty hokX (by omega))
    have HX := hidden hokX
    have HF : Hid (∀ K, K ≤ m → row X n K = row t 0 K) := hidden (fun K hK => by
      obtain ⟨b, rfl⟩ : ∃ b, m = K + b := ⟨m - K, by omega⟩
      have h2 := hsp.2
      rw [row_add, row_add] at h2
      exact (List.append_inj h2 (by rw [row_len, row_len])).1)
    clear hrow hsp hsz hokX
    simp only [Int.natCast_add] at HB
    simp only [Int.natCast_add, Nat.zero_add, Int.natCast_zero, Int.cast_ofNat_Int] at HE
    go_wp2_with fail
    refine (HS.out _).mono ?_
    rintro e wc ⟨D2, hD2, rfl, Bwc⟩
    obtain ⟨Cwc, Fwc, Lwc⟩ := bcell3 Bwc
    have ywc := Bwc.size; (try simp at ywc)
    have zwc0 : wa.heap.size < wc.heap.size := by omega
    have zwc1 : wb.heap.size < wc.heap.size := by omega
    clear hD2
    by_cases h32 : 32 < m
    · have h32x := h32
      have HK1 := hidden (fun W => implGet_yes X n 32 W hX2 (by omega) (by omega))
      have HK2 := hidden (fun W => get0 t 32 ht2 (by omega) (by omega) W)
      rw [HF.out 32 (by omega)] at HK1
      simp only [Int.natCast_add] at HK1
      go_wp2_with fail
      refine (HK1.out _).mono ?_
      rintro e we ⟨rfl, Bwe⟩
      obtain ⟨Cwe, Fwe, Lwe⟩ := bcell3 Bwe
      have ywe := Bwe.size; (try simp at ywe)
      have zwe0 : wa.heap.size < we.heap.size := by omega
      have zwe1 : wb.heap.size < we.heap.size := by omega
      go_wp2_with fail
      refine (HK2.out _).mono ?_
      rintro e wf ⟨rfl, Bwf⟩
      obtain ⟨Cwf, Fwf, Lwf⟩ := bcell3 Bwf
      have ywf := Bwf.size; (try simp at ywf)
      have zwf0 : wa.heap.size < wf.heap.size := by omega
      have zwf1 : wb.heap.size < wf.heap.size := by omega
      go_wp2_with fail
      refine (HE.out _).mono ?_
      rintro e wg ⟨D3, hD3, rfl, Bwg⟩
      obtain ⟨Cwg, Fwg, Lwg⟩ := bcell3 Bwg
      have ywg := Bwg.size; (try simp at ywg)
      have zwg0 : wa.heap.size < wg.heap.size := by omega
      have zwg1 : wb.heap.size < wg.heap.size := by omega
      have hD4 : strOf D3 = X := packs_ok_same (by simpa [row_zero] using hD3) HX.out
      clear hD3
      rw [hD4]
      clear hD4
      go_wp2_with fail
      refine (HB.out _).mono ?_
      rintro e wh ⟨rfl, Bwh⟩
      obtain ⟨Cwh, Fwh, Lwh⟩ := bcell3 Bwh
      have ywh := Bwh.size; (try simp at ywh)
      have zwh0 : wa.heap.size < wh.heap.size := by omega
      have zwh1 : wb.heap.size < wh.heap.size := by omega
      go_wp2_with fail
      refine (rows_any _).mono ?_
      rintro e wi ⟨rfl, Bwi⟩
      obtain ⟨Cwi, Fwi, Lwi⟩ := bcell3 Bwi
      have ywi := Bwi.size; (try simp at ywi)
      have zwi0 : wa.heap.size < wi.heap.size := by omega
      go_wp2
      go_ret
      refine ⟨rfl, ?_⟩
      repeat (first | exact Below.refl _ _ | assumption | refine Below.alloc ?_ (by (try simp); (try omega)) _ | refine Below.setCell ?_ (by (try simp); (try omega)) _ | refine Below.drew ?_ | refine bel_then (by assumption) (by (try simp); (try omega)) ?_ | refine only_then (by assumption) (by (try simp); (try omega)) (by (try simp); (try omega)) ?_ | refine bel_thenB (by assumption) (by (try simp); (try omega)) ?_)
    · have h32x := h32
      have HK1 := hidden (fun W => implGet_yes X n m W hX2 (by omega) (by omega))
      have HK2 := hidden (fun W => get0 t m ht2 (by omega) (by omega) W)
      rw [HF.out m (by omega)] at HK1
      simp only [Int.natCast_add] at HK1
      go_wp2_with fail
      refine (HK1.out _).mono ?_
      rintro e we ⟨rfl, Bwe⟩
      obtain ⟨Cwe, Fwe, Lwe⟩ := bcell3 Bwe
      have ywe := Bwe.size; (try simp at ywe)
      have zwe0 : wa.heap.size < we.heap.size := by omega
      have zwe1 : wb.heap.size < we.heap.size := by omega
      go_wp2_with fail
      refine (HK2.out _).mono ?_
      rintro e wf ⟨rfl, Bwf⟩
      obtain ⟨Cwf, Fwf, Lwf⟩ := bcell3 Bwf
      have ywf := Bwf.size; (try simp at ywf)
      have zwf0 : wa.heap.size < wf.heap.size := by omega
      have zwf1 : wb.heap.size < wf.heap.size := by omega
      go_wp2_with fail
      refine (HE.out _).mono ?_
      rintro e wg ⟨D3, hD3, rfl, Bwg⟩
      obtain ⟨Cwg, Fwg, Lwg⟩ := bcell3 Bwg
      have ywg := Bwg.size; (try simp at ywg)
      have zwg0 : wa.heap.size < wg.heap.size := by omega
      have zwg1 : wb.heap.size < wg.heap.size := by omega
      have hD4 : strOf D3 = X := packs_ok_same (by simpa [row_zero] using hD3) HX.out
      clear hD3
      rw [hD4]
      clear hD4
      go_wp2_with fail
      refine (HB.out _).mono ?_
      rintro e wh ⟨rfl, Bwh⟩
      obtain ⟨Cwh, Fwh, Lwh⟩ := bcell3 Bwh
      have ywh := Bwh.size; (try simp at ywh)
      have zwh0 : wa.heap.size < wh.heap.size := by omega
      have zwh1 : wb.heap.size < wh.heap.size := by omega
      go_wp2_with fail
      refine (rows_any _).mono ?_
      rintro e wi ⟨rfl, Bwi⟩
      obtain ⟨Cwi, Fwi, Lwi⟩ := bcell3 Bwi
      have ywi := Bwi.size; (try simp at ywi)
      have zwi0 : wa.heap.size < wi.heap.size := by omega
      go_wp2
      go_ret
      refine ⟨rfl, ?_⟩
      repeat (first | exact Below.refl _ _ | assumption | refine Below.alloc ?_ (by (try simp); (try omega)) _ | refine Below.setCell ?_ (by (try simp); (try omega)) _ | refine Below.drew ?_ | refine bel_then (by assumption) (by (try simp); (try omega)) ?_ | refine only_then (by assumption) (by (try simp); (try omega)) (by (try simp); (try omega)) ?_ | refine bel_thenB (by assumption) (by (try simp); (try omega)) ?_)
  · have HI := hidden (fun W => implJoin_no s n t m W hs' ht' (by omega) (by omega) (by omega) (by omega) hg)
    have HS := hidden (fun W => specJoin_no s n t m W hs' ht' (by omega) (by omega) (by omega) (by omega) hg)
    clear hg
    go_wp2_with fail
    refine (HI.out _).mono ?_
    rintro e wb ⟨rfl, Bwb⟩
    obtain ⟨Cwb, Fwb, Lwb⟩ := bcell3 Bwb
    have ywb := Bwb.size; (try simp at ywb)
    have zwb0 : wa.heap.size < wb.heap.size := by omega
    go_wp2_with fail
    refine (HS.out _).mono ?_
    rintro e wc ⟨rfl, Bwc⟩
    obtain ⟨Cwc, Fwc, Lwc⟩ := bcell3 Bwc
    have ywc := Bwc.size; (try simp at ywc)
    have zwc0 : wa.heap.size < wc.heap.size := by omega
    have zwc1 : wb.heap.size < wc.heap.size := by omega
    go_wp2_with fail
    refine (rows_any _).mono ?_
    rintro e wd ⟨rfl, Bwd⟩
    obtain ⟨Cwd, Fwd, Lwd⟩ := bcell3 Bwd
    have ywd := Bwd.size; (try simp at ywd)
    have zwd0 : wa.heap.size < wd.heap.size := by omega
    go_wp2
    go_ret
    refine ⟨rfl, ?_⟩
    repeat (first | exact Below.refl _ _ | assumption | refine Below.alloc ?_ (by (try simp); (try omega)) _ | refine Below.setCell ?_ (by (try simp); (try omega)) _ | refine Below.drew ?_ | refine bel_then (by assumption) (by (try simp); (try omega)) ?_ | refine only_then (by assumption) (by (try simp); (try omega)) (by (try simp); (try omega)) ?_ | refine bel_thenB (by assumption) (by (try simp); (try omega)) ?_)
end Go.Proofs.Ytbfkbiembbbbpaa
