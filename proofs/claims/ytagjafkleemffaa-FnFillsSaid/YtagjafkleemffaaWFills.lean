/- DrawFill; the walk of the law over filling. -/
import Derived.Test.YtagjafkleemffaaDr7
import Derived.Test.YtagjafkleemffaaDr4
import Derived.Test.YtagjafkleemffaaC1IFill
import Derived.Test.YtagjafkleemffaaC1IFillNo
namespace Go.Proofs.Ytagjafkleemffaa
set_option linter.unusedVariables false
set_option linter.unusedSimpArgs false
open Go.RowKit

set_option maxRecDepth 100000 in
set_option maxHeartbeats 2000000 in
theorem drawFill_any (a : Option Addr) (len cap : Nat) (zs : List Int) (w : World) (hcode : Code w w.heap.size a len cap zs) :
    Calls Try.prog 25 #[.slice a len cap] w fun e w' => ∃ (s : ByteArray) (n : Int), e = .returned (.agg #[.string s, .int .i64 n]) ∧ s.size ≤ 100000 ∧ -1 ≤ n ∧ n ≤ 400000 ∧ Below w.heap.size w w' := by
  have hc0 : Code (w.alloc (.cells #[.string ⟨#[]⟩, .int .i64 0] 24)) (w.alloc (.cells #[.string ⟨#[]⟩, .int .i64 0] 24)).heap.size a len cap zs := by
    have := hcode.below ((Below.refl w.heap.size w).alloc (Nat.le_refl _) (.cells #[.string ⟨#[]⟩, .int .i64 0] 24))
    refine ⟨this.1, this.2.1, fun h => ?_⟩
    obtain ⟨b, off, e, hb, hcc⟩ := this.2.2 h
    exact ⟨b, off, e, by simp; omega, hcc⟩
  have hb0 : Below w.heap.size w (w.alloc (.cells #[.string ⟨#[]⟩, .int .i64 0] 24)) := (Below.refl _ _).alloc (Nat.le_refl _) _
  go_enter Try.func25, Try.ntmps25
  go_wp2_with fail
  refine (l1New_any a len cap zs _ hc0).mono ?_
  rintro e wa ⟨g, rfl, hcu, Ba⟩
  have hg := hcu.1
  (try simp at hg)
  have hRa := (Has.fresh w 24 #[.string ⟨#[]⟩, .int .i64 0]).below Ba (by simp)
  have hba : Below w.heap.size w wa := bel_then Ba (by simp) hb0
  clear Ba hb0 hc0
  go_wp2_with fail
  refine (l1bits_any g _ _ hcu).mono ?_
  rintro e wb ⟨s, n, rfl, hs, h1, h2, hcb, Ob⟩
  have hRb := Ob.has hRa (by omega)
  have bb : Below w.heap.size w wb := hba.trans (Ob.below (by omega) hba.size)
  have e0 := hRb.cell 0
  have e1 := hRb.cell 1
  have g0 := hRb.free 0
  have g1 := hRb.free 1
  simp at e0 e1
  clear hRa hba Ob hcb hcu
  go_wp2
  refine bodyPost_ret (v := .agg #[.string s, .int .i64 n]) (by simp [results, Try.results25, go_sem, e0, e1, g0, g1]) rfl ⟨s, n, rfl, hs, h1, h2, ?_⟩
  repeat (first | exact Below.refl _ _ | assumption | refine Below.alloc ?_ (by (try simp); (try omega)) _ | refine Below.setCell ?_ (by (try simp); (try omega)) _ | refine Below.drew ?_ | refine bel_then (by assumption) (by (try simp); (try omega)) ?_ | refine only_then (by assumption) (by (try simp); (try omega)) (by (try simp); (try omega)) ?_ | refine bel_thenB (by assumption) (by (try simp); (try omega)) ?_)

theorem zeros_behind {s : ByteArray} {n u : Nat} {D : List Nat} (hD : Packs D (row s 0 n ++ nbits 0 u)) (hl : n + u ≤ 400000) : num (row (strOf D) n u) = 0 := by
  have hlen : (row s 0 n ++ nbits 0 u).length = n + u := by rw [List.length_append, row_len, nbits_len]
  have h := (packs_ok hD (by rw [hlen]; exact hl)).2
  rw [hlen, row_add, Nat.zero_add] at h
  rw [(List.append_inj h (by rw [row_len, row_len])).2]
  exact num_nbits 0 u (Nat.two_pow_pos u)

set_option maxRecDepth 100000 in
set_option maxHeartbeats 4000000 in
theorem walk_FnFills (w : World) (a0 : Option Addr) (len0 cap0 : Nat) (z0 : List Int) (w0 : IsRow .u8 w a0 len0 cap0 z0) :
    Calls Try.prog 5 #[.slice a0 len0 cap0] w fun e w' => e = .returned (.bool true) ∧ Below w.heap.size w w' := by
  have hcode := Code.ofRow w0
  clear w0
  go_enter Try.func5, Try.ntmps5
  go_wp2_with fail
  refine (drawFill_any _ _ _ _ _ hcode).mono ?_
  rintro e wa ⟨s, N, rfl, hs, hN1, hN2, Ba⟩
  have ya := Ba.size
  clear hcode
  have hs' : s.size ≤ maxLen := by unfold maxLen; omega
  by_cases hok : okB s N = true
  · obtain ⟨n, rfl⟩ : ∃ k : Nat, N = k := ⟨N.toNat, by have := (okB_iff _ _).1 hok; omega⟩
    have hroom := okB_room hok
    have hu := upN_lt n
    have hu8 := upN_div n
    have hun : n + upN n ≤ 400000 := by omega
    obtain ⟨u, hud⟩ : ∃ u, u = upN n := ⟨_, rfl⟩
    have hf := fun W => implFill_yes s n W hs' hok
    have ht := fun (X : ByteArray) W hX hn hz => implToByte_yes X n W hX hn hz
    simp only [← hud] at hf ht
    rw [← hud] at hu hu8 hun
    have HF := hidden hf
    have HT := hidden ht
    clear hf ht hud
    go_wp2_with fail
    refine (HF.out _).mono ?_
    rintro e wb ⟨D, hD, rfl, Bwb⟩
    obtain ⟨Cwb, Fwb, Lwb⟩ := bcell3 Bwb
    have ywb := Bwb.size; (try simp at ywb)
    have zwb0 : wa.heap.size < wb.heap.size := by omega
    have hz := zeros_behind hD hun
    have hlen : (row s 0 n ++ nbits 0 u).length = n + u := by rw [List.length_append, row_len, nbits_len]
    have hsz : (strOf D).size = (n + u) / 8 := by rw [strOf_size, hD.len, hlen]; omega
    clear hD hlen
    generalize strOf D = X at *
    have hX8 : 8 * X.size = n + u := by omega
    have hX5 : X.size ≤ 50000 := by omega
    have hX2 : X.size ≤ 1048576 := by omega
    have hnX : n ≤ 8 * X.size := by omega
    have hof := fun W => implBitsOf_yes X W hX5
    simp only [hX8] at hof
    have HO := hidden hof
    have HZ := hidden hz
    clear hsz hX8 hof hz
    have m8 : ((((n : Int) + (u : Int)) % 8) == 0) = true := by simp; omega
    go_wp2_with fail
    refine (specBitsOk_any s n _ hs' (by omega) (by omega)).mono ?_
    rintro e wc ⟨rfl, Bwc⟩
    obtain ⟨Cwc, Fwc, Lwc⟩ := bcell3 Bwc
    have ywc := Bwc.size; (try simp at ywc)
    have zwc0 : wa.heap.size < wc.heap.size := by omega
    have zwc1 : wb.heap.size < wc.heap.size := by omega
    go_wp2_with fail
    refine (HT.out X _ hX2 hnX HZ.out).mono ?_
    rintro e wd ⟨rfl, Bwd⟩
    obtain ⟨Cwd, Fwd, Lwd⟩ := bcell3 Bwd
    have ywd := Bwd.size; (try simp at ywd)
    have zwd0 : wa.heap.size < wd.heap.size := by omega
    have zwd1 : wb.heap.size < wd.heap.size := by omega
    go_wp2_with fail
    refine (HO.out _).mono ?_
    rintro e we ⟨rfl, Bwe⟩
    obtain ⟨Cwe, Fwe, Lwe⟩ := bcell3 Bwe
    have ywe := Bwe.size; (try simp at ywe)
    have zwe0 : wa.heap.size < we.heap.size := by omega
    have zwe1 : wb.heap.size < we.heap.size := by omega
    have zwe2 : wd.heap.size < we.heap.size := by omega
    go_wp2_with fail
    refine (rows_any _).mono ?_
    rintro e wf ⟨rfl, Bwf⟩
    obtain ⟨Cwf, Fwf, Lwf⟩ := bcell3 Bwf
    have ywf := Bwf.size; (try simp at ywf)
    have zwf0 : wa.heap.size < wf.heap.size := by omega
    go_wp2
    go_ret
    refine ⟨rfl, ?_⟩
    repeat (first | exact Below.refl _ _ | assumption | refine Below.alloc ?_ (by (try simp); (try omega)) _ | refine Below.setCell ?_ (by (try simp); (try omega)) _ | refine Below.drew ?_ | refine bel_then (by assumption) (by (try simp); (try omega)) ?_ | refine only_then (by assumption) (by (try simp); (try omega)) (by (try simp); (try omega)) ?_ | refine bel_thenB (by assumption) (by (try simp); (try omega)) ?_)
  · have hok' : okB s N = false := by simpa using hok
    have hN1' : (-9223372036854775808 : Int) ≤ N := by omega
    have hN2' : N ≤ 9223372036854775807 := by omega
    clear hok
    go_wp2_with fail
    refine (implFill_no s N _ hs' hN1' hN2' hok').mono ?_
    rintro e wb ⟨rfl, Bwb⟩
    obtain ⟨Cwb, Fwb, Lwb⟩ := bcell3 Bwb
    have ywb := Bwb.size; (try simp at ywb)
    have zwb0 : wa.heap.size < wb.heap.size := by omega
    go_wp2_with fail
    refine (specBitsOk_any s N _ hs' hN1' hN2').mono ?_
    rintro e wc ⟨rfl, Bwc⟩
    obtain ⟨Cwc, Fwc, Lwc⟩ := bcell3 Bwc
    have ywc := Bwc.size; (try simp at ywc)
    have zwc0 : wa.heap.size < wc.heap.size := by omega
    have zwc1 : wb.heap.size < wc.heap.size := by omega
    go_wp2_with fail
    refine (rows_any _).mono ?_
    rintro e wd ⟨rfl, Bwd⟩
    obtain ⟨Cwd, Fwd, Lwd⟩ := bcell3 Bwd
    have ywd := Bwd.size; (try simp at ywd)
    have zwd0 : wa.heap.size < wd.heap.size := by omega
    have zwd1 : wb.heap.size < wd.heap.size := by omega
    go_wp2
    go_ret
    refine ⟨rfl, ?_⟩
    repeat (first | exact Below.refl _ _ | assumption | refine Below.alloc ?_ (by (try simp); (try omega)) _ | refine Below.setCell ?_ (by (try simp); (try omega)) _ | refine Below.drew ?_ | refine bel_then (by assumption) (by (try simp); (try omega)) ?_ | refine only_then (by assumption) (by (try simp); (try omega)) (by (try simp); (try omega)) ?_ | refine bel_thenB (by assumption) (by (try simp); (try omega)) ?_)
end Go.Proofs.Ytagjafkleemffaa
