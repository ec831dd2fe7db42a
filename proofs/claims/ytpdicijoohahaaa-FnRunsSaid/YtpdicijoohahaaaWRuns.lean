/- Chapter 9: the walk of FnRuns. -/
import Derived.Test.YtpdicijoohahaaaPlc
import Derived.Test.YtpdicijoohahaaaDr9R
import Derived.Test.YtpdicijoohahaaaC9B
namespace Go.Proofs.Ytpdicijoohahaaa
set_option linter.unusedVariables false
set_option linter.unusedSimpArgs false
open Go.RowKit

theorem rsZ_small (k : Int) : ∀ x ∈ rsZ k, 0 ≤ x ∧ x ≤ 1 := by
  intro x hx
  unfold rsZ at hx
  split at hx
  · unfold ints at hx
    rw [List.mem_map] at hx
    obtain ⟨d, hd, rfl⟩ := hx
    have := rsF_lt _ d hd
    omega
  · simp at hx
theorem rl_rsZ {k : Int} (h : 1 ≤ k ∧ k ≤ 600) : rlZ (rsZ k) = k := by
  obtain ⟨q, rfl⟩ : ∃ q : Nat, k = q := ⟨k.toNat, by omega⟩
  rw [rsZ_yes (by omega) (by omega)]
  exact (rs_rl (by omega) (by omega)).2
theorem Code.up {w : World} {B B' : Nat} {a : Option Addr} {len cap : Nat} {zs : List Int} (h : Code w B a len cap zs) (hB : B ≤ B') : Code w B' a len cap zs :=
  ⟨h.1, h.2.1, fun h0 => by
    obtain ⟨b, off, e, hb, hc⟩ := h.2.2 h0
    exact ⟨b, off, e, by omega, hc⟩⟩
set_option maxHeartbeats 2000000 in
set_option maxRecDepth 100000 in
theorem walk_FnRuns (w : World) (a0 : Option Addr) (len0 cap0 : Nat) (z0 : List Int) (w0 : IsRow .u8 w a0 len0 cap0 z0) :
    Calls Try.prog 11 #[.slice a0 len0 cap0] w fun e w' => e = .returned (.bool true) ∧ Below w.heap.size w w' := by
  have hcode := Code.ofRow w0
  have KL := hidden places_any
  clear w0
  go_enter Try.func11, Try.ntmps11
  go_wp2_with fail
  refine (drawRunSyms_any _ _ _ _ _ hcode).mono ?_
  rintro e wa ⟨k, rfl, Ba⟩
  have hcode := hcode.below Ba
  by_cases hk : 1 ≤ k ∧ k ≤ 600
  · obtain ⟨hk1, hk2⟩ := hk
    have HK := hidden (rl_rsZ ⟨hk1, hk2⟩)
    go_wp2_with fail
    refine (implRunSyms_any k _).mono ?_
    rintro e wb ⟨v, rfl, hown, Bb⟩
    have BB := Ba.trans (Bb.mono Ba.size)
    replace hcode := (hcode.below (Bb.mono Ba.size)).up BB.size
    obtain ⟨n, hn⟩ : ∃ n, (rsZ k).length = n := ⟨_, rfl⟩
    have hl := rsZ_len k
    rw [hn] at hl hown
    obtain ⟨a, c, rfl⟩ := own_shape hown
    have hIL := hidden (Ints.ofOwn hown (by omega) (fun x hx => by have := rsZ_small k x hx; omega)).2
    have HN := hidden hn
    clear hown Ba hn
    have sAB := Bb.size
    clear Bb
    go_wp2_with fail
    refine (drawRunLen_any _ _ _ _ _ hcode).mono ?_
    rintro e wc ⟨v, L, rfl, hownD, hlD, hrD, Bc⟩
    replace BB := BB.trans (Bc.mono BB.size)
    replace hIL := hidden (hIL.out.below Bc)
    have sBC := Bc.size
    obtain ⟨m, hm⟩ : ∃ m, L.length = m := ⟨_, rfl⟩
    rw [hm] at hownD hlD
    have HM := hidden hm
    have HR := hidden hrD
    obtain ⟨aD, cD, rfl⟩ := own_shape hownD
    have hID := hidden (Ints.ofOwn hownD (by omega) (fun x hx => by have := HR.out x hx; omega)).2
    clear hownD hcode hm hrD Bc
    have KD : Hid (∀ W : World, Ints W wc.heap.size aD L → Calls Try.prog 22 #[.slice aD m cD] W fun e w' => e = .returned (.int .i64 (rlZ L)) ∧ W = w') := hidden fun W h => by
      have := implRunLen_any aD cD wc.heap.size L W h (by rw [HM.out]; omega)
      rw [HM.out] at this
      exact this
    have KS : Hid (∀ W : World, Ints W wc.heap.size aD L → Calls Try.prog 21 #[.slice aD m cD] W fun e w' => e = .returned (.int .i64 (rlZ L)) ∧ W = w') := hidden fun W h => by
      have := specRunLen_any aD cD wc.heap.size L W h (by rw [HM.out]; omega)
      rw [HM.out] at this
      exact this
    have KR : Hid (∀ W : World, Ints W wb.heap.size a (rsZ k) → Calls Try.prog 22 #[.slice a n c] W fun e w' => e = .returned (.int .i64 k) ∧ W = w') := hidden fun W h => by
      have := implRunLen_any a c wb.heap.size (rsZ k) W h (by rw [HN.out]; omega)
      rw [HN.out, HK.out] at this
      exact this
    go_wp2_with fail
    refine (KD.out _ (hID.out.mono (by omega))).mono ?_
    rintro e wd ⟨rfl, rfl⟩
    go_wp2_with fail
    refine (KR.out _ (hIL.out.mono (by omega))).mono ?_
    rintro e wd ⟨rfl, rfl⟩
    go_wp2_with fail
    refine (KS.out _ (hID.out.mono (by omega))).mono ?_
    rintro e wd ⟨rfl, rfl⟩
    by_cases hok : rlOk L = true
    · have hp := rlZ_pos.2 hok
      have HB := hidden (rl_rs hok)
      obtain ⟨q, hq⟩ : ∃ q, rlZ L = q := ⟨_, rfl⟩
      rw [hq] at hp HB
      have KS2 : Hid (∀ W : World, Calls Try.prog 20 #[.int .i64 q] W fun e w' => ∃ v, e = .returned v ∧ w'.ownsRow W.heap.size 3 1 v m (intsV L) ∧ Below W.heap.size W w') := hidden fun W => by
        have := implRunSyms_any q W
        rw [HB.out, HM.out] at this
        exact this
      have hq0 : ¬ q < 0 := by omega
      rw [hq]
      clear hok hq
      go_wp2_with fail
      refine (KS2.out _).mono ?_
      rintro e wd ⟨v, rfl, hown2, Bd⟩
      obtain ⟨a2, c2, rfl⟩ := own_shape hown2
      have hI2 := (Ints.ofOwn hown2 (by omega) (fun x hx => by have := HR.out x hx; omega)).2
      replace BB := BB.trans (Bd.mono BB.size)
      have KE : Calls Try.prog 31 #[.slice a2 m c2, .slice aD m cD] wd fun e w' => e = .returned (.bool true) ∧ Below wd.heap.size wd w' := by
        have := sameInts_any a2 aD c2 cD wd.heap.size L L wd hI2 ((hID.out.below Bd).mono Bd.size)
        rw [decide_eq_true rfl, HM.out] at this
        exact this
      clear hown2 hI2
      go_wp2_with fail
      refine KE.mono ?_
      rintro e we ⟨rfl, Be⟩
      replace BB := BB.trans (Be.mono BB.size)
      go_wp2_with fail
      refine (KL.out _).mono ?_
      rintro e wf ⟨rfl, Bf⟩
      replace BB := BB.trans (Bf.mono BB.size)
      go_wp2
      go_ret
      exact ⟨rfl, BB⟩
    · rw [rlZ_no hok]
      go_wp2_with fail
      refine (KL.out _).mono ?_
      rintro e wf ⟨rfl, Bf⟩
      replace BB := BB.trans (Bf.mono BB.size)
      go_wp2
      go_ret
      exact ⟨rfl, BB⟩
  · have h0 : (rsZ k).length = 0 := by rw [rsZ_no hk]; rfl
    go_wp2_with fail
    refine (implRunSyms_any k _).mono ?_
    rintro e wb ⟨v, rfl, hown, Bb⟩
    rw [h0] at hown
    have BB := Ba.trans (Bb.mono Ba.size)
    obtain ⟨a, c, rfl⟩ := own_shape hown
    clear hown h0 Ba Bb hcode
    by_cases h1 : k < 1
    · clear hk
      go_wp2_with fail
      refine (KL.out _).mono ?_
      rintro e wf ⟨rfl, Bf⟩
      replace BB := BB.trans (Bf.mono BB.size)
      go_wp2
      go_ret
      exact ⟨rfl, BB⟩
    · have h2 : k > 600 := by omega
      clear hk
      go_wp2_with fail
      refine (KL.out _).mono ?_
      rintro e wf ⟨rfl, Bf⟩
      replace BB := BB.trans (Bf.mono BB.size)
      go_wp2
      go_ret
      exact ⟨rfl, BB⟩
end Go.Proofs.Ytpdicijoohahaaa
