/- Merged: WPacks. -/
import Derived.Test.YtpdicijoohahaaaP3
import Derived.Test.YtpdicijoohahaaaP5
import Derived.Test.YtpdicijoohahaaaC9C
import Derived.Test.YtpdicijoohahaaaI9U
namespace Go.Proofs.Ytpdicijoohahaaa
set_option linter.unusedVariables false
set_option linter.unusedSimpArgs false
open Go.RowKit

/-- What is packed of a right list, and what comes of it. -/
theorem packs9_ok {L : List Int} {n : Int} (h : rOk L n = true) : 0 < (packZ L n).length ∧ (packZ L n).length ≤ L.length + 1 ∧ upOk (packZ L n) n L.length = true ∧ upL (packZ L n) n L.length = L := by
  obtain ⟨D, m, rfl, rfl, hm1, hm2, hL6, hLm⟩ := rOk_nats h
  have hu := up_pack h hL6 hm1 hm2 hLm
  rw [ints_len] at *
  unfold upOk upL
  rw [hu]
  rw [packZ_yes h, ints_len, List.length_append]
  have := packF_len D 0
  simp
  omega
theorem upL_small (z : List Int) (n most : Int) : (upL z n most).length ≤ 600 ∧ ∀ x ∈ upL z n most, 0 ≤ x ∧ x ≤ 256 := by
  unfold upL
  cases h : upA z n most with
  | none => simp [ints]
  | some y =>
    have h2 := (rOk_iff _ _).1 (pack_up h).1
    simp only [Option.getD_some]
    exact ⟨h2.2.2.1, fun x hx => by have := h2.2.2.2 x hx; omega⟩
theorem ups_ok {A : List Int} {m most : Int} (h : upOk A m most = true) : rOk (upL A m most) m = true ∧ packZ (upL A m most) m = A := by
  unfold upOk at h
  rw [Option.isSome_iff_exists] at h
  obtain ⟨y, hy⟩ := h
  unfold upL
  rw [hy]
  exact pack_up hy
set_option maxHeartbeats 1000000 in
set_option maxRecDepth 100000 in
theorem walk_FnPacks (w : World) (a0 : Option Addr) (len0 cap0 : Nat) (z0 : List Int) (w0 : IsRow .u8 w a0 len0 cap0 z0) :
    Calls Try.prog 12 #[.slice a0 len0 cap0] w fun e w' => e = .returned (.bool true) ∧ Below w.heap.size w w' := by
  have hcode := Code.ofRow w0
  have KL := hidden places_any
  clear w0
  go_enter Try.func12, Try.ntmps12
  go_wp2_with fail
  refine (drawPackRuns_any _ _ _ _ _ hcode).mono ?_
  rintro e wa ⟨v, L, n, rfl, hown, hl1, hrL, hn1, hn2, Ba⟩
  have hsa := Ba.size
  replace hcode : Code wa wa.heap.size a0 len0 cap0 z0 := (hcode.below Ba).up8 hsa
  obtain ⟨k, hk⟩ : ∃ k, L.length = k := ⟨_, rfl⟩
  have HR := hidden hrL
  have HK := hidden hk
  rw [hk] at hown hl1
  obtain ⟨al, cl, rfl⟩ := own_shape hown
  have hcap := own_cap hown
  have hIL := hidden (Ints.ofOwn hown (by omega) (fun x hx => by have := HR.out x hx; omega)).2
  have HPS := hidden (packZ_small L n)
  have HOK := hidden (fun h => packs9_ok (L := L) (n := n) h)
  have KP : Calls Try.prog 24 #[.slice al k cl, .int .i64 n] wa fun e w' => ∃ v, e = .returned v ∧ w'.ownsRow wa.heap.size 3 1 v (packZ L n).length (intsV (packZ L n)) ∧ Below wa.heap.size wa w' := by
    have := implPackRuns_any al cl _ L n wa hIL.out (Nat.le_refl _) (by rw [hk]; omega) (by rw [hk]; exact hcap) (by omega) (by omega)
    rw [hk] at this
    exact this
  have KO : Hid (∀ W, Ints W wa.heap.size al L → Calls Try.prog 29 #[.slice al k cl, .int .i64 n] W fun e w' => e = .returned (.bool (rOk L n)) ∧ W = w') := hidden fun W h => by
    have := specRanksOk_any al cl _ L n W h (by rw [HK.out]; omega) (by omega) (by omega)
    rw [HK.out] at this
    exact this
  obtain ⟨P, hP⟩ : ∃ P, packZ L n = P := ⟨_, rfl⟩
  rw [hP] at KP HPS
  obtain ⟨p, hp⟩ : ∃ p, P.length = p := ⟨_, rfl⟩
  have hp6 := HPS.out.1
  have HP := hidden hp
  have HPP := hidden hP
  rw [hp] at KP hp6
  clear hown hk hrL hP hp
  go_wp2_with fail
  refine KP.mono ?_
  rintro e wb ⟨vs, rfl, hownS, Bb⟩
  have BB := Ba.trans (Bb.mono hsa)
  have hsb := Bb.size
  have hwb := BB.size
  replace hcode : Code wb wb.heap.size a0 len0 cap0 z0 := (hcode.below Bb).up8 hsb
  replace hIL := hidden (hIL.out.below Bb)
  obtain ⟨aS, cs, rfl⟩ := own_shape hownS
  have hcapS := own_cap hownS
  have hIS := hidden (Ints.ofOwn hownS (by omega) (fun x hx => by have := HPS.out.2 x hx; omega)).2
  clear hownS KP Ba
  by_cases hok : rOk L n = true
  · obtain ⟨o1, o2, o3, o4⟩ := HOK.out hok
    rw [HPP.out, HP.out] at o1 o2
    rw [HPP.out, HK.out] at o3 o4
    rw [HK.out] at o2
    rw [hok] at KO
    have KU : Calls Try.prog 26 #[.slice aS p cs, .int .i64 n, .int .i64 k] wb fun e w' => ∃ v, e = .returned (.tuple #[v, .bool true]) ∧ w'.ownsRow wb.heap.size 3 1 v k (intsV L) ∧ Below wb.heap.size wb w' := by
      have := implUnpackRuns_any aS cs _ P n k wb hIS.out (Nat.le_refl _) (by rw [HP.out]; omega) (by rw [HP.out]; exact hcapS) (by omega) (by omega) (by omega) (by omega)
      rw [HP.out, o3, o4, HK.out] at this
      exact this
    clear hok HOK o3 o4
    go_wp2_with fail
    refine (KO.out _ hIL.out).mono ?_
    rintro e wx ⟨rfl, rfl⟩
    go_wp2_with fail
    refine KU.mono ?_
    rintro e wc ⟨vx, rfl, hownX, Bc⟩
    obtain ⟨ax, cx, rfl⟩ := own_shape hownX
    have hIX := hidden (Ints.ofOwn hownX (by omega) (fun x hx => by have := HR.out x hx; omega)).2
    have BC := BB.trans (Bc.mono hwb)
    have hsc := Bc.size
    have hwc := BC.size
    replace hcode : Code wc wc.heap.size a0 len0 cap0 z0 := (hcode.below Bc).up8 hsc
    replace hIL := hidden ((hIL.out.mono hsb).below Bc)
    clear hownX KU Bc BB KO
    go_wp2_with fail
    refine (drawUnpackRuns_any _ _ _ _ _ hcode).mono ?_
    rintro e wd ⟨aa, A, ca, m, most, rfl, hA1, hIA, hcA, hm1, hm2, ht1, ht2, Bd⟩
    have BD := BC.trans (Bd.mono hwc)
    have hsd := Bd.size
    have hwd := BD.size
    replace hIL := hidden ((hIL.out.mono hsc).below Bd)
    replace hIX := hidden (hIX.out.below Bd)
    obtain ⟨q, hq⟩ : ∃ q, A.length = q := ⟨_, rfl⟩
    have HQ := hidden hq
    rw [hq] at hA1 hcA ⊢
    replace hIA := hidden hIA
    have HUP := hidden (fun h => ups_ok (A := A) (m := m) (most := most) h)
    have HUR := hidden (upL_small A m most)
    have KI : Calls Try.prog 26 #[.slice aa q ca, .int .i64 m, .int .i64 most] wd fun e w' => ∃ v, e = .returned (.tuple #[v, .bool (upOk A m most)]) ∧ w'.ownsRow wd.heap.size 3 1 v (upL A m most).length (intsV (upL A m most)) ∧ Below wd.heap.size wd w' := by
      have := implUnpackRuns_any aa ca _ A m most wd hIA.out (Nat.le_refl _) (by rw [HQ.out]; omega) (by rw [HQ.out]; exact hcA) (by omega) (by omega) (by omega) (by omega)
      rw [HQ.out] at this
      exact this
    have KS : Hid (∀ W, Ints W wd.heap.size aa A → wd.heap.size ≤ W.heap.size → Calls Try.prog 25 #[.slice aa q ca, .int .i64 m, .int .i64 most] W fun e w' => ∃ v, e = .returned (.tuple #[v, .bool (upOk A m most)]) ∧ w'.ownsRow W.heap.size 3 1 v (upL A m most).length (intsV (upL A m most)) ∧ Below W.heap.size W w') := hidden fun W h hB => by
      have := specUnpackRuns_any aa ca _ A m most W h hB (by rw [HQ.out]; omega) (by rw [HQ.out]; exact hcA) (by omega) (by omega) (by omega) (by omega)
      rw [HQ.out] at this
      exact this
    obtain ⟨Y, hY⟩ : ∃ Y, upL A m most = Y := ⟨_, rfl⟩
    obtain ⟨b, hb⟩ : ∃ b, upOk A m most = b := ⟨_, rfl⟩
    rw [hY] at HUP HUR
    rw [hb] at HUP
    rw [hY, hb] at KI KS
    obtain ⟨y, hy⟩ : ∃ y, Y.length = y := ⟨_, rfl⟩
    have HYL := hidden hy
    have hy6 := HUR.out.1
    rw [hy] at KI KS hy6
    clear hY hb hy hq hcode BC Bd
    go_wp2_with fail
    refine KI.mono ?_
    rintro e we ⟨vy, rfl, hownY, Be⟩
    obtain ⟨ay, cy, rfl⟩ := own_shape hownY
    have hcapY := own_cap hownY
    have hIY := hidden (Ints.ofOwn hownY (by omega) (fun x hx => by have := HUR.out.2 x hx; omega)).2
    have BE := BD.trans (Be.mono hwd)
    have hse := Be.size
    have hwe := BE.size
    replace hIL := hidden ((hIL.out.mono hsd).below Be)
    replace hIX := hidden ((hIX.out.mono hsd).below Be)
    replace hIA := hidden (hIA.out.below Be)
    clear KI Be BD hownY
    go_wp2_with fail
    refine (KS.out _ hIA.out hse).mono ?_
    rintro e wf ⟨vz, rfl, _, Bf⟩
    have BF := BE.trans (Bf.mono hwe)
    have hsf := Bf.size
    have hwf := BF.size
    replace hIL := hidden ((hIL.out.mono hse).below Bf)
    replace hIX := hidden ((hIX.out.mono hse).below Bf)
    replace hIA := hidden ((hIA.out.mono hse).below Bf)
    replace hIY := hidden (hIY.out.below Bf)
    clear KS Bf BE
    have hp1 : (p : Int) ≤ (k : Int) + 1 := by omega
    have hp0 : (0 : Int) < (p : Int) := by omega
    cases b with
    | true =>
      obtain ⟨u1, u2⟩ := HUP.out rfl
      have KR : Calls Try.prog 24 #[.slice ay y cy, .int .i64 m] wf fun e w' => ∃ v, e = .returned v ∧ w'.ownsRow wf.heap.size 3 1 v q (intsV A) ∧ Below wf.heap.size wf w' := by
        have := implPackRuns_any ay cy _ Y m wf (hIY.out.mono hsf) (Nat.le_refl _) (by rw [HYL.out]; omega) (by rw [HYL.out]; exact hcapY) (by omega) (by omega)
        rw [HYL.out, u2, HQ.out] at this
        exact this
      clear u1 u2
      go_wp2_with fail
      refine KR.mono ?_
      rintro e wg ⟨vr, rfl, hownR, Bg⟩
      obtain ⟨ar, cr, rfl⟩ := own_shape hownR
      have BG := BF.trans (Bg.mono hwf)
      have hsg := Bg.size
      have hwg := BG.size
      have hIR := (Ints.ofOwn hownR (by omega) hIA.out.2.1).2
      replace hIL := hidden ((hIL.out.mono hsf).below Bg)
      replace hIX := hidden ((hIX.out.mono hsf).below Bg)
      replace hIA := hidden ((hIA.out.mono hsf).below Bg)
      have KE : Calls Try.prog 31 #[.slice ar q cr, .slice aa q ca] wg fun e w' => e = .returned (.bool true) ∧ Below wg.heap.size wg w' := by
        have := sameInts_any ar aa cr ca wg.heap.size A A wg hIR (hIA.out.mono hsg)
        rw [decide_eq_true rfl, HQ.out] at this
        exact this
      clear hownR KR Bg BF hIR
      go_wp2_with fail
      refine KE.mono ?_
      rintro e wh ⟨rfl, Bh⟩
      have BH := BG.trans (Bh.mono hwg)
      have hsh := Bh.size
      have hwh := BH.size
      replace hIL := hidden ((hIL.out.mono hsg).below Bh)
      replace hIX := hidden ((hIX.out.mono hsg).below Bh)
      have KE2 : Calls Try.prog 31 #[.slice ax k cx, .slice al k cl] wh fun e w' => e = .returned (.bool true) ∧ Below wh.heap.size wh w' := by
        have := sameInts_any ax al cx cl wh.heap.size L L wh (hIX.out.mono hsh) (hIL.out.mono hsh)
        rw [decide_eq_true rfl, HK.out] at this
        exact this
      clear Bh BG KE
      go_wp2_with fail
      refine KE2.mono ?_
      rintro e wi ⟨rfl, Bi⟩
      have BI := BH.trans (Bi.mono hwh)
      clear Bi BH KE2
      go_wp2_with fail
      refine (KL.out _).mono ?_
      rintro e wj ⟨rfl, Bj⟩
      have BJ := BI.trans (Bj.mono BI.size)
      go_wp2
      go_ret
      exact ⟨rfl, BJ⟩
    | false =>
      have KE2 : Calls Try.prog 31 #[.slice ax k cx, .slice al k cl] wf fun e w' => e = .returned (.bool true) ∧ Below wf.heap.size wf w' := by
        have := sameInts_any ax al cx cl wf.heap.size L L wf (hIX.out.mono hsf) (hIL.out.mono hsf)
        rw [decide_eq_true rfl, HK.out] at this
        exact this
      go_wp2_with fail
      refine KE2.mono ?_
      rintro e wi ⟨rfl, Bi⟩
      have BI := BF.trans (Bi.mono hwf)
      clear Bi BF KE2
      go_wp2_with fail
      refine (KL.out _).mono ?_
      rintro e wj ⟨rfl, Bj⟩
      have BJ := BI.trans (Bj.mono BI.size)
      go_wp2
      go_ret
      exact ⟨rfl, BJ⟩
  · have h0 : p = 0 := by rw [← HP.out, ← HPP.out, packZ_no (bool_false hok)]; rfl
    subst h0
    rw [bool_false hok] at KO
    clear hok HOK
    go_wp2_with fail
    refine (KO.out _ hIL.out).mono ?_
    rintro e wx ⟨rfl, rfl⟩
    go_wp2_with fail
    refine (KL.out _).mono ?_
    rintro e wj ⟨rfl, Bj⟩
    have BJ := BB.trans (Bj.mono hwb)
    go_wp2
    go_ret
    exact ⟨rfl, BJ⟩
end Go.Proofs.Ytpdicijoohahaaa
