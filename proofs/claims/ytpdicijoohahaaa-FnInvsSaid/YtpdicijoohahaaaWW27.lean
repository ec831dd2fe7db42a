/- Merged: WInvs. -/
import Derived.Test.YtpdicijoohahaaaWW19
import Derived.Test.YtpdicijoohahaaaWW26
import Derived.Test.YtpdicijoohahaaaWW12
import Derived.Test.YtpdicijoohahaaaWW24
import Derived.Test.YtpdicijoohahaaaWW25
namespace Go.Proofs.Ytpdicijoohahaaa
set_option linter.unusedVariables false
set_option linter.unusedSimpArgs false
open Go.RowKit

theorem invs_ok {L : List Int} {n : Int} (h : rOk L n = true) : uiOk (invC L n) (invG L n) n = true ∧ uiL (invC L n) (invG L n) n = L := by
  obtain ⟨D, m, rfl, rfl, hm1, hm2, hL6, hLm⟩ := rOk_nats h
  have := ui_inv h hm1 hm2 hL6 hLm
  unfold uiOk uiL
  rw [this]
  exact ⟨rfl, rfl⟩
theorem uis_ok {A G : List Int} {m : Int} (h : uiOk A G m = true) : invC (uiL A G m) m = A ∧ invG (uiL A G m) m = G := by
  unfold uiOk at h
  rw [Option.isSome_iff_exists] at h
  obtain ⟨y, hy⟩ := h
  unfold uiL
  rw [hy]
  exact (inv_ui hy).2
theorem uiL_small (z g : List Int) (n : Int) : (uiL z g n).length ≤ 600 ∧ ∀ x ∈ uiL z g n, 0 ≤ x ∧ x ≤ 256 := by
  unfold uiL
  cases h : uiA z g n with
  | none => simp [ints]
  | some y =>
    have h2 := uiA_len h
    simp only [Option.getD_some]
    refine ⟨by rw [ints_len]; exact h2.1, fun x hx => ?_⟩
    unfold ints at hx
    rw [List.mem_map] at hx
    obtain ⟨d, hd, rfl⟩ := hx
    have := h2.2 d hd
    omega
theorem implInv_k (a : Option Addr) (c B k m q : Nat) (z C G : List Int) (n : Int) (w : World) (hk : z.length = k) (hC : invC z n = C) (hG : invG z n = G) (hm : C.length = m) (hq : G.length = q) (hz : Ints w B a z) (hB : B ≤ w.heap.size) (hl : k ≤ 1048576) (n1 : -9223372036854775808 ≤ n) (n2 : n ≤ 9223372036854775807) :
    Calls Try.prog 38 #[.slice a k c, .int .i64 n] w fun e w' => ∃ v0 v1, e = .returned (.tuple #[v0, v1]) ∧ w'.ownsRow w.heap.size 3 1 v0 m (intsV C) ∧ w'.ownsRow w.heap.size 3 1 v1 q (intsV G) ∧ Below w.heap.size w w' := by
  subst hk hC hG hm hq
  exact (implInv_any a c B z n w hz hB hl n1 n2).mono fun e w' ⟨v0, v1, h1, h2, h3, h4, h5⟩ => ⟨v0, v1, h1, h2, h3, h5⟩
theorem implUnInv_k (a0 a1 : Option Addr) (c0 c1 B k0 k1 m : Nat) (z gz M : List Int) (n : Int) (b : Bool) (w : World) (hk0 : z.length = k0) (hk1 : gz.length = k1) (hb : uiOk z gz n = b) (hM : uiL z gz n = M) (hm : M.length = m) (hz0 : Ints w B a0 z) (hz1 : Ints w B a1 gz) (hB : B ≤ w.heap.size) (hl0 : k0 ≤ 1048576) (hl1 : k1 ≤ 1048576) (hcap : k1 ≤ c1) (hform : ∀ a, a1 = some a → a.spot = none) (n1 : -9223372036854775808 ≤ n) (n2 : n ≤ 9223372036854775807) :
    Calls Try.prog 15 #[.slice a0 k0 c0, .slice a1 k1 c1, .int .i64 n] w fun e w' => ∃ v, e = .returned (.tuple #[v, .bool b]) ∧ w'.ownsRow w.heap.size 3 1 v m (intsV M) ∧ Below w.heap.size w w' := by
  subst hk0 hk1 hb hM hm
  exact implUnInv_any a0 a1 c0 c1 B z gz n w hz0 hz1 hB hl0 hl1 hcap hform n1 n2
theorem specUnInv_k (a0 a1 : Option Addr) (c0 c1 B k0 k1 : Nat) (z gz : List Int) (n : Int) (b : Bool) (w : World) (hk0 : z.length = k0) (hk1 : gz.length = k1) (hb : uiOk z gz n = b) (hz0 : Ints w B a0 z) (hz1 : Ints w B a1 gz) (hB : B ≤ w.heap.size) (hl0 : k0 ≤ 1048576) (hl1 : k1 ≤ 1048576) (n1 : -9223372036854775808 ≤ n) (n2 : n ≤ 9223372036854775807) :
    Calls Try.prog 13 #[.slice a0 k0 c0, .slice a1 k1 c1, .int .i64 n] w fun e w' => ∃ v, e = .returned (.tuple #[v, .bool b]) ∧ Below w.heap.size w w' := by
  subst hk0 hk1 hb
  exact (specUnInv_any a0 a1 c0 c1 B z gz n w hz0 hz1 hB hl0 hl1 n1 n2).mono fun e w' ⟨v, h1, h2, h3⟩ => ⟨v, h1, h3⟩
set_option maxHeartbeats 1500000 in
set_option maxRecDepth 100000 in
theorem walk_FnInvs (w : World) (a0 : Option Addr) (len0 cap0 : Nat) (z0 : List Int) (w0 : IsRow .u8 w a0 len0 cap0 z0) :
    Calls Try.prog 10 #[.slice a0 len0 cap0] w fun e w' => e = .returned (.bool true) ∧ Below w.heap.size w w' := by
  have hcode := Code.ofRow w0
  have KL := hidden places_any
  clear w0
  go_enter Try.func10, Try.ntmps10
  go_wp2_with fail
  refine (drawInv_any _ _ _ _ _ hcode).mono ?_
  rintro e wa ⟨v, L, n, rfl, hown, hl1, hrL, hn1, hn2, Ba⟩
  have hsa := Ba.size
  replace hcode : Code wa wa.heap.size a0 len0 cap0 z0 := (hcode.below Ba).up8 hsa
  obtain ⟨k, hk⟩ : ∃ k, L.length = k := ⟨_, rfl⟩
  have HR := hidden hrL
  have HK := hidden hk
  rw [hk] at hown hl1
  obtain ⟨al, cl, rfl⟩ := own_shape hown
  have hIL := hidden (Ints.ofOwn hown (by omega) (fun x hx => by have := HR.out x hx; omega)).2
  clear hown hk hrL
  by_cases hok : rOk L n = true
  · obtain ⟨s1, s2, s3, s4⟩ := inv_small hok
    obtain ⟨o1, o2⟩ := invs_ok hok
    obtain ⟨C, hC⟩ : ∃ C, invC L n = C := ⟨_, rfl⟩
    obtain ⟨G, hG⟩ : ∃ G, invG L n = G := ⟨_, rfl⟩
    have HCC := hidden hC
    have HGG := hidden hG
    rw [hC] at s1 s3 o1 o2
    rw [hG] at s2 s4 o1 o2
    rw [HK.out] at s2
    obtain ⟨p, hp⟩ : ∃ p, C.length = p := ⟨_, rfl⟩
    obtain ⟨q, hq⟩ : ∃ q, G.length = q := ⟨_, rfl⟩
    rw [hp] at s1
    rw [hq] at s2
    have HP := hidden hp
    have HQ := hidden hq
    have H3 := hidden s3
    have H4 := hidden s4
    have O1 := hidden o1
    have O2 := hidden o2
    have HOK := hidden hok
    clear hC hG hp hq s3 s4 o1 o2 hok
    subst s1
    go_wp2_with fail
    refine (implInv_k al cl wa.heap.size k p q L C G _ wa HK.out HCC.out HGG.out HP.out HQ.out hIL.out (Nat.le_refl _) (by omega) (by omega) (by omega)).mono ?_
    rintro e wb ⟨vc, vg, rfl, hownC, hownG, Bb⟩
    obtain ⟨ac, cc, rfl⟩ := own_shape hownC
    obtain ⟨ag, cg, rfl⟩ := own_shape hownG
    have hcapG := own_cap hownG
    have hspG := hidden (own_spot hownG)
    have hIC := hidden (Ints.ofOwn hownC (by omega) (fun x hx => by have := H3.out x hx; omega)).2
    have hIG := hidden (Ints.ofOwn hownG (by omega) (fun x hx => by have := H4.out x hx; omega)).2
    have BB := Ba.trans (Bb.mono hsa)
    have hsb := Bb.size
    have hwb := BB.size
    replace hcode : Code wb wb.heap.size a0 len0 cap0 z0 := (hcode.below Bb).up8 hsb
    replace hIL := hidden ((hIL.out.below Bb).mono hsb)
    clear hownC hownG Ba Bb
    go_wp2_with fail
    refine (specRanksOk_k al cl wb.heap.size k L _ true wb HK.out HOK.out hIL.out (by omega) (by omega) (by omega)).mono ?_
    rintro e wx ⟨rfl, rfl⟩
    go_wp2_with fail
    refine (implUnInv_k ac ag cc cg wb.heap.size p q k C G L _ true wb HP.out HQ.out O1.out O2.out HK.out hIC.out hIG.out (Nat.le_refl _) (by omega) (by omega) hcapG hspG.out (by omega) (by omega)).mono ?_
    rintro e wc ⟨vx, rfl, hownX, Bc⟩
    obtain ⟨ax, cx, rfl⟩ := own_shape hownX
    have hIX := hidden (Ints.ofOwn hownX (by omega) (fun x hx => by have := HR.out x hx; omega)).2
    have BC := BB.trans (Bc.mono hwb)
    have hsc := Bc.size
    have hwc := BC.size
    replace hcode : Code wc wc.heap.size a0 len0 cap0 z0 := (hcode.below Bc).up8 hsc
    replace hIL := hidden ((hIL.out.below Bc).mono hsc)
    clear hownX Bc BB hIC hIG hspG hcapG O1 O2 HCC HGG
    go_wp2_with fail
    refine (drawUnInv_any _ _ _ _ _ hcode).mono ?_
    rintro e wd ⟨aA, A, cA, aG, E, cG, m, rfl, hA1, hG1, hIA, hIE, hcE, hspE, hm1, hm2, Bd⟩
    have BD := BC.trans (Bd.mono hwc)
    have hsd := Bd.size
    have hwd := BD.size
    replace hIL := hidden ((hIL.out.below Bd).mono hsd)
    replace hIX := hidden ((hIX.out.below Bd).mono hsd)
    replace hIA := hidden hIA
    replace hIE := hidden hIE
    replace hspE := hidden hspE
    obtain ⟨s, hs⟩ : ∃ s, A.length = s := ⟨_, rfl⟩
    obtain ⟨t, ht⟩ : ∃ t, E.length = t := ⟨_, rfl⟩
    rw [hs] at hA1 ⊢
    rw [ht] at hG1 hcE ⊢
    have HS := hidden hs
    have HT := hidden ht
    have HUI := hidden (fun h => uis_ok (A := A) (G := E) (m := m) h)
    have HUS := hidden (uiL_small A E m)
    obtain ⟨Y, hY⟩ : ∃ Y, uiL A E m = Y := ⟨_, rfl⟩
    obtain ⟨b, hb⟩ : ∃ b, uiOk A E m = b := ⟨_, rfl⟩
    have HYY := hidden hY
    have HBB := hidden hb
    rw [hY] at HUI HUS
    rw [hb] at HUI
    obtain ⟨y, hy⟩ : ∃ y, Y.length = y := ⟨_, rfl⟩
    have HYL := hidden hy
    have hy6 := HUS.out.1
    rw [hy] at hy6
    clear hs ht hY hb hy hcode BC Bd
    go_wp2_with fail
    refine (implUnInv_k aA aG cA cG wd.heap.size s t y A E Y m b wd HS.out HT.out HBB.out HYY.out HYL.out hIA.out hIE.out (Nat.le_refl _) (by omega) (by omega) hcE hspE.out (by omega) (by omega)).mono ?_
    rintro e we ⟨vy, rfl, hownY, Be⟩
    obtain ⟨ay, cy, rfl⟩ := own_shape hownY
    have hIY := hidden (Ints.ofOwn hownY (by omega) (fun x hx => by have := HUS.out.2 x hx; omega)).2
    have BE := BD.trans (Be.mono hwd)
    have hse := Be.size
    have hwe := BE.size
    replace hIL := hidden ((hIL.out.below Be).mono hse)
    replace hIX := hidden ((hIX.out.below Be).mono hse)
    replace hIA := hidden ((hIA.out.below Be).mono hse)
    replace hIE := hidden ((hIE.out.below Be).mono hse)
    clear hownY Be BD
    go_wp2_with fail
    refine (specUnInv_k aA aG cA cG we.heap.size s t A E m b we HS.out HT.out HBB.out hIA.out hIE.out (Nat.le_refl _) (by omega) (by omega) (by omega) (by omega)).mono ?_
    rintro e wf ⟨vz, rfl, Bf⟩
    have BF := BE.trans (Bf.mono hwe)
    have hsf := Bf.size
    have hwf := BF.size
    replace hIL := hidden ((hIL.out.below Bf).mono hsf)
    replace hIX := hidden ((hIX.out.below Bf).mono hsf)
    replace hIA := hidden ((hIA.out.below Bf).mono hsf)
    replace hIE := hidden ((hIE.out.below Bf).mono hsf)
    replace hIY := hidden ((hIY.out.below Bf).mono hsf)
    clear Bf BE
    cases b with
    | true =>
      obtain ⟨u1, u2⟩ := HUI.out rfl
      have U1 := hidden u1
      have U2 := hidden u2
      clear u1 u2
      go_wp2_with fail
      refine (implInv_k ay cy wf.heap.size y s t Y A E m wf HYL.out U1.out U2.out HS.out HT.out hIY.out (Nat.le_refl _) (by omega) (by omega) (by omega)).mono ?_
      rintro e wg ⟨vd, ve, rfl, hownD, hownE, Bg⟩
      obtain ⟨ad, cd, rfl⟩ := own_shape hownD
      obtain ⟨ae, ce, rfl⟩ := own_shape hownE
      have hID := (Ints.ofOwn hownD (by omega) hIA.out.2.1).2
      have hIE2 := hidden (Ints.ofOwn hownE (by omega) hIE.out.2.1).2
      have BG := BF.trans (Bg.mono hwf)
      have hsg := Bg.size
      have hwg := BG.size
      replace hIL := hidden ((hIL.out.below Bg).mono hsg)
      replace hIX := hidden ((hIX.out.below Bg).mono hsg)
      replace hIA := hidden ((hIA.out.below Bg).mono hsg)
      replace hIE := hidden ((hIE.out.below Bg).mono hsg)
      clear hownD hownE Bg BF
      go_wp2_with fail
      refine (sameInts_k ad aA cd cA wg.heap.size s A wg HS.out hID hIA.out).mono ?_
      rintro e wh ⟨rfl, Bh⟩
      have BH := BG.trans (Bh.mono hwg)
      have hsh := Bh.size
      have hwh := BH.size
      replace hIL := hidden ((hIL.out.below Bh).mono hsh)
      replace hIX := hidden ((hIX.out.below Bh).mono hsh)
      replace hIE := hidden ((hIE.out.below Bh).mono hsh)
      replace hIE2 := hidden ((hIE2.out.below Bh).mono hsh)
      clear hID Bh BG
      go_wp2_with fail
      refine (sameInts_k ae aG ce cG wh.heap.size t E wh HT.out hIE2.out hIE.out).mono ?_
      rintro e wi ⟨rfl, Bi⟩
      have BI := BH.trans (Bi.mono hwh)
      have hsi := Bi.size
      have hwi := BI.size
      replace hIL := hidden ((hIL.out.below Bi).mono hsi)
      replace hIX := hidden ((hIX.out.below Bi).mono hsi)
      clear Bi BH
      go_wp2_with fail
      refine (sameInts_k ax al cx cl wi.heap.size k L wi HK.out hIX.out hIL.out).mono ?_
      rintro e wj ⟨rfl, Bj⟩
      have BJ := BI.trans (Bj.mono hwi)
      clear Bj BI
      go_wp2_with fail
      refine (KL.out _).mono ?_
      rintro e wk ⟨rfl, Bk⟩
      have BK := BJ.trans (Bk.mono BJ.size)
      go_wp2
      go_ret
      exact ⟨rfl, BK⟩
    | false =>
      go_wp2_with fail
      refine (sameInts_k ax al cx cl wf.heap.size k L wf HK.out hIX.out hIL.out).mono ?_
      rintro e wj ⟨rfl, Bj⟩
      have BJ := BF.trans (Bj.mono hwf)
      clear Bj BF
      go_wp2_with fail
      refine (KL.out _).mono ?_
      rintro e wk ⟨rfl, Bk⟩
      have BK := BJ.trans (Bk.mono BJ.size)
      go_wp2
      go_ret
      exact ⟨rfl, BK⟩
  · have HNO := hidden (bool_false hok)
    have HC0 : Hid (invC L n = []) := hidden (invC_no (bool_false hok))
    have HG0 : Hid (invG L n = []) := hidden (invG_no (bool_false hok))
    clear hok hcode
    go_wp2_with fail
    refine (implInv_k al cl wa.heap.size k 0 0 L [] [] n wa HK.out HC0.out HG0.out rfl rfl hIL.out (Nat.le_refl _) (by omega) (by omega) (by omega)).mono ?_
    rintro e wb ⟨vc, vg, rfl, hownC, hownG, Bb⟩
    obtain ⟨ac, cc, rfl⟩ := own_shape hownC
    obtain ⟨ag, cg, rfl⟩ := own_shape hownG
    have BB := Ba.trans (Bb.mono hsa)
    have hsb := Bb.size
    have hwb := BB.size
    replace hIL := hidden ((hIL.out.below Bb).mono hsb)
    clear hownC hownG Ba Bb
    go_wp2_with fail
    refine (specRanksOk_k al cl wb.heap.size k L n false wb HK.out HNO.out hIL.out (by omega) (by omega) (by omega)).mono ?_
    rintro e wx ⟨rfl, rfl⟩
    go_wp2_with fail
    refine (KL.out _).mono ?_
    rintro e wh ⟨rfl, Bh⟩
    have BH := BB.trans (Bh.mono hwb)
    go_wp2
    go_ret
    exact ⟨rfl, BH⟩
end Go.Proofs.Ytpdicijoohahaaa
