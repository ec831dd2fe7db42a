/- Merged: Wk8, WMtfs, WSbrs. -/
import Derived.Test.YtpdicijoohahaaaM18
import Derived.Test.YtpdicijoohahaaaM16
import Derived.Test.YtpdicijoohahaaaM3
import Derived.Test.YtpdicijoohahaaaM19
namespace Go.Proofs.Ytpdicijoohahaaa
set_option linter.unusedVariables false
set_option linter.unusedSimpArgs false
open Go.RowKit

theorem ints_small {D : List Nat} {m : Nat} (hm : m ≤ 256) (h : ∀ x ∈ D, x < m) : ∀ x ∈ ints D, 0 ≤ x ∧ x ≤ 256 := fun x hx => by
  unfold ints at hx
  rw [List.mem_map] at hx
  obtain ⟨d, hd, rfl⟩ := hx
  have := h d hd
  omega
theorem sbrs_ok {L : List Int} {n : Int} (h : rOk L n = true) : (sbrZ L n).length = L.length ∧ (∀ x ∈ sbrZ L n, 0 ≤ x ∧ x ≤ 256) ∧ rOk (sbrZ L n) n = true ∧ usbZ (sbrZ L n) n = L ∧ (usbZ L n).length = L.length ∧ (∀ x ∈ usbZ L n, 0 ≤ x ∧ x ≤ 256) ∧ sbrZ (usbZ L n) n = L := by
  obtain ⟨D, m, rfl, rfl, hm1, hm2, hL6, hLm⟩ := rOk_nats h
  have h1 : rOk (ints (runF (sbrF m) sb0 D)) m = true := rOk_of hm1 hm2 (by rw [runF_len]; exact hL6) (sbr_lt hLm)
  have h2 : rOk (ints (runF (usbF m) sb0 D)) m = true := rOk_of hm1 hm2 (by rw [runF_len]; exact hL6) (usb_lt hLm)
  rw [sbrZ_yes h, usbZ_yes h, usbZ_yes h1, sbrZ_yes h2, usb_sbr hLm, sbr_usb hLm]
  simp only [ints_len, runF_len]
  exact ⟨trivial, ints_small hm2 (sbr_lt hLm), h1, trivial, trivial, ints_small hm2 (usb_lt hLm), trivial⟩
theorem mtfs_ok {L : List Int} {n : Int} (h : rOk L n = true) : (mtfZ L n).length = L.length ∧ (∀ x ∈ mtfZ L n, 0 ≤ x ∧ x ≤ 256) ∧ rOk (mtfZ L n) n = true ∧ umtZ (mtfZ L n) n = L ∧ (umtZ L n).length = L.length ∧ (∀ x ∈ umtZ L n, 0 ≤ x ∧ x ≤ 256) ∧ mtfZ (umtZ L n) n = L := by
  obtain ⟨D, m, rfl, rfl, hm1, hm2, hL6, hLm⟩ := rOk_nats h
  have h1 : rOk (ints (runF mtfF (List.range m) D)) m = true := rOk_of hm1 hm2 (by rw [runF_len]; exact hL6) (mtf_lt hLm)
  have h2 : rOk (ints (runF umtF (List.range m) D)) m = true := rOk_of hm1 hm2 (by rw [runF_len]; exact hL6) (umt_lt hLm)
  rw [mtfZ_yes h, umtZ_yes h, umtZ_yes h1, mtfZ_yes h2, umt_mtf hLm, mtf_umt hLm]
  simp only [ints_len, runF_len]
  exact ⟨trivial, ints_small hm2 (mtf_lt hLm), h1, trivial, trivial, ints_small hm2 (umt_lt hLm), trivial⟩
theorem mtfs_again {L : List Int} {n : Int} (h : rOk L n = true) (i : Nat) (hi : i + 1 < L.length) : (mtfZ L n).getD (i + 1) 0 = 0 ↔ L.getD (i + 1) 0 = L.getD i 0 := by
  obtain ⟨D, m, rfl, rfl, hm1, hm2, hL6, hLm⟩ := rOk_nats h
  rw [ints_len] at hi
  have := mtf_again D (List.range m) i (PermN.start m) hLm hi
  rw [mtfZ_yes h, ints_get, ints_get, ints_get]
  omega
theorem sameInts_k (a a2 : Option Addr) (c c2 B k : Nat) (z : List Int) (w : World) (hk : z.length = k) (hz : Ints w B a z) (hy : Ints w B a2 z) :
    Calls Try.prog 31 #[.slice a k c, .slice a2 k c2] w fun e w' => e = .returned (.bool true) ∧ Below w.heap.size w w' := by
  subst hk
  have := sameInts_any a a2 c c2 B z z w hz hy
  rw [decide_eq_true rfl] at this
  exact this
theorem specRanksOk_k (a : Option Addr) (c B k : Nat) (z : List Int) (n : Int) (b : Bool) (w : World) (hk : z.length = k) (hb : rOk z n = b) (hz : Ints w B a z) (hl : k ≤ 1048576) (n1 : -9223372036854775808 ≤ n) (n2 : n ≤ 9223372036854775807) :
    Calls Try.prog 29 #[.slice a k c, .int .i64 n] w fun e w' => e = .returned (.bool b) ∧ w = w' := by
  subst hk hb
  exact specRanksOk_any a c B z n w hz hl n1 n2
theorem implRanksOk_k (a : Option Addr) (c B k : Nat) (z : List Int) (n : Int) (b : Bool) (w : World) (hk : z.length = k) (hb : rOk z n = b) (hz : Ints w B a z) (hl : k ≤ 1048576) (n1 : -9223372036854775808 ≤ n) (n2 : n ≤ 9223372036854775807) :
    Calls Try.prog 33 #[.slice a k c, .int .i64 n] w fun e w' => e = .returned (.bool b) ∧ w = w' := by
  subst hk hb
  exact implRanksOk_any a c B z n w hz hl n1 n2
theorem implMtf_k (a : Option Addr) (c B k m : Nat) (z M : List Int) (n : Int) (w : World) (hk : z.length = k) (hM : mtfZ z n = M) (hm : M.length = m) (hz : Ints w B a z) (hB : B ≤ w.heap.size) (hl : k ≤ 1048576) (n1 : -9223372036854775808 ≤ n) (n2 : n ≤ 9223372036854775807) :
    Calls Try.prog 28 #[.slice a k c, .int .i64 n] w fun e w' => ∃ v, e = .returned v ∧ w'.ownsRow w.heap.size 3 1 v m (intsV M) ∧ Below w.heap.size w w' := by
  subst hk hM hm
  exact implMtf_any a c B z n w hz hB hl n1 n2
theorem implUnMtf_k (a : Option Addr) (c B k m : Nat) (z M : List Int) (n : Int) (w : World) (hk : z.length = k) (hM : umtZ z n = M) (hm : M.length = m) (hz : Ints w B a z) (hB : B ≤ w.heap.size) (hl : k ≤ 1048576) (n1 : -9223372036854775808 ≤ n) (n2 : n ≤ 9223372036854775807) :
    Calls Try.prog 32 #[.slice a k c, .int .i64 n] w fun e w' => ∃ v, e = .returned v ∧ w'.ownsRow w.heap.size 3 1 v m (intsV M) ∧ Below w.heap.size w w' := by
  subst hk hM hm
  exact implUnMtf_any a c B z n w hz hB hl n1 n2
theorem implSbr_k (a : Option Addr) (c B k m : Nat) (z M : List Int) (n : Int) (w : World) (hk : z.length = k) (hM : sbrZ z n = M) (hm : M.length = m) (hz : Ints w B a z) (hB : B ≤ w.heap.size) (hl : k ≤ 1048576) (n1 : -9223372036854775808 ≤ n) (n2 : n ≤ 9223372036854775807) :
    Calls Try.prog 35 #[.slice a k c, .int .i64 n] w fun e w' => ∃ v, e = .returned v ∧ w'.ownsRow w.heap.size 3 1 v m (intsV M) ∧ Below w.heap.size w w' := by
  subst hk hM hm
  exact implSbr_any a c B z n w hz hB hl n1 n2
theorem implUnSbr_k (a : Option Addr) (c B k m : Nat) (z M : List Int) (n : Int) (w : World) (hk : z.length = k) (hM : usbZ z n = M) (hm : M.length = m) (hz : Ints w B a z) (hB : B ≤ w.heap.size) (hl : k ≤ 1048576) (n1 : -9223372036854775808 ≤ n) (n2 : n ≤ 9223372036854775807) :
    Calls Try.prog 36 #[.slice a k c, .int .i64 n] w fun e w' => ∃ v, e = .returned v ∧ w'.ownsRow w.heap.size 3 1 v m (intsV M) ∧ Below w.heap.size w w' := by
  subst hk hM hm
  exact implUnSbr_any a c B z n w hz hB hl n1 n2
end Go.Proofs.Ytpdicijoohahaaa
namespace Go.Proofs.Ytpdicijoohahaaa
set_option linter.unusedVariables false
set_option linter.unusedSimpArgs false
open Go.RowKit

set_option maxHeartbeats 1000000 in
set_option maxRecDepth 100000 in
theorem walk_FnMtfs (w : World) (a0 : Option Addr) (len0 cap0 : Nat) (z0 : List Int) (w0 : IsRow .u8 w a0 len0 cap0 z0) :
    Calls Try.prog 8 #[.slice a0 len0 cap0] w fun e w' => e = .returned (.bool true) ∧ Below w.heap.size w w' := by
  have hcode := Code.ofRow w0
  have KL := hidden places_any
  clear w0
  go_enter Try.func8, Try.ntmps8
  go_wp2_with fail
  refine (drawMtf_any _ _ _ _ _ hcode).mono ?_
  rintro e wa ⟨v, L, n, rfl, hown, hl1, hrL, hn1, hn2, Ba⟩
  have hsa := Ba.size
  clear hcode
  obtain ⟨k, hk⟩ : ∃ k, L.length = k := ⟨_, rfl⟩
  have HR := hidden hrL
  have HK := hidden hk
  rw [hk] at hown hl1
  obtain ⟨al, cl, rfl⟩ := own_shape hown
  have hIL := hidden (Ints.ofOwn hown (by omega) (fun x hx => by have := HR.out x hx; omega)).2
  clear hown hk hrL
  by_cases hok : rOk L n = true
  · obtain ⟨o1, o2, o3, o4, o5, o6, o7⟩ := mtfs_ok hok
    have hag := mtfs_again hok
    rw [HK.out] at o1 o5
    have HOK := hidden hok
    obtain ⟨M, hM⟩ : ∃ M, mtfZ L n = M := ⟨_, rfl⟩
    obtain ⟨U, hU⟩ : ∃ U, umtZ L n = U := ⟨_, rfl⟩
    have HMM := hidden hM
    have HUU := hidden hU
    rw [hM] at o1 o2 o3 o4 hag
    rw [hU] at o5 o6 o7
    have H1 := hidden o1
    have H2 := hidden o2
    have H3 := hidden o3
    have H4 := hidden o4
    have H5 := hidden o5
    have H6 := hidden o6
    have H7 := hidden o7
    have HAG := hidden hag
    clear hag
    clear o1 o2 o3 o4 o5 o6 o7 hM hU hok
    go_wp2_with fail
    refine (implMtf_k al cl wa.heap.size k k L M n wa HK.out HMM.out H1.out hIL.out (Nat.le_refl _) (by omega) (by omega) (by omega)).mono ?_
    rintro e wb ⟨vm, rfl, hownM, Bb⟩
    obtain ⟨am, cm, rfl⟩ := own_shape hownM
    have hIM := hidden (Ints.ofOwn hownM (by omega) (fun x hx => by have := H2.out x hx; omega)).2
    have BB := Ba.trans (Bb.mono hsa)
    have hsb := Bb.size
    have hwb := BB.size
    replace hIL := hidden ((hIL.out.below Bb).mono hsb)
    clear hownM Ba Bb
    go_wp2_with fail
    refine (specRanksOk_k al cl wb.heap.size k L n true wb HK.out HOK.out hIL.out (by omega) (by omega) (by omega)).mono ?_
    rintro e wx ⟨rfl, rfl⟩
    go_wp2_with fail
    refine (implUnMtf_k am cm wb.heap.size k k M L n wb H1.out H4.out HK.out hIM.out (Nat.le_refl _) (by omega) (by omega) (by omega)).mono ?_
    rintro e wc ⟨vx, rfl, hownX, Bc⟩
    obtain ⟨ax, cx, rfl⟩ := own_shape hownX
    have hIX := (Ints.ofOwn hownX (by omega) (fun x hx => by have := HR.out x hx; omega)).2
    have BC := BB.trans (Bc.mono hwb)
    have hsc := Bc.size
    have hwc := BC.size
    replace hIL := hidden ((hIL.out.below Bc).mono hsc)
    replace hIM := hidden ((hIM.out.below Bc).mono hsc)
    clear hownX Bc BB
    go_wp2_with fail
    refine (sameInts_k ax al cx cl wc.heap.size k L wc HK.out hIX hIL.out).mono ?_
    rintro e wd ⟨rfl, Bd⟩
    have BD := BC.trans (Bd.mono hwc)
    have hsd := Bd.size
    have hwd := BD.size
    replace hIL := hidden ((hIL.out.below Bd).mono hsd)
    replace hIM := hidden ((hIM.out.below Bd).mono hsd)
    clear BC Bd hIX
    go_wp2_with fail
    refine (implUnMtf_k al cl wd.heap.size k k L U n wd HK.out HUU.out H5.out hIL.out (Nat.le_refl _) (by omega) (by omega) (by omega)).mono ?_
    rintro e we ⟨vu, rfl, hownU, Be⟩
    obtain ⟨au, cu, rfl⟩ := own_shape hownU
    have hIU := (Ints.ofOwn hownU (by omega) (fun x hx => by have := H6.out x hx; omega)).2
    have BE := BD.trans (Be.mono hwd)
    have hse := Be.size
    have hwe := BE.size
    replace hIL := hidden ((hIL.out.below Be).mono hse)
    replace hIM := hidden ((hIM.out.below Be).mono hse)
    clear hownU Be BD
    go_wp2_with fail
    refine (implMtf_k au cu we.heap.size k k U L n we H5.out H7.out HK.out hIU (Nat.le_refl _) (by omega) (by omega) (by omega)).mono ?_
    rintro e wf ⟨vy, rfl, hownY, Bf⟩
    obtain ⟨ay, cy, rfl⟩ := own_shape hownY
    have hIY := (Ints.ofOwn hownY (by omega) (fun x hx => by have := HR.out x hx; omega)).2
    have BF := BE.trans (Bf.mono hwe)
    have hsf := Bf.size
    have hwf := BF.size
    replace hIL := hidden ((hIL.out.below Bf).mono hsf)
    replace hIM := hidden ((hIM.out.below Bf).mono hsf)
    clear hownY Bf BE hIU
    go_wp2_with fail
    refine (sameInts_k ay al cy cl wf.heap.size k L wf HK.out hIY hIL.out).mono ?_
    rintro e wg ⟨rfl, Bg⟩
    have BG := BF.trans (Bg.mono hwf)
    have hsg := Bg.size
    have hwg := BG.size
    replace hIL := hidden ((hIL.out.below Bg).mono hsg)
    replace hIM := hidden ((hIM.out.below Bg).mono hsg)
    clear BF Bg hIY
    go_wp2_with fail
    refine (implRanksOk_k am cm wg.heap.size k M n true wg H1.out H3.out hIM.out (by omega) (by omega) (by omega)).mono ?_
    rintro e wx ⟨rfl, rfl⟩
    go_wp2
    go_loopw [6] (fun si wr => ∃ i nq : Nat, 1 ≤ i ∧ si = .int .i64 i ∧ wr = wg.drewN nq) (fun si _ => k - (intOf si).toNat)
    case atStart => exact ⟨1, 0, Nat.le_refl _, rfl, rfl⟩
    case round =>
      obtain ⟨i, nq, hi1, rfl, rfl⟩ := hrel
      by_cases hlt : i < k
      · obtain ⟨j, rfl⟩ : ∃ j, i = j + 1 := ⟨i - 1, by omega⟩
        obtain ⟨b, off, rfl, hb, hc⟩ := hIL.out.2.2 (by rw [HK.out]; omega)
        obtain ⟨b2, off2, rfl, hb2, hc2⟩ := hIM.out.2.2 (by rw [H1.out]; omega)
        have ck := hc (j + 1) (by rw [HK.out]; exact hlt)
        have cj := hc j (by rw [HK.out]; omega)
        have cm2 := hc2 (j + 1) (by rw [H1.out]; exact hlt)
        have hag := HAG.out j (by rw [HK.out]; exact hlt)
        obtain ⟨x, hx⟩ : ∃ x, L.getD (j + 1) 0 = x := ⟨_, rfl⟩
        obtain ⟨y, hy⟩ : ∃ y, L.getD j 0 = y := ⟨_, rfl⟩
        obtain ⟨z, hz⟩ : ∃ z, M.getD (j + 1) 0 = z := ⟨_, rfl⟩
        rw [hx] at ck
        rw [hy] at cj
        rw [hz] at cm2
        rw [hx, hy, hz] at hag
        have e1 : ((j + 1 : Nat) : Int) - 1 = (j : Int) := by omega
        have ew : wrap64 (((j + 1 : Nat) : Int) - 1) = (j : Int) := by rw [e1]; exact wrap64_n _ (by omega)
        clear hx hy hz hc hc2
        by_cases hxy : x = y
        · have hz0 := hag.2 hxy
          subst hxy hz0
          clear hag
          go_wp2
          go_quiet (fail)
          go_wp2
          exact ⟨⟨j + 1 + 1, _, by omega, by go_num, rfl⟩, by simp [intOf]; omega⟩
        · have hz0 : ¬ z = 0 := fun h => hxy (hag.1 h)
          have n1 : (x == y) = false := by simp [hxy]
          have n2 : (z == 0) = false := by simp [hz0]
          clear hag
          go_wp2
          go_quiet (fail)
          go_wp2
          exact ⟨⟨j + 1 + 1, _, by omega, by go_num, rfl⟩, by simp [intOf]; omega⟩
      · go_wp2_with fail
        refine (KL.out _).mono ?_
        rintro e wh ⟨rfl, Bh⟩
        have BH := bel_then Bh hwg (bel_drewN BG _)
        go_wp2
        go_ret
        exact ⟨rfl, BH⟩
  · have HNO := hidden (bool_false hok)
    have HM0 : Hid (mtfZ L n = []) := hidden (mtfZ_no (bool_false hok))
    have HU0 : Hid (umtZ L n = []) := hidden (umtZ_no (bool_false hok))
    clear hok
    go_wp2_with fail
    refine (implMtf_k al cl wa.heap.size k 0 L [] n wa HK.out HM0.out rfl hIL.out (Nat.le_refl _) (by omega) (by omega) (by omega)).mono ?_
    rintro e wb ⟨vm, rfl, hownM, Bb⟩
    obtain ⟨am, cm, rfl⟩ := own_shape hownM
    have BB := Ba.trans (Bb.mono hsa)
    have hsb := Bb.size
    have hwb := BB.size
    replace hIL := hidden ((hIL.out.below Bb).mono hsb)
    clear hownM Ba Bb
    go_wp2_with fail
    refine (specRanksOk_k al cl wb.heap.size k L n false wb HK.out HNO.out hIL.out (by omega) (by omega) (by omega)).mono ?_
    rintro e wx ⟨rfl, rfl⟩
    go_wp2_with fail
    refine (KL.out _).mono ?_
    rintro e wh ⟨rfl, Bh⟩
    have BH := BB.trans (Bh.mono hwb)
    go_wp2
    go_ret
    exact ⟨rfl, BH⟩
end Go.Proofs.Ytpdicijoohahaaa
namespace Go.Proofs.Ytpdicijoohahaaa
set_option linter.unusedVariables false
set_option linter.unusedSimpArgs false
open Go.RowKit

set_option maxHeartbeats 1000000 in
set_option maxRecDepth 100000 in
theorem walk_FnSbrs (w : World) (a0 : Option Addr) (len0 cap0 : Nat) (z0 : List Int) (w0 : IsRow .u8 w a0 len0 cap0 z0) :
    Calls Try.prog 9 #[.slice a0 len0 cap0] w fun e w' => e = .returned (.bool true) ∧ Below w.heap.size w w' := by
  have hcode := Code.ofRow w0
  have KL := hidden places_any
  clear w0
  go_enter Try.func9, Try.ntmps9
  go_wp2_with fail
  refine (drawSbr_any _ _ _ _ _ hcode).mono ?_
  rintro e wa ⟨v, L, n, rfl, hown, hl1, hrL, hn1, hn2, Ba⟩
  have hsa := Ba.size
  clear hcode
  obtain ⟨k, hk⟩ : ∃ k, L.length = k := ⟨_, rfl⟩
  have HR := hidden hrL
  have HK := hidden hk
  rw [hk] at hown hl1
  obtain ⟨al, cl, rfl⟩ := own_shape hown
  have hIL := hidden (Ints.ofOwn hown (by omega) (fun x hx => by have := HR.out x hx; omega)).2
  clear hown hk hrL
  by_cases hok : rOk L n = true
  · obtain ⟨o1, o2, o3, o4, o5, o6, o7⟩ := sbrs_ok hok
    rw [HK.out] at o1 o5
    have HOK := hidden hok
    obtain ⟨M, hM⟩ : ∃ M, sbrZ L n = M := ⟨_, rfl⟩
    obtain ⟨U, hU⟩ : ∃ U, usbZ L n = U := ⟨_, rfl⟩
    have HMM := hidden hM
    have HUU := hidden hU
    rw [hM] at o1 o2 o3 o4
    rw [hU] at o5 o6 o7
    have H1 := hidden o1
    have H2 := hidden o2
    have H3 := hidden o3
    have H4 := hidden o4
    have H5 := hidden o5
    have H6 := hidden o6
    have H7 := hidden o7
    clear o1 o2 o3 o4 o5 o6 o7 hM hU hok
    go_wp2_with fail
    refine (implSbr_k al cl wa.heap.size k k L M n wa HK.out HMM.out H1.out hIL.out (Nat.le_refl _) (by omega) (by omega) (by omega)).mono ?_
    rintro e wb ⟨vm, rfl, hownM, Bb⟩
    obtain ⟨am, cm, rfl⟩ := own_shape hownM
    have hIM := hidden (Ints.ofOwn hownM (by omega) (fun x hx => by have := H2.out x hx; omega)).2
    have BB := Ba.trans (Bb.mono hsa)
    have hsb := Bb.size
    have hwb := BB.size
    replace hIL := hidden ((hIL.out.below Bb).mono hsb)
    clear hownM Ba Bb
    go_wp2_with fail
    refine (specRanksOk_k al cl wb.heap.size k L n true wb HK.out HOK.out hIL.out (by omega) (by omega) (by omega)).mono ?_
    rintro e wx ⟨rfl, rfl⟩
    go_wp2_with fail
    refine (implUnSbr_k am cm wb.heap.size k k M L n wb H1.out H4.out HK.out hIM.out (Nat.le_refl _) (by omega) (by omega) (by omega)).mono ?_
    rintro e wc ⟨vx, rfl, hownX, Bc⟩
    obtain ⟨ax, cx, rfl⟩ := own_shape hownX
    have hIX := (Ints.ofOwn hownX (by omega) (fun x hx => by have := HR.out x hx; omega)).2
    have BC := BB.trans (Bc.mono hwb)
    have hsc := Bc.size
    have hwc := BC.size
    replace hIL := hidden ((hIL.out.below Bc).mono hsc)
    replace hIM := hidden ((hIM.out.below Bc).mono hsc)
    clear hownX Bc BB
    go_wp2_with fail
    refine (sameInts_k ax al cx cl wc.heap.size k L wc HK.out hIX hIL.out).mono ?_
    rintro e wd ⟨rfl, Bd⟩
    have BD := BC.trans (Bd.mono hwc)
    have hsd := Bd.size
    have hwd := BD.size
    replace hIL := hidden ((hIL.out.below Bd).mono hsd)
    replace hIM := hidden ((hIM.out.below Bd).mono hsd)
    clear BC Bd hIX
    go_wp2_with fail
    refine (implUnSbr_k al cl wd.heap.size k k L U n wd HK.out HUU.out H5.out hIL.out (Nat.le_refl _) (by omega) (by omega) (by omega)).mono ?_
    rintro e we ⟨vu, rfl, hownU, Be⟩
    obtain ⟨au, cu, rfl⟩ := own_shape hownU
    have hIU := (Ints.ofOwn hownU (by omega) (fun x hx => by have := H6.out x hx; omega)).2
    have BE := BD.trans (Be.mono hwd)
    have hse := Be.size
    have hwe := BE.size
    replace hIL := hidden ((hIL.out.below Be).mono hse)
    replace hIM := hidden ((hIM.out.below Be).mono hse)
    clear hownU Be BD
    go_wp2_with fail
    refine (implSbr_k au cu we.heap.size k k U L n we H5.out H7.out HK.out hIU (Nat.le_refl _) (by omega) (by omega) (by omega)).mono ?_
    rintro e wf ⟨vy, rfl, hownY, Bf⟩
    obtain ⟨ay, cy, rfl⟩ := own_shape hownY
    have hIY := (Ints.ofOwn hownY (by omega) (fun x hx => by have := HR.out x hx; omega)).2
    have BF := BE.trans (Bf.mono hwe)
    have hsf := Bf.size
    have hwf := BF.size
    replace hIL := hidden ((hIL.out.below Bf).mono hsf)
    replace hIM := hidden ((hIM.out.below Bf).mono hsf)
    clear hownY Bf BE hIU
    go_wp2_with fail
    refine (sameInts_k ay al cy cl wf.heap.size k L wf HK.out hIY hIL.out).mono ?_
    rintro e wg ⟨rfl, Bg⟩
    have BG := BF.trans (Bg.mono hwf)
    have hsg := Bg.size
    have hwg := BG.size
    replace hIL := hidden ((hIL.out.below Bg).mono hsg)
    replace hIM := hidden ((hIM.out.below Bg).mono hsg)
    clear BF Bg hIY
    go_wp2_with fail
    refine (implRanksOk_k am cm wg.heap.size k M n true wg H1.out H3.out hIM.out (by omega) (by omega) (by omega)).mono ?_
    rintro e wx ⟨rfl, rfl⟩
    go_wp2_with fail
    refine (KL.out _).mono ?_
    rintro e wh ⟨rfl, Bh⟩
    have BH := BG.trans (Bh.mono hwg)
    go_wp2
    go_ret
    exact ⟨rfl, BH⟩
  · have HNO := hidden (bool_false hok)
    have HM0 : Hid (sbrZ L n = []) := hidden (sbrZ_no (bool_false hok))
    have HU0 : Hid (usbZ L n = []) := hidden (usbZ_no (bool_false hok))
    clear hok
    go_wp2_with fail
    refine (implSbr_k al cl wa.heap.size k 0 L [] n wa HK.out HM0.out rfl hIL.out (Nat.le_refl _) (by omega) (by omega) (by omega)).mono ?_
    rintro e wb ⟨vm, rfl, hownM, Bb⟩
    obtain ⟨am, cm, rfl⟩ := own_shape hownM
    have BB := Ba.trans (Bb.mono hsa)
    have hsb := Bb.size
    have hwb := BB.size
    replace hIL := hidden ((hIL.out.below Bb).mono hsb)
    clear hownM Ba Bb
    go_wp2_with fail
    refine (specRanksOk_k al cl wb.heap.size k L n false wb HK.out HNO.out hIL.out (by omega) (by omega) (by omega)).mono ?_
    rintro e wx ⟨rfl, rfl⟩
    go_wp2_with fail
    refine (implUnSbr_k al cl wb.heap.size k 0 L [] n wb HK.out HU0.out rfl hIL.out (Nat.le_refl _) (by omega) (by omega) (by omega)).mono ?_
    rintro e wc ⟨vm, rfl, hownM, Bc⟩
    obtain ⟨au, cu, rfl⟩ := own_shape hownM
    have BC := BB.trans (Bc.mono hwb)
    clear hownM Bc BB hwb
    have BB := BC
    have hwb := BC.size
    go_wp2_with fail
    refine (KL.out _).mono ?_
    rintro e wh ⟨rfl, Bh⟩
    have BH := BB.trans (Bh.mono hwb)
    go_wp2
    go_ret
    exact ⟨rfl, BH⟩
end Go.Proofs.Ytpdicijoohahaaa
