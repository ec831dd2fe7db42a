/- Texts of one reach, one behind the other: WLensBits. What each is about stands in its theorems. -/
import Derived.Test.YtpngomjkapccdaaG8
import Derived.Test.YtpngomjkapccdaaG11
import Derived.Deep.RegionHeld3
namespace Go.Proofs.Ytpngomjkapccdaa
set_option linter.unusedVariables false
set_option linter.unusedSimpArgs false
open Go.RowKit

theorem app_list (s t : ByteArray) : (s ++ t).data.toList = s.data.toList ++ t.data.toList := by simp
theorem app_size (s t : ByteArray) : (s ++ t).size = s.size + t.size := by simp
theorem byteAt_app (s t : ByteArray) (j : Nat) (h : j < s.size) : byteAt (s ++ t) j = byteAt s j := by
  unfold byteAt
  have h' : j < s.data.toList.length := by simpa using h
  rw [app_list, List.getD_eq_getElem?_getD, List.getD_eq_getElem?_getD, List.getElem?_append_left h']
theorem bit_app (s t : ByteArray) (k : Nat) (h : k < 8 * s.size) : bit (s ++ t) k = bit s k := by
  unfold bit; rw [byteAt_app s t _ (by omega)]
theorem row_app (s t : ByteArray) (n : Nat) (h : n ≤ 8 * s.size) : row (s ++ t) 0 n = row s 0 n := by
  unfold row
  refine List.map_congr_left fun i hi => ?_
  rw [List.mem_range] at hi
  exact bit_app s t _ (by omega)
theorem lens_back {ls : List Int} {D : List Nat} (h : lOk ls = true) (hD : Packs D (put5 ls)) (t : ByteArray) (ht : t.size ≤ 8) : reads5 (strOf D ++ t) 0 ls.length (lnL ls) (put5 ls).length ∧ (strOf D ++ t).size ≤ 1048576 ∧ (strOf D).size ≤ 20000 := by
  have hr := lOk_range h
  have hle := put5_le h
  have hk := packs_ok hD (by omega)
  have hz := hD.len
  have hsz : (strOf D).size = ((put5 ls).length + 7) / 8 := by rw [strOf_size, hz]
  have h5 := lens5_put (a := 0) hr (s := strOf D ++ t) (by rw [app_size, hsz]; omega) (by rw [row_app _ _ _ (by rw [hsz]; omega)]; exact hk.2)
  rw [Nat.zero_add] at h5
  exact ⟨⟨lnL_len ls, h5, by rw [iL_lnL hr]; exact h⟩, by rw [app_size, hsz]; omega, by rw [hsz]; omega⟩
theorem costL_yes {ls : List Int} (h : lOk ls = true) : costL ls = ((put5 ls).length : Int) := by unfold costL; rw [if_pos h]
theorem costL_no {ls : List Int} (h : lOk ls = false) : costL ls = -1 := by unfold costL; rw [if_neg (by simp [h])]
set_option maxHeartbeats 4000000 in
set_option maxRecDepth 100000 in
theorem walk_FnLensBits (hP : AskPutLens) (hPN : AskPutLensNo) (hC : AskLensCost) (hG : AskGetLens) (hPG : AskPutGamma) (hGB : AskGammaBits) (w : World) (a0 : Option Addr) (len0 cap0 : Nat) (z0 : List Int) (w0 : IsRow .u8 w a0 len0 cap0 z0) :
    Calls Try.prog 3 #[.slice a0 len0 cap0] w fun e w' => e = .returned (.bool true) ∧ Below w.heap.size w w' := by
  have hcode := Code.ofRow w0
  have HS := hidden (steps_any hP hC hPG hGB)
  clear w0 hPG hGB
  go_enter Try.func3, Try.ntmps3
  go_wp2_with fail
  refine (drawPutLens_any _ _ _ _ _ hcode).mono ?_
  rintro e wa ⟨a1, c1, ls, rfl, hI1, hl1, hl2, hlr, Ba⟩
  obtain ⟨n, hn⟩ : ∃ n, ls.length = n := ⟨_, rfl⟩
  have ba := Ba.size
  have HI1 := hidden hI1
  clear hI1 hlr
  by_cases hok : lOk ls = true
  · have KP := hP a1 c1 wa.heap.size ls wa HI1.out (Nat.le_refl _) hok
    have KQ := hidden (fun W h1 => specLensOk_any a1 c1 wa.heap.size ls W h1)
    have KB := hidden (fun W h1 h3 => hC a1 c1 wa.heap.size ls W h1 h3)
    have HBk := hidden (fun D (hD : Packs D (put5 ls)) => lens_back hok hD ⟨#[255]⟩ (by decide))
    have KG := hidden (fun (s : ByteArray) (W : World) (h1 : reads5 s 0 ls.length (lnL ls) (put5 ls).length) (h2 : s.size ≤ 1048576) => (hG s 0 ls.length W h2 (Nat.zero_le _) (by omega) (by omega)).mono fun e w' hp => gl5_yes hp h1)
    rw [iL_lnL (lOk_range hok)] at KG
    rw [costL_yes hok] at KB
    rw [hok] at KQ
    obtain ⟨N, hN⟩ : ∃ N, (put5 ls).length = N := ⟨_, rfl⟩
    rw [hN] at KP KB KG HBk
    rw [hn] at KP KQ KB HBk KG hl1 hl2 ⊢
    have HNn := hidden hn
    clear hP hPN hC hG hN hok hn
    go_wp2_with fail
    refine KP.mono ?_
    rintro e wb ⟨D, hD, rfl, Bb⟩
    have bb := Bb.size
    obtain ⟨hrd, hsz, hsD⟩ := HBk.out D hD
    have HRD := hidden hrd
    have bwb : Below wa.heap.size wa (wb.alloc (.cells #[.string (strOf D), .int .i64 (N : Int)] 26)) := Bb.alloc bb _
    have hBx := Has.fresh wb 26 #[.string (strOf D), .int .i64 (N : Int)]
    clear KP hD hrd HBk Bb
    go_wp2_with fail
    refine (KQ.out _ (HI1.out.below bwb)).mono ?_
    rintro e wc ⟨rfl, hwc⟩
    rw [← hwc] at hBx bwb
    clear hwc KQ
    have eb := hBx.cell 0
    have eb1 := hBx.cell 1
    simp at eb eb1
    have bc := bwb.size
    have blt := hBx.lt
    go_wp2_with fail
    refine (KG.out _ _ HRD.out hsz).mono ?_
    rintro e wd ⟨vx, rfl, hown, Bd⟩
    have bd0 := Bd.size
    (try simp at bd0)
    obtain ⟨ax, cx, rfl⟩ := own_shape hown
    have bwd : Below wa.heap.size wa wd := bwb.trans (Bd.mono (by omega))
    have hIx : Ints wd wd.heap.size ax ls := own_intsOf5 hown (by omega) HI1.out.2.1
    have hB6 := (hBx.below Bd (by omega)).alloc (.cells #[.string (strOf D ++ ⟨#[255]⟩), .int .i64 (N : Int)] 33)
    have hR6 := Has.fresh wd 33 #[.string (strOf D ++ ⟨#[255]⟩), .int .i64 (N : Int)]
    have lb6 : (⟨wb.heap.size, 1, none⟩ : Addr).block < (wd.alloc (.cells #[.string (strOf D ++ ⟨#[255]⟩), .int .i64 (N : Int)] 33)).heap.size := by simp; omega
    have lr6 : (⟨wd.heap.size, 1, none⟩ : Addr).block < (wd.alloc (.cells #[.string (strOf D ++ ⟨#[255]⟩), .int .i64 (N : Int)] 33)).heap.size := by simp
    have eb6 : (wd.alloc (.cells #[.string (strOf D ++ ⟨#[255]⟩), .int .i64 (N : Int)] 33)).cell? ⟨wb.heap.size, 1, none⟩ = some (.int .i64 (N : Int)) := hB6.cell 1
    have er6 : (wd.alloc (.cells #[.string (strOf D ++ ⟨#[255]⟩), .int .i64 (N : Int)] 33)).cell? ⟨wd.heap.size, 1, none⟩ = some (.int .i64 (N : Int)) := hR6.cell 1
    have bw6 : Below wa.heap.size wa (wd.alloc (.cells #[.string (strOf D ++ ⟨#[255]⟩), .int .i64 (N : Int)] 33)) := bwd.alloc (by omega) _
    have KS : Hid (∀ W : World, Below (wd.alloc (.cells #[.string (strOf D ++ ⟨#[255]⟩), .int .i64 (N : Int)] 33)).heap.size (wd.alloc (.cells #[.string (strOf D ++ ⟨#[255]⟩), .int .i64 (N : Int)] 33)) W → Calls Try.prog 12 #[.slice ax n cx, .slice a1 n c1] W fun e w' => e = .returned (.bool true) ∧ Below W.heap.size W w') := hidden (fun W hW => by
      have b2 : Below wd.heap.size wd W := ((Below.refl wd.heap.size wd).alloc (Nat.le_refl _) _).trans (hW.mono (by simp))
      have := sameInts_any ax a1 cx c1 wd.heap.size ls ls W (hIx.below b2) (((HI1.out.below bwd).below (b2.mono (by omega))).mono (by omega))
      rw [decide_eq_true rfl, HNn.out] at this
      exact this)
    have KB6 : Hid (∀ W : World, Below (wd.alloc (.cells #[.string (strOf D ++ ⟨#[255]⟩), .int .i64 (N : Int)] 33)).heap.size (wd.alloc (.cells #[.string (strOf D ++ ⟨#[255]⟩), .int .i64 (N : Int)] 33)) W → Calls Try.prog 9 #[.slice a1 n c1] W fun e w' => e = .returned (.int .i64 (N : Int)) ∧ Below W.heap.size W w') := hidden (fun W hW => by
      have b2 := bw6.trans (hW.mono (by simp; omega))
      exact KB.out W (HI1.out.below b2) b2.size)
    have KC6 : Hid (∀ W : World, Below (wd.alloc (.cells #[.string (strOf D ++ ⟨#[255]⟩), .int .i64 (N : Int)] 33)).heap.size (wd.alloc (.cells #[.string (strOf D ++ ⟨#[255]⟩), .int .i64 (N : Int)] 33)) W → Calls Try.prog 10 #[] W fun e w' => e = .returned (.bool true) ∧ Below W.heap.size W w') := hidden (fun W _ => HS.out W)
    have HBW := hidden (Ba.trans (bw6.mono ba))
    have bd : Below (wd.alloc (.cells #[.string (strOf D ++ ⟨#[255]⟩), .int .i64 (N : Int)] 33)).heap.size (wd.alloc (.cells #[.string (strOf D ++ ⟨#[255]⟩), .int .i64 (N : Int)] 33)) (wd.alloc (.cells #[.string (strOf D ++ ⟨#[255]⟩), .int .i64 (N : Int)] 33)) := Below.refl _ _
    have rb := eb6
    have rr := er6
    clear hown hIx hB6 hR6 bwd hBx bw6 KB KG Bd HI1 HS eb eb1 HRD bwb
    go_wp2
    go_region_held3 (fun w' => w'.cell? ⟨wb.heap.size, 1, none⟩ = some (.int .i64 (N : Int)) ∧ w'.cell? ⟨wd.heap.size, 1, none⟩ = some (.int .i64 (N : Int))) (go_keep) (first | (go_at_call 12; (with_reducible refine (KS.out _ ?hW).mono ?_); (case hW => exact ⟨bd.os, bd.tape, bd.output, bd.size, bd.block⟩); rintro e wX ⟨rfl, BX⟩; have yX := BX.size; (try simp at yX); replace bd : Below (wd.alloc (.cells #[.string (strOf D ++ ⟨#[255]⟩), .int .i64 (N : Int)] 33)).heap.size (wd.alloc (.cells #[.string (strOf D ++ ⟨#[255]⟩), .int .i64 (N : Int)] 33)) wX := bel_then BX (by (have hbb := bd.size; (try simp at hbb); (try simp); (try omega))) ⟨bd.os, bd.tape, bd.output, bd.size, bd.block⟩; clear BX; have rb := bd.cell (p := ⟨wb.heap.size, 1, none⟩) lb6; rw [eb6] at rb; have rr := bd.cell (p := ⟨wd.heap.size, 1, none⟩) lr6; rw [er6] at rr) | (go_at_call 9; (with_reducible refine (KB6.out _ ?hW).mono ?_); (case hW => exact ⟨bd.os, bd.tape, bd.output, bd.size, bd.block⟩); rintro e wX ⟨rfl, BX⟩; have yX := BX.size; (try simp at yX); replace bd : Below (wd.alloc (.cells #[.string (strOf D ++ ⟨#[255]⟩), .int .i64 (N : Int)] 33)).heap.size (wd.alloc (.cells #[.string (strOf D ++ ⟨#[255]⟩), .int .i64 (N : Int)] 33)) wX := bel_then BX (by (have hbb := bd.size; (try simp at hbb); (try simp); (try omega))) ⟨bd.os, bd.tape, bd.output, bd.size, bd.block⟩; clear BX; have rb := bd.cell (p := ⟨wb.heap.size, 1, none⟩) lb6; rw [eb6] at rb; have rr := bd.cell (p := ⟨wd.heap.size, 1, none⟩) lr6; rw [er6] at rr) | (go_at_call 10; (with_reducible refine (KC6.out _ ?hW).mono ?_); (case hW => exact ⟨bd.os, bd.tape, bd.output, bd.size, bd.block⟩); rintro e wX ⟨rfl, BX⟩; have yX := BX.size; (try simp at yX); replace bd : Below (wd.alloc (.cells #[.string (strOf D ++ ⟨#[255]⟩), .int .i64 (N : Int)] 33)).heap.size (wd.alloc (.cells #[.string (strOf D ++ ⟨#[255]⟩), .int .i64 (N : Int)] 33)) wX := bel_then BX (by (have hbb := bd.size; (try simp at hbb); (try simp); (try omega))) ⟨bd.os, bd.tape, bd.output, bd.size, bd.block⟩; clear BX; have rb := bd.cell (p := ⟨wb.heap.size, 1, none⟩) lb6; rw [eb6] at rb; have rr := bd.cell (p := ⟨wd.heap.size, 1, none⟩) lr6; rw [er6] at rr))
    all_goals
      go_wp2
      go_ret
      exact ⟨rfl, HBW.out.trans ((show Below (wd.alloc (.cells #[.string (strOf D ++ ⟨#[255]⟩), .int .i64 (N : Int)] 33)).heap.size (wd.alloc (.cells #[.string (strOf D ++ ⟨#[255]⟩), .int .i64 (N : Int)] 33)) _ from ⟨bd.os, bd.tape, bd.output, bd.size, bd.block⟩).mono (by simp; omega))⟩
  · have hno : lOk ls = false := by simpa using hok
    have KP := hPN a1 c1 wa.heap.size ls wa HI1.out (Nat.le_refl _) hno
    have KQ := hidden (fun W h1 => specLensOk_any a1 c1 wa.heap.size ls W h1)
    have KB := hidden (fun W h1 h3 => hC a1 c1 wa.heap.size ls W h1 h3)
    rw [costL_no hno] at KB
    rw [hno] at KQ
    rw [hn] at KP KQ KB ⊢
    clear hP hPN hC hG hno hok hn
    go_wp2_with fail
    refine KP.mono ?_
    rintro e wb ⟨rfl, Bb⟩
    have bb := Bb.size
    have bwb : Below wa.heap.size wa (wb.alloc (.cells #[.string ⟨#[]⟩, .int .i64 0] 26)) := Bb.alloc bb _
    clear KP Bb
    go_wp2_with fail
    refine (KQ.out _ (HI1.out.below bwb)).mono ?_
    rintro e wc ⟨rfl, hwc⟩
    rw [← hwc] at bwb
    clear hwc
    go_wp2_with fail
    refine (KQ.out _ (HI1.out.below bwb)).mono ?_
    rintro e wc2 ⟨rfl, hwc⟩
    rw [← hwc] at bwb
    clear hwc KQ
    have bc := bwb.size
    go_wp2_with fail
    refine (KB.out _ (HI1.out.below bwb) bc).mono ?_
    rintro e wd ⟨rfl, Bd⟩
    have bwd : Below wa.heap.size wa wd := bwb.trans (Bd.mono bc)
    clear Bd bwb KB
    go_wp2_with fail
    refine (HS.out _).mono ?_
    rintro e we ⟨rfl, Be⟩
    go_wp2
    go_ret
    exact ⟨rfl, (Ba.trans (bwd.mono ba)).trans (Be.mono (by have := bwd.size; omega))⟩
end Go.Proofs.Ytpngomjkapccdaa
