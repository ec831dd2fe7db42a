/- Texts of one reach, one behind the other: WGammas. What each is about stands in its theorems. -/
import Derived.Test.YtpngomjkapccdaaDoorG9
import Derived.Test.YtpngomjkapccdaaDoorG1
import Derived.Test.YtpngomjkapccdaaDoorG11
import Derived.Test.YtpngomjkapccdaaDoorG4
import Derived.Test.YtpngomjkapccdaaDoorG13
import Derived.Deep.DeepCutAuto
import Derived.Deep.RegionHeld3
import Derived.Deep.RegionWith
namespace Go.Proofs.YtpngomjkapccdaaDoor
set_option linter.unusedVariables false
set_option linter.unusedSimpArgs false
open Go.RowKit

theorem gam_back {n x : Nat} {D D2 : List Nat} (h1 : 1 ≤ n) (h2 : n ≤ 1048575) (hD : Packs D (gamL n)) : okB (strOf D) (gamL n).length = true ∧ row (strOf D) 0 (gamL n).length = gamL n ∧ (strOf D).size ≤ 20 := by
  have hl := gamL_len n
  have hk := log_le h1 h2
  have hp := packs_ok hD (by omega)
  exact ⟨hp.1, hp.2, by rw [strOf_size, hD.len]; omega⟩
theorem gam_back2 {n x : Nat} {D2 : List Nat} (h1 : 1 ≤ n) (h2 : n ≤ 1048575) (hD : Packs D2 (gamL n ++ nbits x 8)) : Gam (strOf D2) 0 (Nat.log2 n) n ∧ (strOf D2).size ≤ 1048576 := by
  have hl := gamL_len n
  have hk := log_le h1 h2
  have hlen : (gamL n ++ nbits x 8).length = (gamL n).length + 8 := by rw [List.length_append, nbits_len]
  have hp := packs_ok hD (by omega)
  have hz : (strOf D2).size = ((gamL n).length + 8 + 7) / 8 := by rw [strOf_size, hD.len, hlen]
  refine ⟨gam_put h1 h2 (by omega) ?_, by omega⟩
  have h3 := hp.2
  rw [hlen, row_add] at h3
  exact (List.append_inj h3 (by rw [row_len])).1
theorem gamB_yes {n : Nat} (h1 : 1 ≤ n) (h2 : n ≤ 1048575) : gamB n = ((gamL n).length : Int) := by
  unfold gamB
  rw [if_pos ((gamOk_iff _).2 (by omega)), Int.toNat_natCast]
theorem gamB_no {n : Int} (h : gamOk n = false) : gamB n = -1 := by unfold gamB; rw [if_neg (by simp [h])]
set_option maxHeartbeats 4000000 in
set_option maxRecDepth 100000 in
theorem walk_FnGammas (hP : AskPutLens) (hC : AskLensCost) (hPG : AskPutGamma) (hPGN : AskPutGammaNo) (hGB : AskGammaBits) (hG : AskGetGamma) (w : World) (hS : Sent w) (a0 : Option Addr) (len0 cap0 : Nat) (z0 : List Int) (w0 : IsRow .u8 w a0 len0 cap0 z0) :
    Calls Tryd.prog 3 #[.slice a0 len0 cap0] w fun e w' => e = .returned (.bool true) ∧ Below w.heap.size w w' := by
  have HSent0 := hidden hS
  clear hS
  have hcode := Code.ofRow w0
  have HS := hidden (steps_any hP hC hPG hGB)
  have HCO := hidden hcode
  clear w0 hP hC
  go_enter Tryd.func3, Tryd.ntmps3
  go_wp2_with fail
  refine (drawPutGamma_any _ _ _ _ _ hcode).mono ?_
  rintro e wa ⟨n, rfl, hn1, hn2, Ba⟩
  have ba := Ba.size
  have HSent := hidden (HSent0.out.below Ba)
  clear HSent0
  clear hcode
  by_cases hok : gamOk n = true
  · have hr := (gamOk_iff n).1 hok
    obtain ⟨q, rfl⟩ : ∃ q : Nat, n = q := ⟨n.toNat, by omega⟩
    have q1 : 1 ≤ q := by omega
    have q2 : q ≤ 1048575 := by omega
    have KP := hPG q wa q1 q2
    have KB := hidden (fun W => hGB q W (by omega) (by omega))
    rw [gamB_yes q1 q2] at KB
    have HBk := hidden (fun D (hD : Packs D (gamL q)) => gam_back (x := 0) (D2 := []) q1 q2 hD)
    have HBk2 := hidden (fun D2 x (hD : Packs D2 (gamL q ++ nbits x 8)) => gam_back2 q1 q2 hD)
    have KG : Hid (∀ (s : ByteArray) (W : World), Sent W → Gam s 0 (Nat.log2 q) q → s.size ≤ 1048576 → Calls Tryd.prog 11 #[.agg #[.string s, .int .i64 0]] W fun e w' => e = .returned (.tuple #[.int .i64 (q : Int), .agg #[.string s, .int .i64 ((gamL q).length : Int)], .bool true]) ∧ Below W.heap.size W w') := hidden (fun s W hS h1 h2 => by
      have := hG s 0 W hS h2 (Nat.zero_le _)
      refine Calls.mono (this : Calls Tryd.prog 11 #[.agg #[.string s, .int .i64 0]] W _) ?_
      intro e w' hp
      have h3 := gg6_yes hp h1
      rw [Nat.zero_add, ← gamL_len] at h3
      exact h3)
    have hN := gamL_len q
    have hlg := log_le q1 q2
    have KU : Hid (∀ (D : List Nat) (x : Nat) (W : World), okB (strOf D) (gamL q).length = true → row (strOf D) 0 (gamL q).length = gamL q → (strOf D).size ≤ 20 → x ≤ 255 → Calls Tryd.prog 9 #[.agg #[.string (strOf D), .int .i64 ((gamL q).length : Int)], .int .i64 x, .int .i64 8] W fun e w' =>
        ∃ D2, Packs D2 (gamL q ++ nbits x 8) ∧ e = .returned (.tuple #[.agg #[.string (strOf D2), .int .i64 (((gamL q).length + 8 : Nat) : Int)], .bool true]) ∧ Below W.heap.size W w') := hidden (fun D x W h1 h2 h3 h4 => by
      have := implPut_yes (strOf D) (gamL q).length x 8 W (by unfold maxLen; omega) h1 (by omega) (by omega) (by omega)
      rw [h2] at this
      exact this)
    obtain ⟨G, hGG⟩ : ∃ G, gamL q = G := ⟨_, rfl⟩
    obtain ⟨N, hNN⟩ : ∃ N, G.length = N := ⟨_, rfl⟩
    rw [hGG, hNN] at KP KB HBk KU KG
    rw [hGG] at HBk2
    have HGM := hidden (show Nat.log2 q = Nat.log2 q from rfl)
    clear hPG hPGN hGB hG hok hGG hNN hN hlg
    go_wp2_with fail
    refine KP.mono ?_
    rintro e wb ⟨D, hD, rfl, Bb⟩
    have bb := Bb.size
    obtain ⟨h1, h2, h3⟩ := HBk.out D hD
    have KU2 := hidden (fun x W h4 => KU.out D x W h1 h2 h3 h4)
    have bwb : Below wa.heap.size wa (wb.alloc (.cells #[.string (strOf D), .int .i64 (N : Int)] 25)) := Bb.alloc bb _
    have hBx := Has.fresh wb 25 #[.string (strOf D), .int .i64 (N : Int)]
    have eb := hBx.cell 0
    have eb1 := hBx.cell 1
    simp at eb eb1
    have hcodeB := HCO.out.below (Ba.trans (bwb.mono ba))
    have hcodeZ := HCO.out.below (Ba.trans ((bwb.alloc bwb.size (.cells #[.string ⟨#[]⟩, .int .i64 0] 25)).mono ba))
    have KA := hidden (fun W h => at_any a0 len0 cap0 z0 1 w.heap.size W h (by omega))
    clear KP hD h1 h2 h3 HBk Bb KU
    have lb0 : wb.heap.size < (wb.alloc (.cells #[.string (strOf D), .int .i64 (N : Int)] 25)).heap.size := by simp
    go_upto_region 5 with (fail)
    go_cut [5, 6] (fun s5 s6 wx => ∃ (g x : Nat) (D2 : List Nat), s5 = .pointer (some ⟨g, 0, none⟩) ∧ s6 = .bool true ∧ wb.heap.size + 1 ≤ g ∧ Hid (Packs D2 (G ++ nbits x 8)) ∧ Has wx g 25 #[.string (strOf D2), .int .i64 ((N : Int) + 8)] ∧ Has wx wb.heap.size 25 #[.string (strOf D), .int .i64 (N : Int)] ∧ Below wa.heap.size wa wx)
    case first =>
      go_region_held3 (fun w' => w'.cell? ⟨wb.heap.size, 0, none⟩ = some (.string (strOf D)) ∧ w'.cell? ⟨wb.heap.size, 1, none⟩ = some (.int .i64 (N : Int))) (go_keep) (first | (go_at_call 10; (with_reducible refine (KA.out _ ?hW).mono ?_); (case hW => first | exact hcodeB | exact hcodeZ); rintro e wX ⟨x, rfl, x0, x1, rfl⟩; obtain ⟨x, rfl⟩ : ∃ y : Nat, x = y := ⟨x.toNat, by omega⟩) | (go_at_call 9; (with_reducible refine (KU2.out _ _ ?hx).mono ?_); (case hx => omega); rintro e wX ⟨D2, hD2, rfl, BX⟩; (have hBX : Has wX wb.heap.size 25 #[.string (strOf D), .int .i64 (N : Int)] := (by (refine Has.below ?_ BX ?_); (first | exact hBx | exact hBx.alloc (.cells #[.string ⟨#[]⟩, .int .i64 0] 25)); (first | (simp; done) | (simp; omega)))); (have hBW : Below wa.heap.size wa wX := (by (refine Below.trans ?_ (BX.mono ?_)); (first | exact ⟨bwb.os, bwb.tape, bwb.output, bwb.size, bwb.block⟩ | exact ⟨(bwb.alloc bwb.size (.cells #[.string ⟨#[]⟩, .int .i64 0] 25)).os, (bwb.alloc bwb.size (.cells #[.string ⟨#[]⟩, .int .i64 0] 25)).tape, (bwb.alloc bwb.size (.cells #[.string ⟨#[]⟩, .int .i64 0] 25)).output, (bwb.alloc bwb.size (.cells #[.string ⟨#[]⟩, .int .i64 0] 25)).size, (bwb.alloc bwb.size (.cells #[.string ⟨#[]⟩, .int .i64 0] 25)).block⟩); (simp; omega))); (have hWX : wb.heap.size + 1 ≤ wX.heap.size := (by have h := BX.size; simp at h; omega)); (try (have hZ : Has wX (wb.heap.size + 1) 25 #[.string ⟨#[]⟩, .int .i64 0] := (by (refine Has.below ?_ BX ?_); exact Has.freshAt (w := (wb.alloc (.cells #[.string (strOf D), .int .i64 (N : Int)] 25))) (g := wb.heap.size + 1) (by simp) 25 #[.string ⟨#[]⟩, .int .i64 0]; simp); have z0 := hZ.cell 0; have z1 := hZ.cell 1; have y0 := hZ.free 0; have y1 := hZ.free 1; simp at z0 z1)); have rb := hBX.cell 0; have rr := hBX.cell 1; simp at rb rr))
      all_goals
        go_wp2
        go_meet
        case rel => first
          | exact ⟨wX.heap.size, x, D2, rfl, rfl, hWX, hidden hD2, Has.fresh wX 25 #[.string (strOf D2), .int .i64 ((N : Int) + 8)], hBX.alloc _, hBW.alloc hBW.size _⟩
          | exact ⟨wb.heap.size + 1, x, D2, rfl, rfl, Nat.le_refl _, hidden hD2, (hZ.store 0 (.string (strOf D2))).store 1 (.int .i64 ((N : Int) + 8)), (hBX.storeAway (p := ⟨wb.heap.size + 1, 0, none⟩) (by simp) _).storeAway (p := ⟨wb.heap.size + 1, 1, none⟩) (by simp) _, (hBW.setCell (p := ⟨wb.heap.size + 1, 0, none⟩) (by simp; omega) _).setCell (p := ⟨wb.heap.size + 1, 1, none⟩) (by simp; omega) _⟩
    case rest =>
      obtain ⟨g, x, D2, rfl, rfl, hgb, HD2, hX, hB, bwc⟩ := hcut
      obtain ⟨hgm, hsz⟩ := HBk2.out D2 x HD2.out
      have HG1 := hidden hgm
      have x0 := hX.cell 0
      simp at x0
      have hgl := hX.lt
      have hbl := hB.lt
      have bcs := bwc.size
      clear hcodeB hcodeZ KA KU2 eb eb1 hBx hgm bwb HCO
      go_wp2_with fail
      refine (KG.out _ _ (HSent.out.below bwc) HG1.out hsz).mono ?_
      rintro e wd ⟨rfl, Bd⟩
      have bd0 := Bd.size
      (try simp at bd0)
      have bwd : Below wa.heap.size wa wd := bwc.trans (Bd.mono (by omega))
      have hB6 := (hB.below Bd (by omega)).alloc (.cells #[.string (strOf D2), .int .i64 (N : Int)] 33)
      have hR6 := Has.fresh wd 33 #[.string (strOf D2), .int .i64 (N : Int)]
      have lb6 : (⟨wb.heap.size, 1, none⟩ : Addr).block < (wd.alloc (.cells #[.string (strOf D2), .int .i64 (N : Int)] 33)).heap.size := by simp; omega
      have lr6 : (⟨wd.heap.size, 1, none⟩ : Addr).block < (wd.alloc (.cells #[.string (strOf D2), .int .i64 (N : Int)] 33)).heap.size := by simp
      have eb6 : (wd.alloc (.cells #[.string (strOf D2), .int .i64 (N : Int)] 33)).cell? ⟨wb.heap.size, 1, none⟩ = some (.int .i64 (N : Int)) := hB6.cell 1
      have er6 : (wd.alloc (.cells #[.string (strOf D2), .int .i64 (N : Int)] 33)).cell? ⟨wd.heap.size, 1, none⟩ = some (.int .i64 (N : Int)) := hR6.cell 1
      have bw6 : Below wa.heap.size wa (wd.alloc (.cells #[.string (strOf D2), .int .i64 (N : Int)] 33)) := bwd.alloc (by omega) _
      have KB6 : Hid (∀ W : World, Below (wd.alloc (.cells #[.string (strOf D2), .int .i64 (N : Int)] 33)).heap.size (wd.alloc (.cells #[.string (strOf D2), .int .i64 (N : Int)] 33)) W → Calls Tryd.prog 7 #[.int .i64 (q : Int)] W fun e w' => e = .returned (.int .i64 (N : Int)) ∧ Below W.heap.size W w') := hidden (fun W _ => KB.out W)
      have KC6 : Hid (∀ W : World, Below (wd.alloc (.cells #[.string (strOf D2), .int .i64 (N : Int)] 33)).heap.size (wd.alloc (.cells #[.string (strOf D2), .int .i64 (N : Int)] 33)) W → Calls Tryd.prog 8 #[] W fun e w' => e = .returned (.bool true) ∧ Below W.heap.size W w') := hidden (fun W _ => HS.out W)
      have HBW := hidden (Ba.trans (bw6.mono ba))
      have bd : Below (wd.alloc (.cells #[.string (strOf D2), .int .i64 (N : Int)] 33)).heap.size (wd.alloc (.cells #[.string (strOf D2), .int .i64 (N : Int)] 33)) (wd.alloc (.cells #[.string (strOf D2), .int .i64 (N : Int)] 33)) := Below.refl _ _
      have rb := eb6
      have rr := er6
      have hqq : ((q : Int) == (q : Int)) = true := by simp
      clear hB6 hR6 bwd bwc hB hX bw6 KB KG Bd HS x0
      go_wp2
      go_region_held3 (fun w' => w'.cell? ⟨wb.heap.size, 1, none⟩ = some (.int .i64 (N : Int)) ∧ w'.cell? ⟨wd.heap.size, 1, none⟩ = some (.int .i64 (N : Int))) (go_keep) (first | (go_at_call 7; (with_reducible refine (KB6.out _ ?hW).mono ?_); (case hW => exact ⟨bd.os, bd.tape, bd.output, bd.size, bd.block⟩); rintro e wX ⟨rfl, BX⟩; have yX := BX.size; (try simp at yX); replace bd : Below (wd.alloc (.cells #[.string (strOf D2), .int .i64 (N : Int)] 33)).heap.size (wd.alloc (.cells #[.string (strOf D2), .int .i64 (N : Int)] 33)) wX := bel_then BX (by (have hbb := bd.size; (try simp at hbb); (try simp); (try omega))) ⟨bd.os, bd.tape, bd.output, bd.size, bd.block⟩; clear BX; have rb := bd.cell (p := ⟨wb.heap.size, 1, none⟩) lb6; rw [eb6] at rb; have rr := bd.cell (p := ⟨wd.heap.size, 1, none⟩) lr6; rw [er6] at rr) | (go_at_call 8; (with_reducible refine (KC6.out _ ?hW).mono ?_); (case hW => exact ⟨bd.os, bd.tape, bd.output, bd.size, bd.block⟩); rintro e wX ⟨rfl, BX⟩; have yX := BX.size; (try simp at yX); replace bd : Below (wd.alloc (.cells #[.string (strOf D2), .int .i64 (N : Int)] 33)).heap.size (wd.alloc (.cells #[.string (strOf D2), .int .i64 (N : Int)] 33)) wX := bel_then BX (by (have hbb := bd.size; (try simp at hbb); (try simp); (try omega))) ⟨bd.os, bd.tape, bd.output, bd.size, bd.block⟩; clear BX; have rb := bd.cell (p := ⟨wb.heap.size, 1, none⟩) lb6; rw [eb6] at rb; have rr := bd.cell (p := ⟨wd.heap.size, 1, none⟩) lr6; rw [er6] at rr))
      all_goals
        go_wp2
        go_ret
        exact ⟨rfl, HBW.out.trans ((show Below (wd.alloc (.cells #[.string (strOf D2), .int .i64 (N : Int)] 33)).heap.size (wd.alloc (.cells #[.string (strOf D2), .int .i64 (N : Int)] 33)) _ from ⟨bd.os, bd.tape, bd.output, bd.size, bd.block⟩).mono (by simp; omega))⟩
  · have hno : gamOk n = false := by simpa using hok
    have KP := hPGN n wa (by omega) (by omega) hno
    have KB := hidden (fun W => hGB n W (by omega) (by omega))
    rw [gamB_no hno] at KB
    have hn : n < 1 ∨ 1048575 < n := by rw [gamOk_iff] at hok; omega
    clear hPG hPGN hGB hG hno hok HCO
    rcases hn with hn | hn
    all_goals
      go_wp2_with fail
      refine KP.mono ?_
      rintro e wb ⟨rfl, Bb⟩
      have bb := Bb.size
      have bwb : Below wa.heap.size wa (wb.alloc (.cells #[.string ⟨#[]⟩, .int .i64 0] 25)) := Bb.alloc bb _
      clear KP Bb
      go_wp2_with fail
      refine (KB.out _).mono ?_
      rintro e wd ⟨rfl, Bd⟩
      have bwd : Below wa.heap.size wa wd := bwb.trans (Bd.mono bwb.size)
      clear Bd bwb KB
      go_wp2_with fail
      refine (HS.out _).mono ?_
      rintro e we ⟨rfl, Be⟩
      go_wp2
      go_ret
      exact ⟨rfl, (Ba.trans (bwd.mono ba)).trans (Be.mono (by have := bwd.size; omega))⟩
end Go.Proofs.YtpngomjkapccdaaDoor
