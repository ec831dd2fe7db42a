/- Texts of one reach, one behind the other: WCodes, WSyms, Dr4C, Dr4D, WFirsts. What each is about stands in its theorems. -/
import Derived.Test.YtdfbpmkdmpdobaaG9
import Derived.Test.YtdfbpmkdmpdobaaG12
import Derived.Test.YtdfbpmkdmpdobaaG17
import Derived.Test.YtdfbpmkdmpdobaaG6
import Derived.Deep.RegionHeld3
namespace Go.Proofs.Ytdfbpmkdmpdobaa
set_option linter.unusedVariables false
set_option linter.unusedSimpArgs false
open Go.RowKit

theorem natsL_getD (L : List Nat) (i : Nat) (h : i < L.length) : (natsL L)[i]? = some (.int .i64 (L.getD i 0 : Nat)) := by
  simp [natsL, List.getD_eq_getElem?_getD, h]
theorem Ints.cells4 {w : World} {B : Nat} {a : Option Addr} {zs : List Int} (h : Ints w B a zs) (h0 : 0 < zs.length) : ∃ b off, a = some ⟨b, off, none⟩ ∧ b < B ∧ ∀ i, i < zs.length → w.cell? ⟨b, off + i, none⟩ = some (.int .i64 (zs.getD i 0)) := h.2.2 h0
set_option maxHeartbeats 2000000 in
set_option maxRecDepth 100000 in
theorem walk_FnCodes (hC : AskCodes) (hO : AskOrder) (hS : AskSymBits) (w : World) (a0 : Option Addr) (len0 cap0 : Nat) (z0 : List Int) (w0 : IsRow .u8 w a0 len0 cap0 z0) :
    Calls Try.prog 3 #[.slice a0 len0 cap0] w fun e w' => e = .returned (.bool true) ∧ Below w.heap.size w w' := by
  have hcode := Code.ofRow w0
  have HS := hidden (codes_any hC hO hS)
  clear w0 hO hS
  go_enter Try.func3, Try.ntmps3
  go_wp2_with fail
  refine (drawCodes_any _ _ _ _ _ hcode).mono ?_
  rintro e wa ⟨a, c, ls, rfl, hI, hl1, hl2, hr, Ba⟩
  obtain ⟨n, hn⟩ : ∃ n, ls.length = n := ⟨_, rfl⟩
  have ba := Ba.size
  obtain ⟨ok, hok⟩ : ∃ ok, lOk ls = ok := ⟨_, rfl⟩
  have K1 := hC a c wa.heap.size ls wa hI (Nat.le_refl _)
  have K2 := hidden (fun W hI => specLensOk_any a c wa.heap.size ls W hI)
  rw [hok] at K2
  have HI := hidden hI
  have HR := hidden hr
  clear hC hr hI
  cases ok
  · have hc0 : cdL ls = [] := by unfold cdL; rw [hok]; rfl
    rw [hc0] at K1
    rw [hn] at K1 K2 ⊢
    go_wp2_with fail
    refine K1.mono ?_
    rintro e wb ⟨v, rfl, hown, Bb⟩
    obtain ⟨av, cv, rfl⟩ := own_shape hown
    have bb := Bb.size
    clear hown K1
    go_wp2_with fail
    refine (K2.out _ (HI.out.below Bb)).mono ?_
    rintro e wc ⟨rfl, rfl⟩
    go_wp2_with fail
    refine (HS.out _).mono ?_
    rintro e wd ⟨rfl, Bd⟩
    go_wp2
    go_ret
    exact ⟨rfl, (Ba.trans (Bb.mono ba)).trans (Bd.mono (by omega))⟩
  · have hlen := cdL_len hok
    have HC := hidden (fun i (h : i < n) => cdL_get hok i (by rw [hn]; exact h))
    have HL := hidden (fun i (h : i < n) => cdF_lt hok i (by rw [hn]; exact h))
    have HF := hidden (fun i k (h : i < n) (h2 : k < n) => cdF_free hok i k (by rw [hn]; exact h) (by rw [hn]; exact h2))
    have HN := hidden (fun i (h : i < n) => lRange_ln (lOk_range hok) i (by rw [hn]; exact h))
    have HT := hidden (fun i (h : i < n) => lnF_int (lOk_range hok) i (by rw [hn]; exact h))
    have HG := hidden (fun i (h : i < n) => natsL_getD (cdL ls) i (by rw [hlen, hn]; exact h))
    obtain ⟨b, off, rfl, hb, hlc⟩ := HI.out.cells4 (by omega)
    rw [hn] at hlc
    have HLC := hidden hlc
    rw [hlen] at K1
    rw [hn] at K1 K2 hl1 hl2 ⊢
    clear hok hlen hlc hn
    go_wp2_with fail
    refine K1.mono ?_
    rintro e wb ⟨v, rfl, hown, Bb⟩
    obtain ⟨g, cv, rfl⟩ := Joins.ownsRow_form hown (by omega)
    have bb := Bb.size
    have ccell : Hid (∀ i, i < n → wb.cell? ⟨g, i, none⟩ = some (.int .i64 (cdF ls i : Nat))) := hidden (fun i hi => by
      have h1 := hown.cells (g := g) rfl i _ (HG.out i hi)
      rw [HC.out i hi] at h1
      rcases i with _ | i <;> simpa [Addr.add] using h1)
    have lcell : Hid (∀ i, i < n → wb.cell? ⟨b, off + i, none⟩ = some (.int .i64 (lnF ls i : Nat))) := hidden (fun i hi => by
      rw [← HT.out i hi]
      exact (Bb.cell (p := ⟨b, off + i, none⟩) hb).trans (HLC.out i hi))
    have HIb := hidden (HI.out.below Bb)
    have hB : Below w.heap.size w wb := Ba.trans (Bb.mono ba)
    clear hown K1 HG HC HT HLC Bb HI Ba
    go_wp2_with fail
    refine (K2.out _ HIb.out).mono ?_
    rintro e wc ⟨rfl, rfl⟩
    clear K2 HIb hb
    go_wp2
    go_loopw [5] (fun si wr => ∃ k nq : Nat, k ≤ n ∧ si = .int .i64 k ∧ wr = wc.drewN nq) (fun si _ => n - (intOf si).toNat)
    case atStart => exact ⟨0, 0, Nat.zero_le _, rfl, rfl⟩
    case round =>
      obtain ⟨i, nq, hi, rfl, rfl⟩ := hrel
      by_cases hlt : i < n
      · have ci := ccell.out i hlt
        have li := lcell.out i hlt
        have h1 := HL.out i hlt
        have h2 := HN.out i hlt
        have HFi := hidden (fun k => HF.out i k hlt)
        obtain ⟨x, hx⟩ : ∃ x, lnF ls i = x := ⟨_, rfl⟩
        obtain ⟨y, hy⟩ : ∃ y, cdF ls i = y := ⟨_, rfl⟩
        rw [hx] at li h1 h2 HFi
        rw [hy] at ci h1 HFi
        clear hx hy
        have g1 : decide ((y : Int) < 0) = false := by simp
        obtain ⟨L, hL⟩ : ∃ L, 2 ^ x = L := ⟨_, rfl⟩
        have hL2 : L ≤ 1048576 := by rw [← hL]; exact Nat.le_trans (Nat.pow_le_pow_right (n := 2) (by omega) h2.2) (by decide)
        rw [hL] at h1
        have g2 : decide (wrap64 (2 ^ x) ≤ (y : Int)) = false := by
          have : wrap64 (2 ^ x) = (L : Int) := by
            rw [show ((2 : Int) ^ x) = ((2 ^ x : Nat) : Int) by push_cast; rfl, hL]
            exact wrap64_n _ (by omega)
          rw [this]; simp; omega
        go_wp2
        go_quiet (fail)
        clear g1 g2 hL hL2 h1
        go_wp2
        go_loopw [6] (fun sk wr => ∃ k nq : Nat, k ≤ n ∧ sk = .int .i64 k ∧ wr = wc.drewN nq) (fun sk _ => n - (intOf sk).toNat)
        case atStart => exact ⟨0, _, Nat.zero_le _, rfl, World.drewN_drewN ..⟩
        case round =>
          obtain ⟨k, nq2, hk, rfl, rfl⟩ := hrel
          by_cases hlk : k < n
          · by_cases hik : i = k
            · subst hik
              go_wp2
              go_quiet (fail)
              go_wp2
              exact ⟨⟨i + 1, _, by omega, by go_num, rfl⟩, by simp [intOf]; omega⟩
            · have ck := ccell.out k hlk
              have lk := lcell.out k hlk
              have hfk := HFi.out k hlk hik
              have h3 := HN.out k hlk
              have hbk := HL.out k hlk
              obtain ⟨u, hu⟩ : ∃ u, lnF ls k = u := ⟨_, rfl⟩
              obtain ⟨v, hv⟩ : ∃ v, cdF ls k = v := ⟨_, rfl⟩
              rw [hu] at lk h3 hfk hbk
              rw [hv] at ck hfk hbk
              have hik2 : ((i : Int) == (k : Int)) = false := by simp; omega
              have hik3 : ((i : Int) != (k : Int)) = true := by simp; omega
              clear hu hv
              by_cases hle : x ≤ u
              · obtain ⟨d, hd⟩ : ∃ d, u - x = d := ⟨_, rfl⟩
                obtain ⟨q, hq⟩ : ∃ q, v / 2 ^ d = q := ⟨_, rfl⟩
                have hqy := hfk hle
                rw [hd, hq] at hqy
                have i0 : IntKind.i64.wrap ((u : Int) - (x : Int)) = (d : Int) := by rw [show (u : Int) - (x : Int) = (d : Int) by omega]; exact IntWalk.i64_in _ (by omega)
                have d0 : ¬ (d : Int) < 0 := by omega
                have d64 : min d 64 = d := by omega
                have i2 : (v : Int) / 2 ^ min d 64 = (q : Int) := by
                  rw [d64, ← hq]; push_cast; rfl
                have g1 : decide ((x : Int) ≤ (u : Int)) = true := by simp; omega
                have g2 : ((q : Int) == (y : Int)) = false := by simp; omega
                clear hfk hbk hq hd d64
                go_wp2
                go_quiet (fail)
                go_wp2
                exact ⟨⟨k + 1, _, by omega, by go_num, rfl⟩, by simp [intOf]; omega⟩
              · have g1 : decide ((x : Int) ≤ (u : Int)) = false := by simp; omega
                clear hfk hbk
                go_wp2
                go_quiet (fail)
                go_wp2
                exact ⟨⟨k + 1, _, by omega, by go_num, rfl⟩, by simp [intOf]; omega⟩
          · go_wp2
            exact ⟨⟨i + 1, _, by omega, by go_num, rfl⟩, by simp [intOf]; omega⟩
      · go_wp2_with fail
        refine (HS.out _).mono ?_
        rintro e w6 ⟨rfl, b6⟩
        go_wp2
        go_ret
        have bd : Below w.heap.size w (wc.drewN nq) := hB.trans (bel_drewN (Below.refl _ _) _)
        exact ⟨rfl, bd.trans (b6.mono bd.size)⟩
end Go.Proofs.Ytdfbpmkdmpdobaa
namespace Go.Proofs.Ytdfbpmkdmpdobaa
set_option linter.unusedVariables false
set_option linter.unusedSimpArgs false
open Go.RowKit

def symsN (ss : List Int) : List Nat := (List.range ss.length).map fun i => (ss.getD i 0).toNat
theorem symsN_len (ss : List Int) : (symsN ss).length = ss.length := by simp [symsN]
theorem syms_back {ls ss : List Int} {D : List Nat} (h : putOk ls ss = true) (hD : Packs D (putL ls ss ss.length)) : Reads ls (strOf D) 0 (symsN ss) (lenSum ls ss ss.length) ∧ (strOf D).size ≤ 1048576 ∧ lenSum ls ss ss.length ≤ 40000 := by
  have h2 := (putOk_iff ls ss).1 h
  have hs := (symsB_iff _ _).1 h2.2
  have h3 := lenSum_le (lOk_range h2.1) hs.2 ss.length (Nat.le_refl _)
  have hl := putL_len ls ss ss.length
  have hk := packs_ok hD (by rw [hl]; omega)
  have hz := hD.len
  have hsz : (strOf D).size = (lenSum ls ss ss.length + 7) / 8 := by rw [strOf_size, hz, hl]
  refine ⟨reads_put h ss.length hk.2 rfl (by rw [hl, hsz]; omega) ss.length (Nat.le_refl _), by rw [hsz]; omega, by omega⟩
theorem syms_cells {ls ss : List Int} (h : putOk ls ss = true) : natsL (symsN ss) = intsV ss := by
  have h2 := (putOk_iff ls ss).1 h
  have hs := (symsB_iff _ _).1 h2.2
  apply List.ext_getElem
  · simp [natsL, intsV, symsN]
  · intro i h1 h3
    have hi : i < ss.length := by simpa [natsL, symsN] using h1
    have := (hs.2 i hi).1
    simp only [natsL, intsV, symsN, List.getElem_map, List.getElem_range]
    rw [Int.toNat_of_nonneg this]
    simp [List.getD_eq_getElem?_getD, hi]
theorem symBits_yes {ls ss : List Int} (h : putOk ls ss = true) : symBitsI ls ss = (lenSum ls ss ss.length : Int) := by unfold symBitsI; rw [if_pos h]
theorem symBits_no {ls ss : List Int} (h : putOk ls ss = false) : symBitsI ls ss = -1 := by unfold symBitsI; rw [if_neg (by simp [h])]
set_option maxHeartbeats 2000000 in
set_option maxRecDepth 100000 in
theorem walk_FnSyms (hC : AskCodes) (hO : AskOrder) (hS : AskSymBits) (hP : AskPut) (hPN : AskPutNo) (hG : AskGetSyms) (w : World) (a0 : Option Addr) (len0 cap0 : Nat) (z0 : List Int) (w0 : IsRow .u8 w a0 len0 cap0 z0) :
    Calls Try.prog 4 #[.slice a0 len0 cap0] w fun e w' => e = .returned (.bool true) ∧ Below w.heap.size w w' := by
  have hcode := Code.ofRow w0
  have HS := hidden (codes_any hC hO hS)
  clear w0 hO hC
  go_enter Try.func4, Try.ntmps4
  go_wp2_with fail
  refine (drawPutSyms_any _ _ _ _ _ hcode).mono ?_
  rintro e wa ⟨a1, c1, ls, a2, c2, ss, rfl, hI1, hI2, hl1, hl2, Ba⟩
  obtain ⟨n, hn⟩ : ∃ n, ls.length = n := ⟨_, rfl⟩
  obtain ⟨m, hm⟩ : ∃ m, ss.length = m := ⟨_, rfl⟩
  have ba := Ba.size
  have HI1 := hidden hI1
  have HI2 := hidden hI2
  clear hI1 hI2
  by_cases hok : putOk ls ss = true
  · have KP := hP a1 a2 c1 c2 wa.heap.size ls ss wa HI1.out HI2.out (Nat.le_refl _) hok
    have KQ := hidden (fun W h1 h2 h3 => specPutSyms_yes a1 a2 c1 c2 wa.heap.size ls ss W h1 h2 h3 hok)
    have KB := hidden (fun W h1 h2 h3 => hS a1 a2 c1 c2 wa.heap.size ls ss W h1 h2 h3)
    have KG := hidden (fun W D h1 h3 h4 h5 h6 => hG a1 c1 wa.heap.size 0 ss.length (lenSum ls ss ss.length) ls (symsN ss) (strOf D) W h1 h3 ((putOk_iff ls ss).1 hok).1 h4 (Nat.zero_le _) h5 (symsN_len ss) h6)
    have HCe := hidden (syms_cells hok)
    have HBk := hidden (fun D (hD : Packs D (putL ls ss ss.length)) => syms_back hok hD)
    have HM2 := ((symsB_iff _ _).1 ((putOk_iff ls ss).1 hok).2).1
    rw [symBits_yes hok] at KB
    rw [syms_cells hok] at KG
    obtain ⟨N, hN⟩ : ∃ N, lenSum ls ss ss.length = N := ⟨_, rfl⟩
    rw [hN] at KP KQ KB KG HBk
    rw [hn, hm] at KP KQ KB ⊢
    rw [hn] at KG
    rw [hm] at KG HBk HM2
    have HM := hidden hm
    have HNn := hidden hn
    clear hP hPN hS hG hN hok hn hm
    go_wp2_with fail
    refine KP.mono ?_
    rintro e wb ⟨D, hD, rfl, Bb⟩
    have bb := Bb.size
    obtain ⟨hrd, hsz, hN4⟩ := HBk.out D hD
    have HRD := hidden hrd
    have bwb : Below wa.heap.size wa (wb.alloc (.cells #[.string (strOf D), .int .i64 (N : Int)] 32)) := Bb.alloc bb _
    have hBx := Has.fresh wb 32 #[.string (strOf D), .int .i64 (N : Int)]
    clear KP hD hrd HBk Bb
    go_wp2_with fail
    refine (KQ.out _ (HI1.out.below bwb) (HI2.out.below bwb) (by simp; omega)).mono ?_
    rintro e wc ⟨D2, hD2, rfl, Bc⟩
    have bc := Bc.size
    (try simp at bc)
    have bwc : Below wa.heap.size wa (wc.alloc (.cells #[.string (strOf D2), .int .i64 (N : Int)] 32)) := (bwb.trans (Bc.mono (by simp; omega))).alloc (by omega) _
    have hBc := (hBx.below Bc (by simp)).alloc (.cells #[.string (strOf D2), .int .i64 (N : Int)] 32)
    have eb := hBc.cell 0
    have eb1 := hBc.cell 1
    simp at eb eb1
    clear KQ hD2 Bc bwb hBx
    go_wp2_with fail
    refine (KG.out _ D (HI1.out.below bwc) (by simp; omega) hsz (by omega) HRD.out).mono ?_
    rintro e wd ⟨vx, rfl, hown, Bd⟩
    have bd0 := Bd.size
    (try simp at bd0)
    obtain ⟨ax, cx, rfl⟩ := own_shape hown
    have bwd : Below wa.heap.size wa wd := bwc.trans (Bd.mono (by simp; omega))
    have hIx : Ints wd wd.heap.size ax ss := own_intsOf (by rw [HM.out] at *; exact hown) (by omega) HI2.out.2.1
    have hB6 := (hBc.below Bd (by simp; omega)).alloc (.cells #[.string (strOf D), .int .i64 (N : Int)] 37)
    have hR6 := Has.fresh wd 37 #[.string (strOf D), .int .i64 (N : Int)]
    have lb6 : (⟨wb.heap.size, 1, none⟩ : Addr).block < (wd.alloc (.cells #[.string (strOf D), .int .i64 (N : Int)] 37)).heap.size := by simp; omega
    have lr6 : (⟨wd.heap.size, 1, none⟩ : Addr).block < (wd.alloc (.cells #[.string (strOf D), .int .i64 (N : Int)] 37)).heap.size := by simp
    have eb6 : (wd.alloc (.cells #[.string (strOf D), .int .i64 (N : Int)] 37)).cell? ⟨wb.heap.size, 1, none⟩ = some (.int .i64 (N : Int)) := hB6.cell 1
    have er6 : (wd.alloc (.cells #[.string (strOf D), .int .i64 (N : Int)] 37)).cell? ⟨wd.heap.size, 1, none⟩ = some (.int .i64 (N : Int)) := hR6.cell 1
    have bw6 : Below wa.heap.size wa (wd.alloc (.cells #[.string (strOf D), .int .i64 (N : Int)] 37)) := bwd.alloc (by omega) _
    have KS : Hid (∀ W : World, Below (wd.alloc (.cells #[.string (strOf D), .int .i64 (N : Int)] 37)).heap.size (wd.alloc (.cells #[.string (strOf D), .int .i64 (N : Int)] 37)) W → Calls Try.prog 21 #[.slice ax m cx, .slice a2 m c2] W fun e w' => e = .returned (.bool true) ∧ Below W.heap.size W w') := hidden (fun W hW => by
      have b2 : Below wd.heap.size wd W := ((Below.refl wd.heap.size wd).alloc (Nat.le_refl _) _).trans (hW.mono (by simp))
      have := sameInts_any ax a2 cx c2 wd.heap.size ss ss W (hIx.below b2) (((HI2.out.below bwd).below (b2.mono (by omega))).mono (by omega))
      rw [decide_eq_true rfl, HM.out] at this
      exact this)
    have KB6 : Hid (∀ W : World, Below (wd.alloc (.cells #[.string (strOf D), .int .i64 (N : Int)] 37)).heap.size (wd.alloc (.cells #[.string (strOf D), .int .i64 (N : Int)] 37)) W → Calls Try.prog 19 #[.slice a1 n c1, .slice a2 m c2] W fun e w' => e = .returned (.int .i64 (N : Int)) ∧ Below W.heap.size W w') := hidden (fun W hW => by
      have b2 := bw6.trans (hW.mono (by simp; omega))
      exact KB.out W (HI1.out.below b2) (HI2.out.below b2) b2.size)
    have KC6 : Hid (∀ W : World, Below (wd.alloc (.cells #[.string (strOf D), .int .i64 (N : Int)] 37)).heap.size (wd.alloc (.cells #[.string (strOf D), .int .i64 (N : Int)] 37)) W → Calls Try.prog 15 #[] W fun e w' => e = .returned (.bool true) ∧ Below W.heap.size W w') := hidden (fun W _ => HS.out W)
    have HBW := hidden (Ba.trans (bw6.mono ba))
    have bd : Below (wd.alloc (.cells #[.string (strOf D), .int .i64 (N : Int)] 37)).heap.size (wd.alloc (.cells #[.string (strOf D), .int .i64 (N : Int)] 37)) (wd.alloc (.cells #[.string (strOf D), .int .i64 (N : Int)] 37)) := Below.refl _ _
    have rb := eb6
    have rr := er6
    clear hown hIx hB6 hR6 bwd bwc hBc bw6 KB KG Bd HI1 HI2 HS eb eb1 HRD
    go_wp2
    go_region_held3 (fun w' => w'.cell? ⟨wb.heap.size, 1, none⟩ = some (.int .i64 (N : Int)) ∧ w'.cell? ⟨wd.heap.size, 1, none⟩ = some (.int .i64 (N : Int))) (go_keep) (first | (go_at_call 21; (with_reducible refine (KS.out _ ?hW).mono ?_); (case hW => exact ⟨bd.os, bd.tape, bd.output, bd.size, bd.block⟩); rintro e wX ⟨rfl, BX⟩; have yX := BX.size; (try simp at yX); replace bd : Below (wd.alloc (.cells #[.string (strOf D), .int .i64 (N : Int)] 37)).heap.size (wd.alloc (.cells #[.string (strOf D), .int .i64 (N : Int)] 37)) wX := bel_then BX (by (have hbb := bd.size; (try simp at hbb); (try simp); (try omega))) ⟨bd.os, bd.tape, bd.output, bd.size, bd.block⟩; clear BX; have rb := bd.cell (p := ⟨wb.heap.size, 1, none⟩) lb6; rw [eb6] at rb; have rr := bd.cell (p := ⟨wd.heap.size, 1, none⟩) lr6; rw [er6] at rr) | (go_at_call 19; (with_reducible refine (KB6.out _ ?hW).mono ?_); (case hW => exact ⟨bd.os, bd.tape, bd.output, bd.size, bd.block⟩); rintro e wX ⟨rfl, BX⟩; have yX := BX.size; (try simp at yX); replace bd : Below (wd.alloc (.cells #[.string (strOf D), .int .i64 (N : Int)] 37)).heap.size (wd.alloc (.cells #[.string (strOf D), .int .i64 (N : Int)] 37)) wX := bel_then BX (by (have hbb := bd.size; (try simp at hbb); (try simp); (try omega))) ⟨bd.os, bd.tape, bd.output, bd.size, bd.block⟩; clear BX; have rb := bd.cell (p := ⟨wb.heap.size, 1, none⟩) lb6; rw [eb6] at rb; have rr := bd.cell (p := ⟨wd.heap.size, 1, none⟩) lr6; rw [er6] at rr) | (go_at_call 15; (with_reducible refine (KC6.out _ ?hW).mono ?_); (case hW => exact ⟨bd.os, bd.tape, bd.output, bd.size, bd.block⟩); rintro e wX ⟨rfl, BX⟩; have yX := BX.size; (try simp at yX); replace bd : Below (wd.alloc (.cells #[.string (strOf D), .int .i64 (N : Int)] 37)).heap.size (wd.alloc (.cells #[.string (strOf D), .int .i64 (N : Int)] 37)) wX := bel_then BX (by (have hbb := bd.size; (try simp at hbb); (try simp); (try omega))) ⟨bd.os, bd.tape, bd.output, bd.size, bd.block⟩; clear BX; have rb := bd.cell (p := ⟨wb.heap.size, 1, none⟩) lb6; rw [eb6] at rb; have rr := bd.cell (p := ⟨wd.heap.size, 1, none⟩) lr6; rw [er6] at rr))
    all_goals
      go_wp2
      go_ret
      exact ⟨rfl, HBW.out.trans ((show Below (wd.alloc (.cells #[.string (strOf D), .int .i64 (N : Int)] 37)).heap.size (wd.alloc (.cells #[.string (strOf D), .int .i64 (N : Int)] 37)) _ from ⟨bd.os, bd.tape, bd.output, bd.size, bd.block⟩).mono (by simp; omega))⟩
  · have hno : putOk ls ss = false := by simpa using hok
    have KP := hPN a1 a2 c1 c2 wa.heap.size ls ss wa HI1.out HI2.out (Nat.le_refl _) hno
    have KQ := hidden (fun W h1 h2 h3 => specPutSyms_no a1 a2 c1 c2 wa.heap.size ls ss W h1 h2 h3 hno)
    have KB := hidden (fun W h1 h2 h3 => hS a1 a2 c1 c2 wa.heap.size ls ss W h1 h2 h3)
    rw [symBits_no hno] at KB
    rw [hn, hm] at KP KQ KB ⊢
    clear hP hPN hS hG hok hn hm
    go_wp2_with fail
    refine KP.mono ?_
    rintro e wb ⟨rfl, Bb⟩
    have bb := Bb.size
    have bwb : Below wa.heap.size wa (wb.alloc (.cells #[.string ⟨#[]⟩, .int .i64 0] 32)) := Bb.alloc bb _
    clear KP Bb
    go_wp2_with fail
    refine (KQ.out _ (HI1.out.below bwb) (HI2.out.below bwb) (by simp; omega)).mono ?_
    rintro e wc ⟨rfl, Bc⟩
    have bc := Bc.size
    (try simp at bc)
    have bwc : Below wa.heap.size wa (wc.alloc (.cells #[.string ⟨#[]⟩, .int .i64 0] 32)) := (bwb.trans (Bc.mono (by simp; omega))).alloc (by omega) _
    clear KQ Bc bwb
    go_wp2_with fail
    refine (KB.out _ (HI1.out.below bwc) (HI2.out.below bwc) (by simp; omega)).mono ?_
    rintro e wd ⟨rfl, Bd⟩
    have bd0 := Bd.size
    (try simp at bd0)
    have bwd : Below wa.heap.size wa wd := bwc.trans (Bd.mono (by simp; omega))
    clear Bd bwc
    go_wp2_with fail
    refine (HS.out _).mono ?_
    rintro e we ⟨rfl, Be⟩
    go_wp2
    go_ret
    exact ⟨rfl, (Ba.trans (bwd.mono ba)).trans (Be.mono (by omega))⟩
end Go.Proofs.Ytdfbpmkdmpdobaa
namespace Go.Proofs.Ytdfbpmkdmpdobaa
set_option linter.unusedVariables false
set_option linter.unusedSimpArgs false
open Go.RowKit

theorem packs_size {D l : List Nat} (h : Packs D l) : D.length = (l.length + 7) / 8 := h.len
set_option maxHeartbeats 2000000 in
set_option maxRecDepth 100000 in
theorem l4rd_any (g B lo nn m c1 : Nat) (a1 : Option Addr) (ls : List Int) (w : World) (hc : Cur w g B) (hown : w.ownsRow lo 3 1 (.slice a1 m c1) m (intsV ls)) (hglo : g < lo) (hlo : lo ≤ w.heap.size) (hm : m ≤ 1000) (hr : ∀ x ∈ ls, -9223372036854775808 ≤ x ∧ x ≤ 9223372036854775807) (hn : nn ≤ 1000) :
    Calls Try.prog 57 #[.pointer (some ⟨g, 0, none⟩), .slice a1 m c1, .int .i64 nn] w fun e w' => ∃ (s : ByteArray) (a : Int), e = .returned (.agg #[.string s, .int .i64 a]) ∧ s.size ≤ 1048576 ∧ -1 ≤ a ∧ a ≤ 100 ∧ Cur w' g B ∧ Only g w w' := by
  have hgl := hc.lt
  have hR := Has.fresh w 37 #[.string ⟨#[]⟩, .int .i64 0]
  have hO0 := (Only.refl g w).alloc (.cells #[.string ⟨#[]⟩, .int .i64 0] 37)
  have hc0 := hc.alloc (.cells #[.string ⟨#[]⟩, .int .i64 0] 37)
  have hown0 := hown.alloc (.cells #[.string ⟨#[]⟩, .int .i64 0] 37)
  have hlen : ls.length = m := by have := hown.1; rw [intsV_len] at this; omega
  have HLEN := hidden hlen
  have HRG := hidden hr
  have HII := hidden (fun (W : World) (h : W.ownsRow lo 3 1 (.slice a1 m c1) m (intsV ls)) => own_intsOf h (by omega) hr)
  obtain ⟨ok, hok⟩ : ∃ ok, lOk ls = ok := ⟨_, rfl⟩
  have KL := hidden (fun (W : World) (h : Ints W W.heap.size a1 ls) => specLensOk_any a1 c1 W.heap.size ls W h)
  rw [hlen, hok] at KL
  have HOK := hidden hok
  clear hown hr hc hlen hok
  go_enter Try.func57, Try.ntmps57
  go_wp2_with fail
  refine (KL.out _ (HII.out _ hown0)).mono ?_
  rintro e wa ⟨rfl, hwa⟩
  rw [← hwa] at hR hO0 hc0 hown0
  clear hwa
  have hs0 := hO0.size
  cases ok
  · go_wp2_with fail
    refine (l1rd_any g B _ hc0).mono ?_
    rintro e wb ⟨s, a, rfl, hs, a0, a100, hb, Ob⟩
    have hRb := Ob.has hR (by omega)
    have OB := hO0.trans_ Ob
    have e0 := hRb.cell 0
    have e1 := hRb.cell 1
    have g0 := hRb.free 0
    have g1 := hRb.free 1
    simp at e0 e1
    have hsb := OB.size
    clear hRb hR hO0 hc0 hown0 Ob
    go_wp2
    refine bodyPost_ret (v := .agg #[.string s, .int .i64 a]) (by simp [results, Try.results57, go_sem, e0, e1, g0, g1]) rfl ⟨s, a, rfl, by omega, a0, a100, ?_, ?_⟩
    · exact ((hb.store (p := ⟨w.heap.size, 0, none⟩) hgl _).store (p := ⟨w.heap.size, 1, none⟩) hgl _)
    · exact (OB.store (p := ⟨w.heap.size, 0, none⟩) (.inr (Nat.le_refl _)) _).store (p := ⟨w.heap.size, 1, none⟩) (.inr (Nat.le_refl _)) _
  · go_wp2_with fail
    refine (l1Once_any g B _ _ hc0 (by omega)).mono ?_
    rintro e wb ⟨b1, rfl, hb, Ob⟩
    have hRb := Ob.has hR (by omega)
    have hownb := own_only hown0 Ob hglo
    have OB := hO0.trans_ Ob
    have hsb := OB.size
    clear hR hO0 hc0 hown0
    cases b1
    · have hsb2 := Ob.size
      clear Ob
      go_wp2_with fail
      refine (l4syms_any g B m nn _ hb hm hn).mono ?_
      rintro e wc ⟨v2, ss, rfl, hown2, hs1, hsr, hcc, Oc⟩
      have hRc := Oc.has hRb (by omega)
      have hownc := own_only hownb Oc hglo
      have OC := OB.trans_ Oc
      obtain ⟨a3, c3, rfl⟩ := own_shape hown2
      have hI2 := own_intsOf hown2 (by omega) (fun x hx => by have := hsr x hx; omega)
      have hI1 := HII.out _ hownc
      have hsc := OC.size
      have hRl := hRc.lt
      have KP : Hid (Calls Try.prog 18 #[.slice a1 m c1, .slice a3 ss.length c3] wc fun e w' => ∃ (D : ByteArray) (N : Int) (q : Bool), e = .returned (.tuple #[.agg #[.string D, .int .i64 N], .bool q]) ∧ D.size ≤ 1048576 ∧ Below wc.heap.size wc w') := hidden (by
        have hl := HLEN.out
        subst hl
        by_cases hp : putOk ls ss = true
        · refine (specPutSyms_yes a1 a3 c1 c3 wc.heap.size ls ss wc hI1 hI2 (Nat.le_refl _) hp).mono ?_
          rintro e w' ⟨D, hD, rfl, hbb⟩
          refine ⟨_, _, _, rfl, ?_, hbb⟩
          have h1 := packs_size hD
          have h2 := (putOk_iff ls ss).1 hp
          have h3 := lenSum_le (lOk_range h2.1) ((symsB_iff _ _).1 h2.2).2 ss.length (Nat.le_refl _)
          rw [putL_len] at h1
          rw [strOf_size, h1]
          omega
        · refine (specPutSyms_no a1 a3 c1 c3 wc.heap.size ls ss wc hI1 hI2 (Nat.le_refl _) (by simpa using hp)).mono ?_
          rintro e w' ⟨rfl, hbb⟩
          exact ⟨_, _, _, rfl, by decide, hbb⟩)
      clear hRb hownb OB hb Oc hown2 hownc hI1 hI2 hsr
      go_wp2_with fail
      refine KP.out.mono ?_
      rintro e wd ⟨D, N, q, rfl, hDs, bd⟩
      have hRd := hRc.below bd hRl
      have hd := hcc.below bd hcc.lt
      have OD := OC.trans_ (only_below (g := g) bd)
      have hsd := OD.size
      have hRl2 := hRd.lt
      have e0 := hRd.cell 0
      have e1 := hRd.cell 1
      have g0 := hRd.free 0
      have g1 := hRd.free 1
      simp at e0 e1
      have n1 : ¬ w.heap.size = wd.heap.size := by omega
      have n2 : ¬ wd.heap.size = w.heap.size := by omega
      clear hRc hcc OC bd KP hRd
      go_wp2
      refine bodyPost_ret (v := .agg #[.string D, .int .i64 0]) (by simp [results, Try.results57, go_sem, e0, e1, g0, g1, n1, n2, hRl2]) rfl ⟨D, 0, rfl, hDs, by omega, by omega, ?_, ?_⟩
      · exact ((hd.store (p := ⟨w.heap.size, 0, none⟩) hgl _).store (p := ⟨w.heap.size, 1, none⟩) hgl _).alloc _
      · exact ((OD.store (p := ⟨w.heap.size, 0, none⟩) (.inr (Nat.le_refl _)) _).store (p := ⟨w.heap.size, 1, none⟩) (.inr (Nat.le_refl _)) _).alloc _
    · clear Ob
      go_wp2_with fail
      refine (l1rd_any g B _ hb).mono ?_
      rintro e wc ⟨s, a, rfl, hs, a0, a100, hcc, Oc⟩
      have hRc := Oc.has hRb (by omega)
      have OC := OB.trans_ Oc
      have e0 := hRc.cell 0
      have e1 := hRc.cell 1
      have g0 := hRc.free 0
      have g1 := hRc.free 1
      simp at e0 e1
      have hsc := OC.size
      clear hRb hownb OB hb hRc Oc
      go_wp2
      refine bodyPost_ret (v := .agg #[.string s, .int .i64 a]) (by simp [results, Try.results57, go_sem, e0, e1, g0, g1]) rfl ⟨s, a, rfl, by omega, a0, a100, ?_, ?_⟩
      · exact ((hcc.store (p := ⟨w.heap.size, 0, none⟩) hgl _).store (p := ⟨w.heap.size, 1, none⟩) hgl _)
      · exact (OC.store (p := ⟨w.heap.size, 0, none⟩) (.inr (Nat.le_refl _)) _).store (p := ⟨w.heap.size, 1, none⟩) (.inr (Nat.le_refl _)) _
end Go.Proofs.Ytdfbpmkdmpdobaa
namespace Go.Proofs.Ytdfbpmkdmpdobaa
set_option linter.unusedVariables false
set_option linter.unusedSimpArgs false
open Go.RowKit

theorem pick3n (j : Nat) (h : j < 3) : -1 ≤ ([-1, 2000, 2001] : List Int).getD j 0 ∧ ([-1, 2000, 2001] : List Int).getD j 0 ≤ 2001 := by
  rcases j with _ | _ | _ | j <;> simp <;> omega
set_option maxHeartbeats 2000000 in
set_option maxRecDepth 100000 in
theorem drawGetSyms_any (a : Option Addr) (len cap : Nat) (zs : List Int) (w : World) (hcode : Code w w.heap.size a len cap zs) :
    Calls Try.prog 22 #[.slice a len cap] w fun e w' => ∃ (a1 : Option Addr) (c1 : Nat) (ls : List Int) (s : ByteArray) (at0 n : Int), e = .returned (.tuple #[.slice a1 ls.length c1, .agg #[.string s, .int .i64 at0], .int .i64 n]) ∧ Ints w' w'.heap.size a1 ls ∧ ls.length ≤ 14 ∧ s.size ≤ 1048576 ∧ -1 ≤ at0 ∧ at0 ≤ 100 ∧ -1 ≤ n ∧ n ≤ 2001 ∧ Below w.heap.size w w' := by
  have hc0 : Code (w.alloc (.cells #[.string ⟨#[]⟩, .int .i64 0] 37)) (w.alloc (.cells #[.string ⟨#[]⟩, .int .i64 0] 37)).heap.size a len cap zs := by
    have := hcode.below ((Below.refl w.heap.size w).alloc (Nat.le_refl _) (.cells #[.string ⟨#[]⟩, .int .i64 0] 37))
    refine ⟨this.1, this.2.1, fun h => ?_⟩
    obtain ⟨b, off, e, hb, hcc⟩ := this.2.2 h
    exact ⟨b, off, e, by simp; omega, hcc⟩
  have hb0 : Below w.heap.size w (w.alloc (.cells #[.string ⟨#[]⟩, .int .i64 0] 37)) := (Below.refl _ _).alloc (Nat.le_refl _) _
  go_enter Try.func22, Try.ntmps22
  go_wp2_with fail
  refine (l1New_any a len cap zs _ hc0).mono ?_
  rintro e wa ⟨g, rfl, hcu, Ba⟩
  have hg := hcu.1
  (try simp at hg)
  have hga := hcu.lt
  have hRa := (Has.fresh w 37 #[.string ⟨#[]⟩, .int .i64 0]).below Ba (by simp)
  have hba : Below w.heap.size w wa := bel_then Ba (by simp) hb0
  clear Ba hb0 hc0
  go_wp2_with fail
  refine (l3lensBent_any g _ _ hcu).mono ?_
  rintro e wb ⟨v, ls, rfl, hown, hl1, hl2, hr, hb, Ob⟩
  obtain ⟨a1, c1, rfl⟩ := own_shape hown
  obtain ⟨m, hmE⟩ : ∃ m, ls.length = m := ⟨_, rfl⟩
  rw [hmE] at hown hl1 hl2
  have HM := hidden hmE
  have HR : Hid (∀ x ∈ ls, -9223372036854775808 ≤ x ∧ x ≤ 9223372036854775807) := hidden (fun x hx => by have := hr x hx; omega)
  have HII := hidden (fun (W : World) (h : W.ownsRow wa.heap.size 3 1 (.slice a1 m c1) m (intsV ls)) => own_intsOf h (by omega) HR.out)
  rw [hmE]
  clear hr hmE hcu
  have hsb := Ob.size
  have hRb := Ob.has hRa (by omega)
  have hbb := hba.trans (Ob.below (by omega) hba.size)
  have hlo := hown.lt
  clear hRa hba
  go_wp2_with fail
  refine (l1Size_any a len cap 20 _ hcode.1 (by omega) (by omega)).mono ?_
  rintro e wb' ⟨x, rfl, x0, x1, rfl⟩
  obtain ⟨q, rfl⟩ : ∃ q : Nat, x = q := ⟨x.toNat, by omega⟩
  go_wp2_with fail
  refine (l4rd_any g _ wa.heap.size q m c1 a1 ls _ hb hown (by omega) hsb (by omega) HR.out (by omega)).mono ?_
  rintro e wc ⟨s, at0, rfl, hs, h1, h2, hcc, Oc⟩
  have hownc := own_only hown Oc (by omega)
  have hRc := Oc.has hRb (by omega)
  have hbc := hbb.trans (Oc.below (by omega) hbb.size)
  have hsc := Oc.size
  have hXc := Has.fresh wc 37 #[.string s, .int .i64 at0]
  have hRx := hRc.alloc (.cells #[.string s, .int .i64 at0] 37)
  have hownx := hownc.alloc (.cells #[.string s, .int .i64 at0] 37)
  have hcx := hcc.alloc (.cells #[.string s, .int .i64 at0] 37)
  have hbx := hbc.alloc hbc.size (.cells #[.string s, .int .i64 at0] 37)
  have y0 := hRc.cell 0
  have y1 := hRc.cell 1
  have yf0 := hRc.free 0
  have yf1 := hRc.free 1
  simp at y0 y1
  clear Ob hRb hbb hown hb Oc hownc hRc hbc hcc
  go_wp2_with fail
  refine (l1Below_any g _ 12 _ hcx (by omega)).mono ?_
  rintro e wd ⟨n, rfl, n0, n1, _, hd, Od⟩
  have n2 := n1 (by omega)
  have hXd := Od.has hXc (by omega)
  have hRd := Od.has hRx (by omega)
  have hownd := own_only hownx Od (by omega)
  have hbd := hbx.trans (Od.below (by omega) hbx.size)
  have hsd := Od.size
  (try simp at hsd)
  clear n1 hXc hRx hownx hbx hcx Od
  go_wp2_with fail
  refine (l1Once_any g _ 12 _ hd (by omega)).mono ?_
  rintro e we ⟨b1, rfl, he, Oe⟩
  have hXe := Oe.has hXd (by omega)
  have hRe := Oe.has hRd (by omega)
  have howne := own_only hownd Oe (by omega)
  have hbe := hbd.trans (Oe.below (by omega) hbd.size)
  have hse := Oe.size
  clear hXd hRd hownd hbd hd Oe
  cases b1
  · have e0 := hXe.cell 0
    have e1 := hXe.cell 1
    have g0 := hXe.free 0
    have g1 := hXe.free 1
    have z0 := hRe.cell 0
    have z1 := hRe.cell 1
    have q0 := hRe.free 0
    have q1 := hRe.free 1
    simp at e0 e1 z0 z1
    have n3 : ¬ w.heap.size = wc.heap.size := by omega
    have n4 : ¬ wc.heap.size = w.heap.size := by omega
    have hRl := hRe.lt
    have hOW := (((Only.refl w.heap.size we).store (p := ⟨w.heap.size, 0, none⟩) (.inl rfl) (.string s)).store (p := ⟨w.heap.size, 1, none⟩) (.inl rfl) (.int .i64 at0)).drew
    have hI := hidden (HII.out _ (own_only howne hOW (by omega)))
    have hB := hidden (((hbe.setCell (p := ⟨w.heap.size, 0, none⟩) (Nat.le_refl _) (.string s)).setCell (p := ⟨w.heap.size, 1, none⟩) (Nat.le_refl _) (.int .i64 at0)).drew)
    clear hXe hRe he hbe howne hOW
    go_wp2
    go_region
    all_goals
      go_wp2
      refine bodyPost_ret (v := .tuple #[.slice a1 m c1, .agg #[.string s, .int .i64 at0], .int .i64 n]) (by simp [results, Try.results22, go_sem, z0, z1, q0, q1, n3, n4, hRl]) rfl ⟨a1, c1, ls, s, at0, n, by rw [HM.out], hI.out, by rw [HM.out]; omega, hs, h1, h2, by omega, by omega, hB.out⟩

  · go_wp2_with fail
    refine (l1PickInt_any g _ we.heap.size 3 _ [-1, 2000, 2001] _ (he.alloc _) (by omega) (by omega) (by omega) ?_).mono ?_
    · intro j hj
      rw [(Has.fresh we _ _).cell j]
      rcases j with _ | _ | _ | j <;> first | rfl | omega
    rintro e wf ⟨j, hj, rfl, hf, Of⟩
    have hpk := pick3n j hj
    obtain ⟨y, hy⟩ : ∃ y, ([-1, 2000, 2001] : List Int).getD j 0 = y := ⟨_, rfl⟩
    rw [hy] at hpk ⊢
    have hXf := Of.has (hXe.alloc (.cells #[.int .i64 (-1), .int .i64 2000, .int .i64 2001] 3)) (by omega)
    have hRf := Of.has (hRe.alloc (.cells #[.int .i64 (-1), .int .i64 2000, .int .i64 2001] 3)) (by omega)
    have hownf := own_only (howne.alloc (.cells #[.int .i64 (-1), .int .i64 2000, .int .i64 2001] 3)) Of (by omega)
    have hbf := (hbe.alloc hbe.size (.cells #[.int .i64 (-1), .int .i64 2000, .int .i64 2001] 3)).trans (Of.below (by omega) (by simp; omega))
    have hsf := Of.size
    (try simp at hsf)
    clear hXe hRe he hbe howne Of hy
    have e0 := hXf.cell 0
    have e1 := hXf.cell 1
    have g0 := hXf.free 0
    have g1 := hXf.free 1
    have z0 := hRf.cell 0
    have z1 := hRf.cell 1
    have q0 := hRf.free 0
    have q1 := hRf.free 1
    simp at e0 e1 z0 z1
    have n3 : ¬ w.heap.size = wc.heap.size := by omega
    have n4 : ¬ wc.heap.size = w.heap.size := by omega
    have hRl := hRf.lt
    have hOW := (((Only.refl w.heap.size wf).store (p := ⟨w.heap.size, 0, none⟩) (.inl rfl) (.string s)).store (p := ⟨w.heap.size, 1, none⟩) (.inl rfl) (.int .i64 at0)).drew
    have hI := hidden (HII.out _ (own_only hownf hOW (by omega)))
    have hB := hidden (((hbf.setCell (p := ⟨w.heap.size, 0, none⟩) (Nat.le_refl _) (.string s)).setCell (p := ⟨w.heap.size, 1, none⟩) (Nat.le_refl _) (.int .i64 at0)).drew)
    clear hXf hRf hf hbf hownf hOW
    go_wp2
    go_region
    all_goals
      go_wp2
      refine bodyPost_ret (v := .tuple #[.slice a1 m c1, .agg #[.string s, .int .i64 at0], .int .i64 y]) (by simp [results, Try.results22, go_sem, z0, z1, q0, q1, n3, n4, hRl]) rfl ⟨a1, c1, ls, s, at0, y, by rw [HM.out], hI.out, by rw [HM.out]; omega, hs, h1, h2, by omega, by omega, hB.out⟩

end Go.Proofs.Ytdfbpmkdmpdobaa
namespace Go.Proofs.Ytdfbpmkdmpdobaa
set_option linter.unusedVariables false
set_option linter.unusedSimpArgs false
open Go.RowKit

theorem Ints.tail {w : World} {B g : Nat} {i : Int} {zs : List Int} (h : Ints w B (some ⟨g, 0, none⟩) (i :: zs)) : Ints w B (some ⟨g, 1, none⟩) zs := by
  refine ⟨by have := h.1; simp at this; omega, fun x hx => h.2.1 x (List.mem_cons_of_mem _ hx), fun h0 => ?_⟩
  obtain ⟨b, off, e, hb, hc⟩ := h.2.2 (by simp)
  simp only [Option.some.injEq, Addr.mk.injEq] at e
  obtain ⟨rfl, rfl, _⟩ := e
  refine ⟨g, 1, rfl, hb, fun k hk => ?_⟩
  have := hc (k + 1) (by simp; omega)
  rw [show 0 + (k + 1) = 1 + k by omega] at this
  simpa using this
set_option maxHeartbeats 2000000 in
set_option maxRecDepth 100000 in
theorem walk_FnFirsts (hC : AskCodes) (hO : AskOrder) (hS : AskSymBits) (hY : AskGetSym) (hG : AskGetSyms) (hN : AskGetSymsNo) (w : World) (a0 : Option Addr) (len0 cap0 : Nat) (z0 : List Int) (w0 : IsRow .u8 w a0 len0 cap0 z0) :
    Calls Try.prog 5 #[.slice a0 len0 cap0] w fun e w' => e = .returned (.bool true) ∧ Below w.heap.size w w' := by
  have hcode := Code.ofRow w0
  have HS := hidden (codes_any hC hO hS)
  clear w0 hO hC hS
  go_enter Try.func5, Try.ntmps5
  go_wp2_with fail
  refine (drawGetSyms_any _ _ _ _ _ hcode).mono ?_
  rintro e wa ⟨a, c, ls, s, at0, n, rfl, hI, hl, hs, t0, t1, n0, n1, Ba⟩
  obtain ⟨m, hm⟩ : ∃ m, ls.length = m := ⟨_, rfl⟩
  have HM := hidden hm
  have ba := Ba.size
  have HI := hidden hI
  have b1 : Below wa.heap.size wa (wa.alloc (.cells #[.string s, .int .i64 at0] 37)) := (Below.refl _ _).alloc (Nat.le_refl _) _
  have hR1 := Has.fresh wa 37 #[.string s, .int .i64 at0]
  clear hI
  by_cases good : lOk ls = true ∧ 0 ≤ at0 ∧ at0 ≤ 8 * s.size ∧ 0 ≤ n ∧ n ≤ 2000 ∧ ∃ xs c, xs.length = n.toNat ∧ Reads ls s at0.toNat xs c
  · obtain ⟨hok, g0, g1, g2, g3, xs, c0, hx, hrd⟩ := good
    obtain ⟨A, rfl⟩ : ∃ A : Nat, at0 = A := ⟨at0.toNat, by omega⟩
    obtain ⟨q, rfl⟩ : ∃ q : Nat, n = q := ⟨n.toNat, by omega⟩
    rw [Int.toNat_natCast] at hx hrd
    have KG := hidden (fun (W : World) h1 h2 => hG a c wa.heap.size A q c0 ls xs s W h1 h2 hok hs (by omega) (by omega) hx hrd)
    have KQ := hidden (fun (W : World) h1 h2 => specGetSyms_yes a c wa.heap.size A q c0 ls xs s W h1 h2 hok hs (by omega) (by omega) hx hrd)
    have KY := hidden (fun (W : World) (m i : Nat) h1 h2 h3 => hY a c wa.heap.size A m i ls s W h1 h2 hok hs (by omega) h3)
    have KZ := hidden (fun (W : World) (p A' : Nat) (ys : List Nat) h1 h2 h3 h4 h5 h6 => hG a c wa.heap.size A' p c0 ls ys s W h1 h2 hok hs h3 h4 h5 h6)
    rw [hm] at KG KQ KY KZ ⊢
    have hmem := hrd.mem
    have hlr := (lOk_range hok).2.1
    clear hY hG hN hok hm t0 t1 n0 n1
    go_wp2_with fail
    refine (KG.out _ (HI.out.below b1) (by simp)).mono ?_
    rintro e wb ⟨v, rfl, hown, Bb⟩
    have bb := Bb.size
    (try simp at bb)
    obtain ⟨ax, cx, rfl⟩ := own_shape hown
    have hIx : Ints wb wb.heap.size ax (ofN xs) := own_intsOf (n := q) (c := cx) (by rw [ofN_cells]; exact hown) (by omega) (ofN_range xs 260 (by omega) (fun x hx2 => by have := hmem x hx2; omega))
    have b2 : Below wa.heap.size wa (wb.alloc (.cells #[.string s, .int .i64 (c0 : Int)] 37)) := (b1.trans (Bb.mono (by simp))).alloc (by omega) _
    have hR2 := (hR1.below Bb (by simp)).alloc (.cells #[.string s, .int .i64 (c0 : Int)] 37)
    have r0 := hR2.cell 0
    have r1 := hR2.cell 1
    simp at r0 r1
    have HX := hidden (hown.alloc (.cells #[.string s, .int .i64 (c0 : Int)] 37))
    have hIx2 := hIx.below ((Below.refl wb.heap.size wb).alloc (Nat.le_refl _) (.cells #[.string s, .int .i64 (c0 : Int)] 37))
    clear hown hIx hR1 KG Bb b1
    go_wp2_with fail
    refine (KQ.out _ (HI.out.below b2) (by simp; omega)).mono ?_
    rintro e wc ⟨v2, rfl, hown2, Bc⟩
    have bc := Bc.size
    (try simp at bc)
    have b3 : Below wa.heap.size wa (wc.alloc (.cells #[.string s, .int .i64 (c0 : Int)] 37)) := (b2.trans (Bc.mono (by simp; omega))).alloc (by omega) _
    have hR3 := (hR2.below Bc (by simp; omega)).alloc (.cells #[.string s, .int .i64 (c0 : Int)] 37)
    have hIx3 := (hIx2.below (Bc.mono (by simp))).below ((Below.refl wb.heap.size wc).alloc (by omega) (.cells #[.string s, .int .i64 (c0 : Int)] 37))
    have s0 := hR3.cell 0
    have s1 := hR3.cell 1
    simp at s0 s1
    clear hown2 hR2 r0 r1 Bc b2 hIx2 KQ
    rcases xs with _ | ⟨i, ys⟩
    · simp at hx
      subst hx
      go_wp2_with fail
      refine (HS.out _).mono ?_
      rintro e wd ⟨rfl, Bd⟩
      go_wp2
      go_ret
      exact ⟨rfl, (Ba.trans (b3.mono ba)).trans (Bd.mono (by simp; omega))⟩
    · obtain ⟨p, hp⟩ : ∃ p, ys.length = p := ⟨_, rfl⟩
      have hq : q = p + 1 := by rw [← hx, ← hp]; rfl
      cases hrd with
      | cons _ d _ _ _ hh hr2 =>
      have hadd := hr2.le
      have hle := hh.2.2.1
      obtain ⟨gx, rfl⟩ : ∃ g, ax = some ⟨g, 0, none⟩ := by
        obtain ⟨g, cap, e⟩ := Joins.ownsRow_form HX.out (by omega)
        cases e
        exact ⟨g, rfl⟩
      have hcap := HX.out
      have i3 : (q : Int) - 1 = (p : Int) := by omega
      have i4 : IntKind.i64.wrap ((q : Int) - 1) = (p : Int) := by rw [i3]; exact IntWalk.i64_in _ (by omega)
      have i5 : (0 : Int) < (q : Int) := by omega
      clear hx HX
      go_wp2_with fail
      refine (KY.out _ d i (HI.out.below b3) (by simp; omega) hh).mono ?_
      rintro e wd ⟨rfl, Bd⟩
      have bd := Bd.size
      (try simp at bd)
      have b4 : Below wa.heap.size wa (wd.alloc (.cells #[.string s, .int .i64 ((A + d : Nat) : Int)] 37)) := (b3.trans (Bd.mono (by simp; omega))).alloc (by omega) _
      have hIx4 := (hIx3.below (Bd.mono (by simp; omega))).below ((Below.refl wb.heap.size wd).alloc (by omega) (.cells #[.string s, .int .i64 ((A + d : Nat) : Int)] 37))
      have hD := Has.fresh wd 37 #[.string s, .int .i64 ((A + d : Nat) : Int)]
      clear hR3 s0 s1 Bd b3 hIx3 KY
      go_wp2_with fail
      refine (KZ.out _ p (A + d) ys (HI.out.below b4) (by simp; omega) (by omega) (by omega) hp hr2).mono ?_
      rintro e we ⟨v3, rfl, hown3, Be⟩
      have be := Be.size
      (try simp at be)
      obtain ⟨az, cz, rfl⟩ := own_shape hown3
      have hIz : Ints we we.heap.size az (ofN ys) := own_intsOf (n := p) (c := cz) (by rw [ofN_cells]; exact hown3) (by omega) (ofN_range ys 260 (by omega) (fun x hx2 => by have := hmem x (List.mem_cons_of_mem _ hx2); omega))
      have b5 : Below wa.heap.size wa (we.alloc (.cells #[.string s, .int .i64 (c0 : Int)] 37)) := (b4.trans (Be.mono (by simp; omega))).alloc (by omega) _
      have bq : Below we.heap.size we (we.alloc (.cells #[.string s, .int .i64 (c0 : Int)] 37)) := (Below.refl _ _).alloc (Nat.le_refl _) _
      have hIx5 := (hIx4.below (Be.mono (by simp; omega))).below (bq.mono (by omega))
      have hIz5 := hIz.below bq
      have hcx : p + 1 ≤ cx := by
        rcases hcap.2 with ⟨hv, _⟩ | ⟨g, cap, cur, hv, _, _, hnc, _⟩
        · cases hv
        · cases hv; omega
      obtain ⟨bx, ox, ex, _, hcl⟩ := hIx5.2.2 (by simp [ofN])
      simp only [Option.some.injEq, Addr.mk.injEq] at ex
      obtain ⟨rfl, rfl, _⟩ := ex
      have xc := hcl 0 (by simp [ofN])
      simp [ofN] at xc
      have KS : Hid (∀ (a2 : Option Addr) (c2 : Nat), (p = 0 ∨ a2 = some ⟨gx, 1, none⟩) → Calls Try.prog 21 #[.slice az p cz, .slice a2 p c2] (we.alloc (.cells #[.string s, .int .i64 (c0 : Int)] 37)) fun e w' => e = .returned (.bool true) ∧ Below (we.alloc (.cells #[.string s, .int .i64 (c0 : Int)] 37)).heap.size (we.alloc (.cells #[.string s, .int .i64 (c0 : Int)] 37)) w') := hidden (fun a2 c2 h => by
        have hz2 : Ints (we.alloc (.cells #[.string s, .int .i64 (c0 : Int)] 37)) we.heap.size a2 (ofN ys) := by
          rcases h with h | rfl
          · have : ys = [] := List.eq_nil_of_length_eq_zero (by omega)
            subst this
            exact ⟨by simp [ofN], fun x hx => by simp [ofN] at hx, fun h0 => by simp [ofN] at h0⟩
          · exact (Ints.tail (i := (i : Int)) (by simpa [ofN] using hIx5)).mono (by omega)
        have := sameInts_any az a2 cz c2 we.heap.size (ofN ys) (ofN ys) _ hIz5 hz2
        rw [decide_eq_true rfl, ofN_len, hp] at this
        exact this)
      have hB := hidden (Ba.trans (b5.mono ba))
      have s5 : wa.heap.size ≤ (we.alloc (.cells #[.string s, .int .i64 (c0 : Int)] 37)).heap.size := b5.size
      clear hIz hIz5 hIx5 hIx4 hcl hown3 hcap hmem hr2 hh hadd hle b4 b5 bq Be hD KZ
      by_cases hd1 : cx = 1
      · subst hd1
        obtain rfl : p = 0 := by omega
        go_wp2_with fail
        refine (KS.out _ _ (by first | exact .inl rfl | exact .inl trivial | simp)).mono ?_
        rintro e wf ⟨rfl, Bf⟩
        have bf := Bf.size
        go_wp2_with fail
        refine (HS.out _).mono ?_
        rintro e wg ⟨rfl, Bg⟩
        go_wp2
        go_ret
        exact ⟨rfl, (hB.out.trans (Bf.mono (by omega))).trans (Bg.mono (by omega))⟩
      · have hd2 : ¬ (cx : Int) = 1 := by omega
        have hd3 : (1 : Int) ≤ (cx : Int) := by omega
        have hd4 : (p : Int) + 1 ≤ (cx : Int) := by omega
        go_wp2_with fail
        refine (KS.out _ _ (.inr rfl)).mono ?_
        rintro e wf ⟨rfl, Bf⟩
        have bf := Bf.size
        go_wp2_with fail
        refine (HS.out _).mono ?_
        rintro e wg ⟨rfl, Bg⟩
        go_wp2
        go_ret
        exact ⟨rfl, (hB.out.trans (Bf.mono (by omega))).trans (Bg.mono (by omega))⟩
  · have KG := hidden (fun (W : World) h1 h2 => hN a c wa.heap.size at0 n ls s W h1 h2 hs (by omega) (by omega) (by omega) (by omega) good)
    have KQ := hidden (fun (W : World) h1 h2 => specGetSyms_no a c wa.heap.size at0 n ls s W h1 h2 hs (by omega) (by omega) (by omega) (by omega) good)
    rw [hm] at KG KQ ⊢
    clear hY hG hN hm good
    go_wp2_with fail
    refine (KG.out _ (HI.out.below b1) (by simp)).mono ?_
    rintro e wb ⟨v, rfl, hown, Bb⟩
    have bb := Bb.size
    (try simp at bb)
    obtain ⟨ax, cx, rfl⟩ := own_shape hown
    have b2 : Below wa.heap.size wa (wb.alloc (.cells #[.string ⟨#[]⟩, .int .i64 0] 37)) := (b1.trans (Bb.mono (by simp))).alloc (by omega) _
    have hR2 := (hR1.below Bb (by simp)).alloc (.cells #[.string ⟨#[]⟩, .int .i64 0] 37)
    have r0 := hR2.cell 0
    have r1 := hR2.cell 1
    simp at r0 r1
    clear hown hR1 hR2 KG Bb b1
    go_wp2_with fail
    refine (KQ.out _ (HI.out.below b2) (by simp; omega)).mono ?_
    rintro e wc ⟨rfl, Bc⟩
    have bc := Bc.size
    (try simp at bc)
    have b3 : Below wa.heap.size wa (wc.alloc (.cells #[.string ⟨#[]⟩, .int .i64 0] 37)) := (b2.trans (Bc.mono (by simp; omega))).alloc (by omega) _
    clear r0 r1 Bc b2 KQ
    go_wp2_with fail
    refine (HS.out _).mono ?_
    rintro e wd ⟨rfl, Bd⟩
    go_wp2
    go_ret
    exact ⟨rfl, (Ba.trans (b3.mono ba)).trans (Bd.mono (by simp; omega))⟩
end Go.Proofs.Ytdfbpmkdmpdobaa
