/- Merged: I8D, I8E. -/
import Derived.Test.YtpdicijoohahaaaWW20
import Derived.Test.YtpdicijoohahaaaWW17
import Derived.Test.YtpdicijoohahaaaWW7
import Derived.Test.YtpdicijoohahaaaWW12
import Derived.Test.YtpdicijoohahaaaWW3
namespace Go.Proofs.Ytpdicijoohahaaa
set_option linter.unusedVariables false
set_option linter.unusedSimpArgs false
open Go.RowKit

theorem sizesOk_any (a a2 : Option Addr) (cap cap2 B g : Nat) (z : List Int) (n : Int) (w : World) (hz : Ints w B a z) (hB : B ≤ w.heap.size) (hl : z.length ≤ 1048576) (hg : g ≤ 1048576) (n1 : -9223372036854775808 ≤ n) (n2 : n ≤ 9223372036854775807) :
    Calls Try.prog 81 #[.agg #[.slice a z.length cap, .slice a2 g cap2], .int .i64 n] w fun e w' => e = .returned (.bool (szOk z g n)) ∧ Below w.heap.size w w' := by
  by_cases h : 1 ≤ n ∧ n ≤ 256 ∧ (z.length : Int) = n
  · obtain ⟨h1, h2, rfl⟩ := h
    exact sizesOk_yes a a2 cap cap2 B g z w hz hB hg (by omega) (by omega)
  · exact sizesOk_no a a2 cap cap2 B g z n w hz hB hl hg n1 n2 h
set_option maxHeartbeats 4000000 in
set_option maxRecDepth 100000 in
theorem invDecode_no (r0 : Value) (a0 a1 : Option Addr) (cap0 cap1 B G : Nat) (z : List Int) (n : Int) (w : World) (hr0 : r0 = .agg #[]) (hz0 : Ints w B a0 z) (hB : B ≤ w.heap.size) (hl0 : z.length ≤ 1048576) (hl1 : G ≤ 1048576) (n1 : -9223372036854775808 ≤ n) (n2 : n ≤ 9223372036854775807) (hsz : szOk z G n = false) :
    Calls Try.prog 79 #[r0, .agg #[.slice a0 z.length cap0, .slice a1 G cap1], .int .i64 n] w fun e w' => e = .returned (.tuple #[.slice none 0 0, .bool false]) ∧ Below w.heap.size w w' := by
  subst hr0
  obtain ⟨W2, hW2⟩ : ∃ W, W = ((w.alloc (.cells #[] 52)).alloc (.cells #[.slice a0 z.length cap0, .slice a1 G cap1] 54)) := ⟨_, rfl⟩
  have hR : Has W2 (w.heap.size + 1) 54 #[.slice a0 z.length cap0, .slice a1 G cap1] := by rw [hW2]; exact Has.freshAt (by simp) _ _
  have bb : Below w.heap.size w W2 := by rw [hW2]; exact ((Below.refl _ _).alloc (Nat.le_refl _) _).alloc (by simp) _
  have KS := hidden (sizesOk_any a0 a1 cap0 cap1 B G z n W2 (hz0.below (bb.mono hB)) (Nat.le_trans hB bb.size) hl0 hl1 n1 n2)
  rw [hsz] at KS
  have r0 := hR.cell 0
  have r1 := hR.cell 1
  simp at r0 r1
  obtain ⟨m, hm⟩ : ∃ m, z.length = m := ⟨_, rfl⟩
  rw [hm] at KS r0 hW2 ⊢
  have HB := hidden bb
  clear hR hm hz0 bb
  go_enter Try.func79, Try.ntmps79
  go_wp2_with (rw [← hW2]; refine KS.out.mono ?_; rintro e w4 ⟨rfl, b4⟩)
  have hb := bel_then b4 HB.out.size HB.out
  go_wp2
  go_ret2
  exact ⟨rfl, hb⟩
set_option maxHeartbeats 4000000 in
set_option maxRecDepth 100000 in
theorem invDecode_yes (r0 : Value) (b0 off0 : Nat) (a1 : Option Addr) (cap0 cap1 B m : Nat) (cs : List Nat) (gz : List Int) (w : World) (hr0 : r0 = .agg #[]) (hz0 : Ints w B (some ⟨b0, off0, none⟩) (ints cs)) (hz1 : Ints w B a1 gz) (hB : B ≤ w.heap.size) (hcap : gz.length ≤ cap1) (hm : cs.length = m) (hm1 : 1 ≤ m) (hm2 : m ≤ 256) (hs6 : cs.sum ≤ 600) (hgl : gz.length + last8 cs = cs.sum) (hsz : szOk (ints cs) gz.length m = true) (hform : ∀ a, a1 = some a → a.spot = none) :
    Calls Try.prog 79 #[r0, .agg #[.slice (some ⟨b0, off0, none⟩) m cap0, .slice a1 gz.length cap1], .int .i64 m] w fun e w' => ∃ v, e = .returned (.tuple #[v, .bool (uiOk (ints cs) gz m)]) ∧ w'.ownsRow w.heap.size 3 1 v (uiL (ints cs) gz m).length (intsV (uiL (ints cs) gz m)) ∧ Below w.heap.size w w' := by
  subst hr0
  obtain ⟨W2, hW2⟩ : ∃ W, W = ((w.alloc (.cells #[] 52)).alloc (.cells #[.slice (some ⟨b0, off0, none⟩) m cap0, .slice a1 gz.length cap1] 54)) := ⟨_, rfl⟩
  have hR : Has W2 (w.heap.size + 1) 54 #[.slice (some ⟨b0, off0, none⟩) m cap0, .slice a1 gz.length cap1] := by rw [hW2]; exact Has.freshAt (by simp) _ _
  have bb : Below w.heap.size w W2 := by rw [hW2]; exact ((Below.refl _ _).alloc (Nat.le_refl _) _).alloc (by simp) _
  have hs2 : w.heap.size + 2 ≤ W2.heap.size := by rw [hW2]; simp
  have KS := hidden (sizesOk_any (some ⟨b0, off0, none⟩) a1 cap0 cap1 B gz.length (ints cs) m W2 (hz0.below (bb.mono hB)) (Nat.le_trans hB bb.size) (by rw [ints_len]; omega) (by omega) (by omega) (by omega))
  rw [hsz, ints_len, hm] at KS
  obtain ⟨b', off', e, hb0, hc0⟩ := hz0.2.2 (by rw [ints_len]; omega)
  obtain ⟨rfl, rfl⟩ : b0 = b' ∧ off0 = off' := by simpa using e
  have HC0 : Hid (∀ W, Below w.heap.size w W → ∀ i, i < m → W.cell? ⟨b0, off0 + i, none⟩ = some (.int .i64 ((cs.getD i 0 : Nat) : Int))) := hidden (fun W hW i hi => by
    have := hc0 i (by rw [ints_len]; omega)
    rw [ints_get] at this
    exact (hW.cell (p := ⟨b0, off0 + i, none⟩) (by simp; omega)).trans this)
  have HST : Hid (uiA (ints cs) gz m = decR 0 cs gz) := hidden (uiA_yes hsz)
  have hne : 0 < cs.length := by omega
  have HLA := hidden (dk_last cs gz hne)
  have HDK := hidden (fun k h => dk_step cs gz k h)
  have HOF := hidden (fun k h => off8_le cs k h)
  have HOS := hidden (fun k h => off8_succ cs k h)
  have HOL := hidden (off8_last cs hne)
  have HSI : Hid (∀ W, Below w.heap.size w W → ∀ b off f c, a1 = some ⟨b, off, none⟩ → f + c ≤ gz.length → Ints W B (some ⟨b, off + f, none⟩) ((gz.drop f).take c)) := hidden (fun W hW b off f c e1 h => by
    rw [← seg_take gz f c h]
    rcases Nat.eq_zero_or_pos gz.length with h0 | h0
    · have : gz = [] := List.length_eq_zero_iff.1 h0
      rw [this]; simpa using ints_nil W B _
    · obtain ⟨b2, off2, e2, hb2, hc2⟩ := hz1.2.2 h0
      rw [e1] at e2
      obtain ⟨rfl, rfl⟩ : b = b2 ∧ off = off2 := by simpa using e2
      exact seg_ints (by omega) hz1.2.1 hb2 (fun i hi => (hW.cell (p := ⟨b, off + i, none⟩) (by simp; omega)).trans (hc2 i hi)) h)
  have HNO : Hid (a1 = none → gz.length = 0) := hidden (fun e1 => by
    rcases Nat.eq_zero_or_pos gz.length with h0 | h0
    · exact h0
    · obtain ⟨b2, off2, e2, _⟩ := hz1.2.2 h0
      rw [e1] at e2; cases e2)
  have hl8 : cs.getD (m - 1) 0 = last8 cs := by rw [← hm]; rfl
  rw [hm] at HLA HDK HOF HOS HOL
  rw [hl8] at HLA
  have cp := HC0.out W2 bb (m - 1) (by omega)
  rw [hl8] at cp
  obtain ⟨l, hl⟩ : ∃ l, last8 cs = l := ⟨_, rfl⟩
  obtain ⟨S, hS⟩ : ∃ S, cs.sum = S := ⟨_, rfl⟩
  obtain ⟨G, hG⟩ : ∃ G, gz.length = G := ⟨_, rfl⟩
  have HG := hidden hG
  have HM := hidden hm
  rw [hl] at cp hgl HOF HOL HLA
  rw [hS] at hgl hs6 HOF HOL
  rw [hG] at hgl hcap KS hR hW2 HSI HNO ⊢
  obtain ⟨p, hp0⟩ : ∃ p, m = p + 1 := ⟨m - 1, by omega⟩
  have hp : (m : Int) - 1 = (p : Int) := by omega
  have hq : (m : Int) - 2 = (p : Int) - 1 := by omega
  have hp2 : m - 1 = p := by omega
  rw [hp2] at cp HLA HOL
  have hp3 : (p : Int) < (m : Int) := by omega
  have HP := hidden hp0
  have HB := hidden bb
  have HR := hidden hR
  have r0 := hR.cell 0
  have r1 := hR.cell 1
  simp at r0 r1
  clear hz0 hz1 hc0 e hsz hne hG hS hl hl8 hp0 hm hp2 bb hR
  go_enter Try.func79, Try.ntmps79
  go_wp2_with fail
  rw [← hW2]
  refine KS.out.mono ?_
  rintro e w4 ⟨rfl, b4⟩
  have hb4 := bel_then b4 HB.out.size HB.out
  have hR4 := HR.out.below b4 HR.out.lt
  have hs4 : w.heap.size + 2 ≤ w4.heap.size := Nat.le_trans hs2 b4.size
  have cp4 := HC0.out w4 hb4 p (by omega)
  have cpE : (cs.getD p 0 : Nat) = l := by
    have h1 := HC0.out W2 HB.out p (by omega)
    rw [cp] at h1
    injection h1 with h1; injection h1 with _ h1; omega
  have hR4b := hR4.alloc (.cells #[.int .i64 (p : Int)] 3)
  have hb4b : Below w.heap.size w (w4.alloc (.cells #[.int .i64 (p : Int)] 3)) := hb4.alloc (by omega) _
  rw [cpE] at cp4
  have KR := hidden (repeat_any l p w4.heap.size 3 _ (by omega) (Has.fresh w4 3 #[.int .i64 (p : Int)]))
  have hsz5 : w4.heap.size + 1 = (w4.alloc (.cells #[.int .i64 (p : Int)] 3)).heap.size := by simp
  obtain ⟨W5, hW5⟩ : ∃ W5, w4.alloc (.cells #[.int .i64 (p : Int)] 3) = W5 := ⟨_, rfl⟩
  rw [hW5] at KR hR4b hb4b hsz5
  have cp4b := HC0.out W5 hb4b p (by omega)
  rw [cpE] at cp4b
  have e0 := hR4b.cell 0
  simp at e0
  clear b4 cpE cp r0 r1 hW2 hs2
  go_wp2_with fail
  refine KR.out.mono ?_
  rintro e w5 ⟨g5, rfl, hO5, b5⟩
  have hb5 := bel_then b5 hb4b.size hb4b
  have hR5 := hR4b.below b5 hR4b.lt
  have hs5 : w.heap.size + 2 ≤ w5.heap.size := by have := b5.size; omega
  have hO5b := Joins.ownsRow_le hO5 (show w.heap.size + 2 ≤ W5.heap.size by omega)
  have e0 := hR5.cell 0
  have e1 := hR5.cell 1
  simp at e0 e1
  clear b5 hO5 hR4 hR4b hb4 hb4b cp4 cp4b KR hs4 hW5 hsz5
  go_wp2
  go_loopw [8, 9, 10, 11, 12, 43] (fun sl se sy _ _ _ wr => ∃ (q g1 ln c1 : Nat) (D : List Nat), q ≤ p ∧ sy = .int .i64 ((q : Int) - 1) ∧ se = .int .i64 ((off8 cs q : Nat) : Int) ∧ sl = .slice (some ⟨g1, 0, none⟩) ln c1 ∧ Hid (dk cs gz q = some D) ∧ Hid (D.length = ln) ∧ Hid (ln + off8 cs q = S) ∧ ln ≤ 600 ∧ wr.ownsRow (w.heap.size + 2) 3 1 (.slice (some ⟨g1, 0, none⟩) ln c1) ln (natsL D) ∧ Has wr (w.heap.size + 1) 54 #[.slice (some ⟨b0, off0, none⟩) m cap0, .slice a1 G cap1] ∧ Below w.heap.size w wr ∧ w.heap.size + 2 ≤ wr.heap.size) (fun _ _ sy _ _ _ _ => (intOf sy + 1).toNat)
  case atStart => exact ⟨p, g5, l, l, List.replicate l p, by omega, by rw [← hq], by rw [show off8 cs p = G by have := HOL.out; omega], rfl, HLA, hidden (by simp), hidden (by have := HOL.out; omega), by omega, hO5b, hR5, hb5, hs5⟩
  case round =>
    obtain ⟨q, g1, ln, c1, D, hqp, hsy, rfl, rfl, HD, HDl, HLN, hln6, hO3, hR3, hb3, hs3⟩ := hrel
    clear hO5b hR5 hb5 e0 e1
    have hDw : w.heap.size ≤ w.heap.size + 2 := by omega
    have e0 := hR3.cell 0
    have e1 := hR3.cell 1
    simp at e0 e1
    rcases Nat.eq_zero_or_pos q with rfl | hq0
    · have ez : ((0 : Nat) : Int) - 1 = -1 := rfl
      rw [ez] at hsy
      subst hsy
      have HF : Hid (uiA (ints cs) gz m = some D) := hidden (by rw [HST.out, ← dk_zero]; exact HD.out)
      go_wp2
      go_ret2
      exact ⟨_, by rw [(ui_some HF.out).1]; rfl, by rw [(ui_some HF.out).2, intsV_ints, ints_len, HDl.out]; exact Joins.ownsRow_le hO3 hDw, hb3⟩
    · obtain ⟨x, rfl⟩ : ∃ x, q = x + 1 := ⟨q - 1, by omega⟩
      have ex : (((x + 1 : Nat) : Int) - 1) = (x : Int) := by omega
      rw [ex] at hsy
      subst hsy
      have hxm : (x : Int) < (m : Int) := by omega
      have cx := HC0.out wr hb3 x (by omega)
      have HOS9 := hidden (HOS.out x (by omega))
      have HOF9 := hidden (HOF.out (x + 1) (by have := HP.out; omega))
      have HDS := hidden (HDK.out x (by have := HP.out; omega))
      obtain ⟨c, hc⟩ : ∃ c, cs.getD x 0 = c := ⟨_, rfl⟩
      rw [hc] at cx HOS9 HDS
      obtain ⟨f, hf⟩ : ∃ f, off8 cs x = f := ⟨_, rfl⟩
      rw [hf] at HOS9 HDS
      have HFX : Hid (off8 cs x = f) := hidden hf
      have HLN9 : Hid (ln + (f + c) = S) := hidden (by have := HLN.out; rw [HOS9.out] at this; exact this)
      have hfc : f + c ≤ G := by have := HOF9.out; rw [HOS9.out] at this; omega
      rw [HOS9.out]
      have hcc : (((f + c : Nat) : Int)) = (f : Int) + (c : Int) := by omega
      rw [hcc]
      have hsub : (f : Int) + (c : Int) - (c : Int) = (f : Int) := by omega
      have HSL : Hid (((gz.drop f).take c).length = c) := hidden (by rw [List.length_take, List.length_drop, HG.out]; omega)
      have KI0 := hidden (fun a2 c2 (h : Ints wr B a2 ((gz.drop f).take c)) => inserted_any (w.heap.size + 2) g1 ln c1 B x D a2 c2 ((gz.drop f).take c) wr hO3 hs3 HDl.out h (by omega) hln6 (by rw [HSL.out]; omega) (by omega))
      have KI : Hid (∀ a2 c2, Ints wr B a2 ((gz.drop f).take c) → Calls Try.prog 83 #[.slice (some ⟨g1, 0, none⟩) ln c1, .int .i64 x, .slice a2 c c2] wr fun e w' =>
          ((∃ R g2 c2, insF x D ((gz.drop f).take c) = some R ∧ e = .returned (.tuple #[.slice (some ⟨g2, 0, none⟩) R.length c2, .bool true]) ∧ w'.ownsRow (w.heap.size + 2) 3 1 (.slice (some ⟨g2, 0, none⟩) R.length c2) R.length (natsL R)) ∨ (insF x D ((gz.drop f).take c) = none ∧ e = .returned (.tuple #[.slice none 0 0, .bool false]))) ∧ Below (w.heap.size + 2) wr w') := hidden (fun a2 c2 h => by
        have := KI0.out a2 c2 h
        rwa [HSL.out] at this)
      have hfI : (f : Int) ≤ (f : Int) + (c : Int) := by omega
      have hfJ : (f : Int) + (c : Int) ≤ (cap1 : Int) := by omega
      have hsn : ((f : Int) + (c : Int)).toNat - f = c := by omega
      have hsn2 : f + c - f = c := by omega
      clear KI0 hc hf
      cases a1 with
      | none =>
        have hG0 : G = 0 := HNO.out rfl
        have HNI : Hid (gz = []) := hidden (List.length_eq_zero_iff.1 (by rw [HG.out]; exact hG0))
        clear hG0
        go_wp2_with fail
        refine (KI.out _ _ (by rw [HNI.out]; simpa using ints_nil wr B _)).mono ?_
        rintro e w5 ⟨hpost, b5⟩
        have hb5 : Below w.heap.size w w5 := hb3.trans (b5.mono hDw)
        have hs5 : w.heap.size + 2 ≤ w5.heap.size := Nat.le_trans hs3 b5.size
        have hR5 := hR3.below b5 (by omega)
        have e0 := hR5.cell 0
        have e1 := hR5.cell 1
        simp at e0 e1
        rcases hpost with ⟨R, g6, c6, hI, rfl, hO6⟩ | ⟨hI, rfl⟩
        · have HD6 : Hid (dk cs gz x = some R) := hidden (by rw [HDS.out, HD.out, Option.bind_some]; exact hI)
          have HL6 : Hid (R.length + f = S) := hidden (by have h1 := insF_len hI; have h2 := HLN9.out; have h3 := HSL.out; have h4 := HDl.out; rw [h3] at h1; omega)
          obtain ⟨l6, hl6⟩ : ∃ l6, R.length = l6 := ⟨_, rfl⟩
          have HLL := hidden hl6
          rw [hl6] at hO6 HL6 ⊢
          clear hl6 hI b5 hb3 hR3 KI
          go_wp2
          go_roundw
          case rel => first | exact ⟨x, g6, l6, c6, R, by omega, rfl, by rw [HFX.out], rfl, HD6, HLL, hidden (by rw [HFX.out]; exact HL6.out), by have := HL6.out; omega, hO6, hR5, hb5, hs5⟩ | ((repeat apply Exists.intro); refine ⟨?_, rfl⟩; exact ⟨x, g6, l6, c6, R, by omega, rfl, by rw [HFX.out], rfl, HD6, HLL, hidden (by rw [HFX.out]; exact HL6.out), by have := HL6.out; omega, hO6, hR5, hb5, hs5⟩)
          case measure => first | (simp [intOf]; done) | (simp [intOf]; omega)
        · have HF : Hid (uiA (ints cs) gz m = none) := hidden (by rw [HST.out, ← dk_zero]; exact dk_none cs gz x (by have := HM.out; omega) (by rw [HDS.out, HD.out, Option.bind_some]; exact hI))
          clear hI b5 hb3 hR3 KI
          go_wp2
          go_ret2
          exact ⟨_, by rw [(ui_none HF.out).1]; rfl, by rw [(ui_none HF.out).2]; exact World.ownsRow_nil _ _ _ _, hb5⟩
      | some a =>
        obtain ⟨b, off, spot⟩ := a
        obtain rfl : spot = none := hform _ rfl
        by_cases hcf : cap1 = f
        · have hc0 : c = 0 := by omega
          subst hc0
          subst hcf
          go_wp2_with fail
          refine (KI.out _ _ (by simpa using ints_nil wr B _)).mono ?_
          rintro e w5 ⟨hpost, b5⟩
          have hb5 : Below w.heap.size w w5 := hb3.trans (b5.mono hDw)
          have hs5 : w.heap.size + 2 ≤ w5.heap.size := Nat.le_trans hs3 b5.size
          have hR5 := hR3.below b5 (by omega)
          have e0 := hR5.cell 0
          have e1 := hR5.cell 1
          simp at e0 e1
          rcases hpost with ⟨R, g6, c6, hI, rfl, hO6⟩ | ⟨hI, rfl⟩
          · have HD6 : Hid (dk cs gz x = some R) := hidden (by rw [HDS.out, HD.out, Option.bind_some]; exact hI)
            have HL6 : Hid (R.length + cap1 = S) := hidden (by have h1 := insF_len hI; have h2 := HLN9.out; have h3 := HSL.out; have h4 := HDl.out; rw [h3] at h1; omega)
            obtain ⟨l6, hl6⟩ : ∃ l6, R.length = l6 := ⟨_, rfl⟩
            have HLL := hidden hl6
            rw [hl6] at hO6 HL6 ⊢
            clear hl6 hI b5 hb3 hR3 KI
            go_wp2
            go_roundw
            case rel => first | exact ⟨x, g6, l6, c6, R, by omega, rfl, by rw [HFX.out], rfl, HD6, HLL, hidden (by rw [HFX.out]; exact HL6.out), by have := HL6.out; omega, hO6, hR5, hb5, hs5⟩ | ((repeat apply Exists.intro); refine ⟨?_, rfl⟩; exact ⟨x, g6, l6, c6, R, by omega, rfl, by rw [HFX.out], rfl, HD6, HLL, hidden (by rw [HFX.out]; exact HL6.out), by have := HL6.out; omega, hO6, hR5, hb5, hs5⟩)
            case measure => first | (simp [intOf]; done) | (simp [intOf]; omega)
          · have HF : Hid (uiA (ints cs) gz m = none) := hidden (by rw [HST.out, ← dk_zero]; exact dk_none cs gz x (by have := HM.out; omega) (by rw [HDS.out, HD.out, Option.bind_some]; exact hI))
            clear hI b5 hb3 hR3 KI
            go_wp2
            go_ret2
            exact ⟨_, by rw [(ui_none HF.out).1]; rfl, by rw [(ui_none HF.out).2]; exact World.ownsRow_nil _ _ _ _, hb5⟩
        · have hG1 : 0 < cap1 := by omega
          go_wp2_with fail
          refine (KI.out _ _ (HSI.out wr hb3 _ _ f c rfl hfc)).mono ?_
          rintro e w5 ⟨hpost, b5⟩
          have hb5 : Below w.heap.size w w5 := hb3.trans (b5.mono hDw)
          have hs5 : w.heap.size + 2 ≤ w5.heap.size := Nat.le_trans hs3 b5.size
          have hR5 := hR3.below b5 (by omega)
          have e0 := hR5.cell 0
          have e1 := hR5.cell 1
          simp at e0 e1
          rcases hpost with ⟨R, g6, c6, hI, rfl, hO6⟩ | ⟨hI, rfl⟩
          · have HD6 : Hid (dk cs gz x = some R) := hidden (by rw [HDS.out, HD.out, Option.bind_some]; exact hI)
            have HL6 : Hid (R.length + f = S) := hidden (by have h1 := insF_len hI; have h2 := HLN9.out; have h3 := HSL.out; have h4 := HDl.out; rw [h3] at h1; omega)
            obtain ⟨l6, hl6⟩ : ∃ l6, R.length = l6 := ⟨_, rfl⟩
            have HLL := hidden hl6
            rw [hl6] at hO6 HL6 ⊢
            clear hl6 hI b5 hb3 hR3 KI
            go_wp2
            go_roundw
            case rel => first | exact ⟨x, g6, l6, c6, R, by omega, rfl, by rw [HFX.out], rfl, HD6, HLL, hidden (by rw [HFX.out]; exact HL6.out), by have := HL6.out; omega, hO6, hR5, hb5, hs5⟩ | ((repeat apply Exists.intro); refine ⟨?_, rfl⟩; exact ⟨x, g6, l6, c6, R, by omega, rfl, by rw [HFX.out], rfl, HD6, HLL, hidden (by rw [HFX.out]; exact HL6.out), by have := HL6.out; omega, hO6, hR5, hb5, hs5⟩)
            case measure => first | (simp [intOf]; done) | (simp [intOf]; omega)
          · have HF : Hid (uiA (ints cs) gz m = none) := hidden (by rw [HST.out, ← dk_zero]; exact dk_none cs gz x (by have := HM.out; omega) (by rw [HDS.out, HD.out, Option.bind_some]; exact hI))
            clear hI b5 hb3 hR3 KI
            go_wp2
            go_ret2
            exact ⟨_, by rw [(ui_none HF.out).1]; rfl, by rw [(ui_none HF.out).2]; exact World.ownsRow_nil _ _ _ _, hb5⟩
end Go.Proofs.Ytpdicijoohahaaa
namespace Go.Proofs.Ytpdicijoohahaaa
set_option linter.unusedVariables false
set_option linter.unusedSimpArgs false
open Go.RowKit

/-- decode, for all arguments. -/
theorem invDecode_any (r0 : Value) (a0 a1 : Option Addr) (cap0 cap1 B : Nat) (z gz : List Int) (n : Int) (w : World) (hr0 : r0 = .agg #[]) (hz0 : Ints w B a0 z) (hz1 : Ints w B a1 gz) (hB : B ≤ w.heap.size) (hl0 : z.length ≤ 1048576) (hl1 : gz.length ≤ 1048576) (hcap : gz.length ≤ cap1) (hform : ∀ a, a1 = some a → a.spot = none) (n1 : -9223372036854775808 ≤ n) (n2 : n ≤ 9223372036854775807) :
    Calls Try.prog 79 #[r0, .agg #[.slice a0 z.length cap0, .slice a1 gz.length cap1], .int .i64 n] w fun e w' => ∃ v, e = .returned (.tuple #[v, .bool (uiOk z gz n)]) ∧ w'.ownsRow w.heap.size 3 1 v (uiL z gz n).length (intsV (uiL z gz n)) ∧ Below w.heap.size w w' := by
  by_cases h : szOk z gz.length n = true
  · obtain ⟨cs, m, rfl, rfl, e1, e2, e3, e4, e5, e6⟩ := szOk_nats h
    obtain ⟨b, off, rfl, hb, hc⟩ := hz0.2.2 (by rw [ints_len]; omega)
    have := invDecode_yes r0 b off a1 cap0 cap1 B m cs gz w hr0 hz0 hz1 hB hcap e1 e2 e3 e4 e5 h hform
    rw [ints_len, e1]
    exact this
  · have hno := bool_false h
    have hu := ui_none (uiA_no hno)
    refine (invDecode_no r0 a0 a1 cap0 cap1 B gz.length z n w hr0 hz0 hB hl0 hl1 n1 n2 hno).mono ?_
    rintro e w' ⟨rfl, hb⟩
    exact ⟨_, by rw [hu.1], by rw [hu.2]; exact World.ownsRow_nil _ _ _ _, hb⟩
theorem inv_dmeth (v : Value) (w : World) : (Go.method 224 52 v "loop.example/g00674/impl.decode").run Try.prog w = .ok (79, v) w := by kernel_rfl
set_option maxHeartbeats 1000000 in
set_option maxRecDepth 100000 in
theorem decodedInv_any (a0 a1 : Option Addr) (cap0 cap1 B : Nat) (z gz : List Int) (n : Int) (w : World) (hz0 : Ints w B a0 z) (hz1 : Ints w B a1 gz) (hB : B ≤ w.heap.size) (hl0 : z.length ≤ 1048576) (hl1 : gz.length ≤ 1048576) (hcap : gz.length ≤ cap1) (hform : ∀ a, a1 = some a → a.spot = none) (n1 : -9223372036854775808 ≤ n) (n2 : n ≤ 9223372036854775807) :
    Calls Try.prog 45 #[.iface 52 (.agg #[]), .agg #[.slice a0 z.length cap0, .slice a1 gz.length cap1], .int .i64 n] w fun e w' => ∃ v, e = .returned (.tuple #[v, .bool (uiOk z gz n)]) ∧ w'.ownsRow w.heap.size 3 1 v (uiL z gz n).length (intsV (uiL z gz n)) ∧ Below w.heap.size w w' := by
  have bb : Below w.heap.size w (w.alloc (.cells #[.slice a0 z.length cap0, .slice a1 gz.length cap1] 54)) := (Below.refl _ _).alloc (Nat.le_refl _) _
  have hR := Has.fresh w 54 #[.slice a0 z.length cap0, .slice a1 gz.length cap1]
  have hX : (w.alloc (.cells #[.slice a0 z.length cap0, .slice a1 gz.length cap1] 54)).heap.size = w.heap.size + 1 := by simp
  have KE := hidden (invDecode_any (.agg #[]) a0 a1 cap0 cap1 B z gz n _ rfl (hz0.below (bb.mono hB)) (hz1.below (bb.mono hB)) (by rw [hX]; omega) hl0 hl1 hcap hform n1 n2)
  rw [hX] at KE
  have hme := inv_dmeth (.agg #[])
  obtain ⟨b, hb⟩ : ∃ b, uiOk z gz n = b := ⟨_, rfl⟩
  obtain ⟨Y, hY⟩ : ∃ Y, uiL z gz n = Y := ⟨_, rfl⟩
  rw [hb, hY] at KE ⊢
  obtain ⟨p, hp⟩ : ∃ p, z.length = p := ⟨_, rfl⟩
  obtain ⟨q, hq⟩ : ∃ q, gz.length = q := ⟨_, rfl⟩
  rw [hp, hq] at KE hR bb ⊢
  have e0 := hR.cell 0
  have e1 := hR.cell 1
  simp at e0 e1
  clear hz0 hz1 hX hR hb hY hp hq hl0 hl1 hcap hform
  go_enter Try.func45, Try.ntmps45
  go_wp2_with fail
  refine KE.out.mono ?_
  rintro e w2 ⟨v, rfl, hown, b2⟩
  have HO := hidden (Joins.ownsRow_le hown (Nat.le_succ _))
  replace bb := bb.trans (b2.mono (by omega))
  clear b2 hown
  go_wp2
  go_ret2
  exact ⟨_, rfl, HO.out, bb⟩
set_option maxHeartbeats 1000000 in
set_option maxRecDepth 100000 in
theorem implUnInv_any (a0 a1 : Option Addr) (cap0 cap1 B : Nat) (z gz : List Int) (n : Int) (w : World) (hz0 : Ints w B a0 z) (hz1 : Ints w B a1 gz) (hB : B ≤ w.heap.size) (hl0 : z.length ≤ 1048576) (hl1 : gz.length ≤ 1048576) (hcap : gz.length ≤ cap1) (hform : ∀ a, a1 = some a → a.spot = none) (n1 : -9223372036854775808 ≤ n) (n2 : n ≤ 9223372036854775807) :
    Calls Try.prog 15 #[.slice a0 z.length cap0, .slice a1 gz.length cap1, .int .i64 n] w fun e w' => ∃ v, e = .returned (.tuple #[v, .bool (uiOk z gz n)]) ∧ w'.ownsRow w.heap.size 3 1 v (uiL z gz n).length (intsV (uiL z gz n)) ∧ Below w.heap.size w w' := by
  have KE := hidden (decodedInv_any a0 a1 cap0 cap1 B z gz n w hz0 hz1 hB hl0 hl1 hcap hform n1 n2)
  obtain ⟨b, hb⟩ : ∃ b, uiOk z gz n = b := ⟨_, rfl⟩
  obtain ⟨Y, hY⟩ : ∃ Y, uiL z gz n = Y := ⟨_, rfl⟩
  rw [hb, hY] at KE ⊢
  obtain ⟨p, hp⟩ : ∃ p, z.length = p := ⟨_, rfl⟩
  obtain ⟨q, hq⟩ : ∃ q, gz.length = q := ⟨_, rfl⟩
  rw [hp, hq] at KE ⊢
  clear hz0 hz1 hb hY hp hq hl0 hl1 hcap hform
  go_enter Try.func15, Try.ntmps15
  go_wp2_with fail
  refine KE.out.mono ?_
  rintro e w2 ⟨v, rfl, hown, b2⟩
  go_wp2
  go_ret2
  exact ⟨_, rfl, hown, b2⟩
end Go.Proofs.Ytpdicijoohahaaa
