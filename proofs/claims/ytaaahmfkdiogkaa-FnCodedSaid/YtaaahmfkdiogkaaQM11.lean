/- Merged: C4, C4B, C4G, C4H, C4I. -/
import Derived.Test.YtaaahmfkdiogkaaQM5
import Derived.Test.YtaaahmfkdiogkaaQM4
import Derived.Maps.AppendAt
import Derived.OwnWalk
import Derived.Deep.RegionHeld3
import Derived.RegionTactic
import Derived.ChangeAlike
import Derived.Deep.QuietTactic
import Derived.BigQuiet
namespace Go.Proofs.Ytaaahmfkdiogkaa
set_option linter.unusedVariables false
set_option linter.unusedSimpArgs false
open Go.RowKit

theorem ordF_unf (ls : List Int) : ordF ls = ordU ls.length (lnF ls) 20 := rfl
set_option maxHeartbeats 2000000 in
set_option maxRecDepth 100000 in
theorem specOrder_yes (a : Option Addr) (cap B : Nat) (ls : List Int) (w : World) (hz : Ints w B a ls) (hB : B ≤ w.heap.size) (hok : lOk ls = true) :
    Calls Try.prog 139 #[.slice a ls.length cap] w fun e w' => ∃ v, e = .returned v ∧ w'.ownsRow w.heap.size 3 1 v ls.length (natsL (ordF ls)) ∧ Below w.heap.size w w' := by
  obtain ⟨i0, hi, hz0, hz1, hz2⟩ := info_parts Try.infoInt
  have hr := lOk_range hok
  have K1 := hidden (specLensOk_any a cap B ls w hz)
  rw [hok] at K1
  have HLEN := hidden (ordF_len hr)
  have HLN : Hid (∀ s, s < ls.length → ls.getD s 0 = (lnF ls s : Int)) := hidden (fun s hs => lnF_int hr s hs)
  have HO : Hid (ordF ls = ordU ls.length (lnF ls) 20) := hidden rfl
  obtain ⟨n, hn⟩ : ∃ n, ls.length = n := ⟨_, rfl⟩
  have hn1 : 1 ≤ n := by rw [← hn]; exact hr.1
  have hn2 : n ≤ 260 := by rw [← hn]; exact hr.2.1
  obtain ⟨b, off, rfl, hb, hc⟩ := hz.2.2 (by omega)
  have HC := hidden hc
  obtain ⟨l, hl⟩ : ∃ l, lnF ls = l := ⟨_, rfl⟩
  rw [hn] at K1 HLEN HLN HC HO ⊢
  rw [hl] at HLN HO
  have hbw : b < w.heap.size := by omega
  clear hz hr hn hc hok hl
  go_enter Try.func139, Try.ntmps139
  go_wp2_with fail
  refine K1.out.mono ?_
  rintro e w' ⟨rfl, rfl⟩
  go_wp2
  go_loopw [3, 4] (fun v sn wr => ∃ m : Nat, m ≤ 20 ∧ sn = .int .i64 ((m : Int) + 1) ∧ wr.ownsRow w'.heap.size 3 1 v (ordU n l m).length (natsL (ordU n l m)) ∧ Below w'.heap.size w' wr) (fun _ sn _ => 21 - (intOf sn).toNat)
  case atStart => exact ⟨0, Nat.zero_le _, rfl, World.ownsRow_nil _ _ _ _, Below.refl _ _⟩
  case round =>
    obtain ⟨m, hm, rfl, hown, hbl⟩ := hrel
    by_cases hm20 : m < 20
    · have hmI : (m : Int) + 1 ≤ 20 := by omega
      have e0 : ordU n l m ++ lenIs n l (m + 1) 0 = ordU n l m := by simp [lenIs]
      go_wp2
      go_loopw [3, 5] (fun v si wx => ∃ i : Nat, i ≤ n ∧ si = .int .i64 i ∧ wx.ownsRow w'.heap.size 3 1 v (ordU n l m ++ lenIs n l (m + 1) i).length (natsL (ordU n l m ++ lenIs n l (m + 1) i)) ∧ Below w'.heap.size w' wx) (fun _ si _ => n - (intOf si).toNat)
      case atStart => exact ⟨0, Nat.zero_le _, rfl, by rw [e0]; exact hown, hbl⟩
      case round =>
        obtain ⟨i, hi1, rfl, hown1, hbl1⟩ := hrel
        have hsz := hbl1.size
        by_cases hlt : i < n
        · have ck := (hbl1.cell (p := ⟨b, off + i, none⟩) hbw).trans (HC.out i hlt)
          rw [HLN.out i hlt] at ck
          have hP := ordP_length n l m i (by omega)
          obtain ⟨P, hPe⟩ : ∃ P, ordU n l m ++ lenIs n l (m + 1) i = P := ⟨_, rfl⟩
          rw [hPe] at hown1 hP
          by_cases he : l i = m + 1
          · have heI : ((l i : Int) == (m : Int) + 1) = true := by rw [beq_iff_eq]; omega
            have HN : Hid (ordU n l m ++ lenIs n l (m + 1) (i + 1) = P ++ [i]) := hidden (by rw [lenIs_succ, if_pos he, ← List.append_assoc, hPe])
            have hPl : P.length < n := by
              have := ordP_length n l m (i + 1) (by omega)
              rw [HN.out] at this; simp at this; omega
            obtain ⟨p, hp⟩ : ∃ p, P.length = p := ⟨_, rfl⟩
            rw [hp] at hown1 hPl
            have HPL := hidden hp
            clear hPe he hP hp
            go_wp2_with (at_builtin; refine wpList_append_own_at _ rfl _ _ 24 rfl w'.heap.size 3 i0 (.int .i64 0) 1 8 Try.underlying24 hi hz0 hz1 hz2 rfl (by decide) _ _ _ rfl (hown1.alloc _) ⟨wr.heap.size, 0, none⟩ 1 1 [.int .i64 (i : Int)] rfl rfl ?ca2 ?ca3 ?ca4 ?ca5 ?ca6 ?_)
            case ca2 => exact cell_one _ _ _
            case ca3 => exact fun u hu => by simp at hu; subst hu; rfl
            case ca4 => unfold maxLen; omega
            case ca5 => omega
            case ca6 => simp; omega
            intro v3 w3 hown3 hgrow _ _
            have hbl3 : Below w'.heap.size w' w3 := (hbl1.alloc (by omega) _).grown hgrow (by simp; omega) (fun b hb => (hown1.lt b hb).1)
            have hownN : w3.ownsRow w'.heap.size 3 1 v3 (P ++ [i]).length (natsL (P ++ [i])) := by rw [natsL_append, List.length_append, HPL.out]; exact hown3
            clear hown3 hgrow hown1 hbl1
            go_wp2
            go_roundw
            case rel => exact ⟨i + 1, by omega, by go_num, by rw [HN.out]; exact hownN, hbl3⟩
            case measure => simp [intOf]; omega
          · have heI : ((l i : Int) == (m : Int) + 1) = false := by rw [beq_eq_false_iff_ne]; omega
            have HN : Hid (ordU n l m ++ lenIs n l (m + 1) (i + 1) = P) := hidden (by rw [lenIs_succ, if_neg he, hPe])
            clear hPe he hP
            go_wp2
            go_roundw
            case rel => exact ⟨i + 1, by omega, by go_num, by rw [HN.out]; exact hown1, hbl1⟩
            case measure => simp [intOf]; omega
        · have hin : i = n := by omega
          subst hin
          go_wp2
          refine ⟨⟨m + 1, by omega, by go_num, hown1, hbl1⟩, by simp [intOf]; omega⟩
    · have hm2 : m = 20 := by omega
      have HE : ordU n l m = ordF ls := by rw [HO.out, hm2]
      rw [HE, HLEN.out] at hown
      have hmI : ¬ (m : Int) + 1 ≤ 20 := by omega
      clear HE HO hm2
      go_wp2
      go_ret
      exact ⟨_, rfl, hown, hbl⟩
theorem specOrder_no (a : Option Addr) (cap B : Nat) (ls : List Int) (w : World) (hz : Ints w B a ls) (hok : lOk ls = false) :
    Calls Try.prog 139 #[.slice a ls.length cap] w fun e w' => e = .returned (.slice none 0 0) ∧ w' = w := by
  have K1 := hidden (specLensOk_any a cap B ls w hz)
  rw [hok] at K1
  go_enter Try.func139, Try.ntmps139
  go_wp2_with fail
  refine K1.out.mono ?_
  rintro e w' ⟨rfl, rfl⟩
  go_wp2
  go_ret
  exact ⟨rfl, rfl⟩
theorem specOrder_any (a : Option Addr) (cap B : Nat) (ls : List Int) (w : World) (hz : Ints w B a ls) (hB : B ≤ w.heap.size) :
    Calls Try.prog 139 #[.slice a ls.length cap] w fun e w' => ∃ v, e = .returned v ∧ w'.ownsRow w.heap.size 3 1 v (ordL ls).length (natsL (ordL ls)) ∧ Below w.heap.size w w' := by
  unfold ordL
  by_cases h : lOk ls = true
  · rw [if_pos h, ordF_len (lOk_range h)]
    exact specOrder_yes a cap B ls w hz hB h
  · rw [if_neg h]
    refine (specOrder_no a cap B ls w hz (by simpa using h)).mono ?_
    rintro e w' ⟨rfl, rfl⟩
    exact ⟨_, rfl, World.ownsRow_nil _ _ _ _, Below.refl _ _⟩
set_option maxHeartbeats 4000000 in
set_option maxRecDepth 100000 in
theorem specCodes_yes (a : Option Addr) (cap B : Nat) (ls : List Int) (w : World) (hz : Ints w B a ls) (hB : B ≤ w.heap.size) (hok : lOk ls = true) :
    Calls Try.prog 113 #[.slice a ls.length cap] w fun e w' => ∃ v, e = .returned v ∧ w'.ownsRow w.heap.size 3 1 v ls.length (nats ls.length (cdF ls)) ∧ Below w.heap.size w w' := by
  obtain ⟨j0, ji, jz0, jz1, jz2⟩ := info_parts Try.infoInt
  have hr := lOk_range hok
  have K1 := hidden (specOrder_yes a cap B ls w hz hB hok)
  obtain ⟨O, hO, hlen, hnd, hmem, hall, h0, hstep⟩ := ord_codes hr
  have HLN : Hid (∀ s, s < ls.length → ls.getD s 0 = (lnF ls s : Int) ∧ 1 ≤ lnF ls s ∧ lnF ls s ≤ 20) := hidden (fun s hs => ⟨lnF_int hr s hs, lRange_ln hr s hs⟩)
  have HLT := hidden (fun s hs => cdF_lt20 hok s hs)
  have HLEN := hidden hlen
  have HMEM := hidden hmem
  have HSTEP := hidden hstep
  have H0 := hidden h0
  have HND := hidden hnd
  have HALL := hidden hall
  rw [hO] at K1
  clear hO hlen hnd hmem hall h0 hstep
  obtain ⟨n, hn⟩ : ∃ n, ls.length = n := ⟨_, rfl⟩
  have hn1 : 1 ≤ n := by rw [← hn]; exact hr.1
  have hn2 : n ≤ 260 := by rw [← hn]; exact hr.2.1
  obtain ⟨b, off, rfl, hb, hc⟩ := hz.2.2 (by omega)
  have HC := hidden hc
  obtain ⟨cd, hcd⟩ : ∃ cd, cdF ls = cd := ⟨_, rfl⟩
  obtain ⟨l, hl⟩ : ∃ l, lnF ls = l := ⟨_, rfl⟩
  rw [hcd] at HSTEP H0 HLT ⊢
  rw [hl] at HLN HSTEP
  rw [hn] at K1 HLEN HLN HLT HMEM HALL HC ⊢
  have hbw : b < w.heap.size := by omega
  clear hz hr hn hc hok hcd hl
  go_enter Try.func113, Try.ntmps113
  go_wp2_with fail
  refine K1.out.mono ?_
  rintro e w1 ⟨v, rfl, hown, hb1⟩
  obtain ⟨g1, c1, hv⟩ := Joins.ownsRow_form hown (by omega)
  subst hv
  have hnz : ((n : Int) == 0) = false := by rw [beq_eq_false_iff_ne]; omega
  have hsz1 := hb1.size
  have hg1 := hown.lt g1 rfl
  go_wp2_with (at_make; refine wpList_make_full _ rfl _ _ 24 rfl w1.heap.size 3 j0 (.int .i64 0) 1 Try.underlying24 ji jz0 jz1 .i64 .i64 _ _ n rfl rfl rfl rfl ?cb1 ?cb2 ?cb3 ?_)
  case cb1 => rw [jz2]; omega
  case cb2 => unfold maxLen; omega
  case cb3 => exact Nat.le_refl _
  intro w2 hown2 hgrow
  have hb2 : Below w1.heap.size w1 w2 := ⟨hgrow.os, hgrow.tape, hgrow.output, hgrow.size, fun i hi => hgrow.block i hi (by simp)⟩
  rw [made_nats] at hown2
  have HOW := hidden hown
  clear hgrow hown
  go_wp2
  go_loopw [5] (fun si wr => ∃ k : Nat, 1 ≤ k ∧ k ≤ n ∧ si = .int .i64 k ∧ wr.ownsRow w1.heap.size 3 1 (.slice (some ⟨w1.heap.size, 0, none⟩) n n) n (nats n fun s => if s ∈ O.take k then cd s else 0) ∧ Below w1.heap.size w1 wr) (fun si _ => n - (intOf si).toNat)
  case atStart => exact ⟨1, Nat.le_refl _, hn1, rfl, by
    rw [nats_congr (g := fun _ => 0) fun s hs => ?_]
    · exact hown2
    · by_cases h : s ∈ O.take 1
      · rw [if_pos h]
        cases hOe : O with
        | nil => rw [hOe] at h; simp at h
        | cons x T =>
          rw [hOe] at h
          simp at h
          rw [h]; exact H0.out x T hOe
      · rw [if_neg h], hb2⟩
  case round =>
    obtain ⟨k, hk1, hkn, rfl, hD, hbl⟩ := hrel
    have hW := own_bel HOW.out hbl
    have hszr := hbl.size
    by_cases hlt : k < n
    · obtain ⟨q, hq⟩ : ∃ q, k = q + 1 := ⟨k - 1, by omega⟩
      have hkO : q + 1 < O.length := by rw [HLEN.out]; omega
      obtain ⟨t, ht⟩ : ∃ t, O[q] = t := ⟨_, rfl⟩
      obtain ⟨s, hs⟩ : ∃ s, O[q + 1] = s := ⟨_, rfl⟩
      have hts := HSTEP.out q t s hkO ht hs
      have htn := HMEM.out t (by rw [← ht]; exact List.getElem_mem _)
      have hsn := HMEM.out s (by rw [← hs]; exact List.getElem_mem _)
      have o0 := hW.cellAt q (by omega)
      have o1 := hW.cellAt k (by omega)
      rw [natsL_get O q (by omega), ht] at o0
      have hs' : O[k]'(by omega) = s := by rw [← hs]; congr 1
      rw [natsL_get O k (by omega), hs'] at o1
      have l0 := ((hb1.trans (hbl.mono hsz1)).cell (p := ⟨b, off + t, none⟩) hbw).trans (HC.out t htn)
      have l1 := ((hb1.trans (hbl.mono hsz1)).cell (p := ⟨b, off + s, none⟩) hbw).trans (HC.out s hsn)
      rw [(HLN.out t htn).1] at l0
      rw [(HLN.out s hsn).1] at l1
      have htin : t ∈ O.take k := by
        rw [hq, List.take_succ_eq_append_getElem (by omega), ht]; simp
      have hsin : s ∉ O.take k := by
        intro hmem
        rw [hq] at hmem
        have h1 := HND.out
        rw [← List.take_append_drop (q + 1) O, List.nodup_append] at h1
        have h2 : s ∈ O.drop (q + 1) := by rw [← List.getElem_cons_drop (h := hkO), hs]; simp
        exact h1.2.2 s hmem s h2 rfl
      have hne : ¬ s = t := fun e => hsin (by rw [e]; exact htin)
      have d0 := hD.cellAt t (by omega)
      have d1 := hD.cellAt s (by omega)
      rw [nats_get _ _ t htn, if_pos htin] at d0
      rw [nats_get _ _ s hsn, if_neg hsin] at d1
      have f1 := hD.frozenAt s
      have HST : Hid ((nats n fun x => if x ∈ O.take k then cd x else 0).set s (.int .i64 (cd s : Int)) = nats n fun x => if x ∈ O.take (k + 1) then cd x else 0) := hidden (by
        rw [nats_set, hq]
        refine nats_congr fun x hx => ?_
        rw [List.take_succ_eq_append_getElem hkO, hs]
        by_cases e : x = s
        · subst e; rw [if_pos rfl, if_pos (by simp)]
        · rw [if_neg e]
          by_cases h : x ∈ O.take (q + 1)
          · rw [if_pos h, if_pos (by simp [h])]
          · rw [if_neg h, if_neg (by simp [h, e])])
      obtain ⟨ct, hct⟩ : ∃ c, cd t = c := ⟨_, rfl⟩
      obtain ⟨cs, hcs⟩ : ∃ c, cd s = c := ⟨_, rfl⟩
      have hct2 := HLT.out t htn
      have hcs2 := HLT.out s hsn
      obtain ⟨x, hx⟩ : ∃ x, l t = x := ⟨_, rfl⟩
      obtain ⟨y, hy⟩ : ∃ y, l s = y := ⟨_, rfl⟩
      have hxr := (HLN.out t htn).2
      have hyr := (HLN.out s hsn).2
      rw [hct] at d0 hct2 hts
      rw [hcs] at hcs2 hts HST
      rw [hx] at l0 hxr hts
      rw [hy] at l1 hyr hts
      obtain ⟨d, hd⟩ : ∃ d, y - x = d := ⟨_, rfl⟩
      rw [hd] at hts
      have hdI : (y : Int) - (x : Int) = (d : Int) := by omega
      have i0 : IntKind.i64.wrap ((y : Int) - (x : Int)) = (d : Int) := by rw [hdI]; exact IntWalk.i64_in _ (by omega)
      have i1 : IntKind.i64.wrap ((ct : Int) + 1) = (ct : Int) + 1 := IntWalk.i64_in _ (by omega)
      have hd64 : min d 64 = d := by omega
      have i2 : IntKind.i64.wrap (((ct : Int) + 1) * 2 ^ min d 64) = (cs : Int) := by
        rw [hd64, hts.2]
        have : (((ct + 1) * 2 ^ d : Nat) : Int) = ((ct : Int) + 1) * 2 ^ d := by simp
        rw [← this, ← hts.2]; exact IntWalk.i64_in _ (by omega)
      have i3 : (k : Int) - 1 = (q : Int) := by omega
      have i4 : IntKind.i64.wrap ((k : Int) - 1) = (q : Int) := by rw [i3]; exact IntWalk.i64_in _ (by omega)
      have n1 : ¬ g1 = w1.heap.size := by omega
      have n2 : ¬ b = w1.heap.size := by omega
      have n3 : ¬ w1.heap.size = g1 := by omega
      have n4 : ¬ w1.heap.size = b := by omega
      have n5 : ¬ t = s := fun e => hne e.symm
      have m1 : (q : Int) < (n : Int) := by omega
      have m2 : (t : Int) < (n : Int) := by omega
      have m3 : (s : Int) < (n : Int) := by omega
      have m4 : (k : Int) < (n : Int) := by omega
      have m8 : (0 : Int) ≤ (k : Int) := by omega
      have m5 : (0 : Int) ≤ (q : Int) := by omega
      have m6 : (0 : Int) ≤ (t : Int) := by omega
      have m7 : (0 : Int) ≤ (s : Int) := by omega
      have hkeep : (wr.setCell ⟨w1.heap.size, s, none⟩ (.int .i64 (cs : Int))).cell? ⟨w1.heap.size, t, none⟩ = some (.int .i64 (ct : Int)) := by
        rw [World.cell?_setCell_other]
        · exact d0
        · intro e
          exact hne (by injection e)
      clear hW hs hs' ht hct hcs hx hy hts hd hsin htin hkO hdI hq hd64 i3
      go_wp2
      go_region_held3 (fun w' => w'.cell? ⟨g1, q, none⟩ = some (.int .i64 (t : Int)) ∧ w'.cell? ⟨g1, k, none⟩ = some (.int .i64 (s : Int)) ∧ w'.cell? ⟨b, off + t, none⟩ = some (.int .i64 (x : Int)) ∧ w'.cell? ⟨b, off + s, none⟩ = some (.int .i64 (y : Int)) ∧ w'.cell? ⟨w1.heap.size, t, none⟩ = some (.int .i64 (ct : Int))) (first | go_keep | (refine ⟨?_, ?_, ?_, ?_, ?_⟩; go_keep; go_keep; go_keep; go_keep; exact hkeep)) (fail)
      all_goals
        go_wp2
        exact ⟨⟨k + 1, by omega, by omega, by go_num, by
          have := (hD.stored s (.int .i64 (cs : Int))).1
          rw [HST.out] at this
          exact this, (hbl.setCell (Nat.le_refl _) _).drew⟩, by simp [intOf]; omega⟩
    · have hkn2 : k = n := by omega
      subst hkn2
      go_wp2
      go_ret
      refine ⟨_, rfl, Joins.ownsRow_le (?_ : World.ownsRow _ w1.heap.size _ _ _ _ _) hsz1, hb1.trans (hbl.mono hsz1)⟩
      rw [nats_congr (f := cd) (g := fun s => if s ∈ O.take k then cd s else 0) fun s hs => by
        rw [List.take_of_length_le (by rw [HLEN.out]; exact Nat.le_refl _), if_pos (HALL.out s hs)]]
      exact hD
end Go.Proofs.Ytaaahmfkdiogkaa
namespace Go.Proofs.Ytaaahmfkdiogkaa
set_option linter.unusedVariables false
set_option linter.unusedSimpArgs false
open Go.RowKit

theorem cdL_nats {ls : List Int} (h : lOk ls = true) : natsL (cdL ls) = nats ls.length (cdF ls) := by
  unfold cdL; rw [if_pos h]
  unfold natsL nats
  rw [List.map_map]; rfl
theorem specCodes_no (a : Option Addr) (cap B : Nat) (ls : List Int) (w : World) (hz : Ints w B a ls) (hok : lOk ls = false) :
    Calls Try.prog 113 #[.slice a ls.length cap] w fun e w' => e = .returned (.slice none 0 0) ∧ w' = w := by
  have K1 := hidden (specOrder_no a cap B ls w hz hok)
  go_enter Try.func113, Try.ntmps113
  go_wp2_with fail
  refine K1.out.mono ?_
  rintro e w' ⟨rfl, rfl⟩
  go_wp2
  go_ret
  exact ⟨rfl, rfl⟩
theorem specCodes_any (a : Option Addr) (cap B : Nat) (ls : List Int) (w : World) (hz : Ints w B a ls) (hB : B ≤ w.heap.size) :
    Calls Try.prog 113 #[.slice a ls.length cap] w fun e w' => ∃ v, e = .returned v ∧ w'.ownsRow w.heap.size 3 1 v (cdL ls).length (natsL (cdL ls)) ∧ Below w.heap.size w w' := by
  by_cases h : lOk ls = true
  · rw [cdL_len h, cdL_nats h]
    exact specCodes_yes a cap B ls w hz hB h
  · refine (specCodes_no a cap B ls w hz (by simpa using h)).mono ?_
    rintro e w' ⟨rfl, rfl⟩
    refine ⟨_, rfl, ?_, Below.refl _ _⟩
    unfold cdL; rw [if_neg h]
    exact World.ownsRow_nil _ _ _ _
set_option maxHeartbeats 1000000 in
set_option maxRecDepth 100000 in
theorem l4symsOk_any (a : Option Addr) (cap B n : Nat) (ss : List Int) (w : World) (hz : Ints w B a ss) (hn : n ≤ 140737488355328) :
    Calls Try.prog 84 #[.int .i64 n, .slice a ss.length cap] w fun e w' => e = .returned (.bool (symsB n ss)) ∧ w' = w := by
  have hl := hz.1
  by_cases h2 : 2000 < ss.length
  · have HF : Hid (symsB n ss = false) := hidden (by rw [Bool.eq_false_iff, Ne, symsB_iff]; omega)
    obtain ⟨m, hm⟩ : ∃ m, ss.length = m := ⟨_, rfl⟩
    rw [hm] at h2 hl ⊢
    clear hz hm
    go_enter Try.func84, Try.ntmps84
    go_wp2
    go_ret
    exact ⟨ret_bool HF.out.symm, rfl⟩
  · obtain ⟨m, hm⟩ : ∃ m, ss.length = m := ⟨_, rfl⟩
    have HM := hidden hm
    have HZ := hidden hz
    rw [hm] at h2 hl ⊢
    clear hz hm
    go_enter Try.func84, Try.ntmps84
    go_wp2
    go_loop [5] (fun si => ∃ k : Nat, k ≤ m ∧ si = .int .i64 k ∧ Hid (∀ j, j < k → 0 ≤ ss.getD j 0 ∧ ss.getD j 0 < (n : Int))) (fun si => m - (intOf si).toNat)
    case atStart => exact ⟨0, by omega, rfl, hidden fun j hj => by omega⟩
    case round =>
      obtain ⟨k, hk, rfl, H⟩ := hrel
      by_cases hlt : k < m
      · obtain ⟨b, off, rfl, hb, hc⟩ := HZ.out.2.2 (by rw [HM.out]; omega)
        have ck := hc k (by rw [HM.out]; exact hlt)
        obtain ⟨x, hx⟩ : ∃ x, ss.getD k 0 = x := ⟨_, rfl⟩
        rw [hx] at ck
        have HX := hidden hx
        clear hx hc
        by_cases c1 : x < 0
        · have HF : Hid (symsB n ss = false) := hidden (by rw [Bool.eq_false_iff, Ne, symsB_iff]; intro g; have := g.2 k (by rw [HM.out]; exact hlt); rw [HX.out] at this; omega)
          go_wp2
          go_ret
          exact ⟨ret_bool HF.out.symm, rfl⟩
        · by_cases c2 : (n : Int) ≤ x
          · have HF : Hid (symsB n ss = false) := hidden (by rw [Bool.eq_false_iff, Ne, symsB_iff]; intro g; have := g.2 k (by rw [HM.out]; exact hlt); rw [HX.out] at this; omega)
            go_wp2
            go_ret
            exact ⟨ret_bool HF.out.symm, rfl⟩
          · go_wp2
            go_round
            case rel => exact ⟨k + 1, by omega, by go_num, hidden fun j hj => by
              rcases Nat.lt_or_ge j k with g | g
              · exact H.out j g
              · obtain rfl : j = k := by omega
                rw [HX.out]; omega⟩
            case measure => simp [intOf]; omega
      · have HF : Hid (symsB n ss = true) := hidden (by rw [symsB_iff, HM.out]; exact ⟨by omega, fun j hj => H.out j (by omega)⟩)
        go_wp2
        go_ret
        exact ⟨ret_bool HF.out.symm, rfl⟩
/-- How many bits the symbols have; -1 where they are none. -/
def symBitsI (ls ss : List Int) : Int := if putOk ls ss = true then (lenSum ls ss ss.length : Int) else -1
end Go.Proofs.Ytaaahmfkdiogkaa
namespace Go.Proofs.Ytaaahmfkdiogkaa
set_option linter.unusedVariables false
set_option linter.unusedSimpArgs false
open Go.RowKit

theorem num_row_one (s : ByteArray) (a : Nat) : num (row s a 1) = bit s a := by simp [row, num]
theorem own_away_has {w w' : World} {b base n S : Nat} {E : TypeId} {v : Value} {xs : List Value} (h : w.ownsRow base E S v n xs) (ho : Only b w w') (hne : v.ownBlock ≠ some b) : w'.ownsRow base E S v n xs := h.kept ho (.inr hne)
set_option maxHeartbeats 4000000 in
set_option maxRecDepth 100000 in
theorem l4get_any (a : Option Addr) (cap B cb b at0 : Nat) (T : TypeId) (vc : Value) (ls : List Int) (s : ByteArray) (w : World) (hz : Ints w B a ls) (hok : lOk ls = true) (hown : w.ownsRow cb 3 1 vc ls.length (nats ls.length (cdF ls)))
    (hbB : B ≤ b) (hne : vc.ownBlock ≠ some b) (hs : s.size ≤ 1048576) (ha : at0 ≤ 8 * s.size) (hb : Has w b T #[.string s, .int .i64 at0]) :
    Calls Try.prog 116 #[.slice a ls.length cap, vc, .pointer (some ⟨b, 0, none⟩)] w fun e w' =>
      Only b w w' ∧ ((∃ n i, hit ls s at0 n i ∧ e = .returned (.int .i64 i) ∧ Has w' b T #[.string s, .int .i64 ((at0 + n : Nat) : Int)]) ∨
        ((∀ n i, ¬ hit ls s at0 n i) ∧ e = .returned (.int .i64 (-1)) ∧ Has w' b T #[.string s, .int .i64 at0])) := by
  have hr := lOk_range hok
  have HLN : Hid (∀ s, s < ls.length → ls.getD s 0 = (lnF ls s : Int) ∧ 1 ≤ lnF ls s ∧ lnF ls s ≤ 20) := hidden (fun s hs => ⟨lnF_int hr s hs, lRange_ln hr s hs⟩)
  have HLT := hidden (fun s hs => cdF_lt20 hok s hs)
  have HHIT : Hid (∀ n i, hit ls s at0 n i ↔ (i < ls.length ∧ lnF ls i = n ∧ at0 + n ≤ 8 * s.size ∧ num (row s at0 n) = cdF ls i)) := hidden (fun n i => Iff.rfl)
  obtain ⟨H, hH⟩ : ∃ H, hit ls s at0 = H := ⟨_, rfl⟩
  obtain ⟨cd, hcd⟩ : ∃ cd, cdF ls = cd := ⟨_, rfl⟩
  obtain ⟨l, hl⟩ : ∃ l, lnF ls = l := ⟨_, rfl⟩
  obtain ⟨n, hn⟩ : ∃ n, ls.length = n := ⟨_, rfl⟩
  have hn1 : 1 ≤ n := by rw [← hn]; exact hr.1
  have hn2 : n ≤ 260 := by rw [← hn]; exact hr.2.1
  obtain ⟨g1, o1, rfl, hgB, hc⟩ := hz.2.2 (by omega)
  have HC := hidden hc
  rw [hH] at HHIT ⊢
  rw [hcd] at HLT HHIT hown
  rw [hl] at HLN HHIT
  rw [hn] at HLN HLT HHIT HC hown ⊢
  obtain ⟨g2, c2, hv⟩ := Joins.ownsRow_form hown (by omega)
  subst hv
  have hg2 : g2 ≠ b := fun e => hne (by rw [e]; rfl)
  have hbl := hb.lt
  have hg1b : g1 ≠ b := by omega
  have hg1w : g1 < w.heap.size := by omega
  have HOW := hidden hown
  have c0 := hb.cell 0
  have c1 := hb.cell 1
  simp at c0 c1
  clear hz hc hok hr hH hcd hl hn hown hne
  go_enter Try.func116, Try.ntmps116
  go_wp2
  go_loopw [8, 9] (fun sv sn wr => ∃ m : Nat, m ≤ 20 ∧ sn = .int .i64 ((m : Int) + 1) ∧ sv = .int .i64 (num (row s at0 m)) ∧ Hid (at0 + m ≤ 8 * s.size) ∧ Hid (∀ q i, q ≤ m → ¬ H q i) ∧ Has wr b T #[.string s, .int .i64 ((at0 + m : Nat) : Int)] ∧ Only b w wr) (fun _ sn _ => 21 - (intOf sn).toNat)
  case atStart => exact ⟨0, Nat.zero_le _, rfl, rfl, hidden (by omega), hidden (fun q i hq h => by
    have h1 := (HHIT.out q i).1 h
    have h2 := (HLN.out i h1.1).2
    omega), hb, Only.refl _ _⟩
  case round =>
    obtain ⟨m, hm, rfl, rfl, Hle, Hno, hB, hO⟩ := hrel
    clear c0 c1
    have c0 := hB.cell 0
    have c1 := hB.cell 1
    have f1 := hB.free 1
    simp at c0 c1
    by_cases hm20 : m < 20
    · have hmI : (m : Int) + 1 ≤ 20 := by omega
      by_cases hroom : at0 + m + 1 ≤ 8 * s.size
      · have KG := hidden (l1get_yes s (at0 + m) 1 b T wr hs (by decide) hroom hB)
        rw [num_row_one] at KG
        have hbt := bit_lt s (at0 + m)
        have hnx := num_row_succ s at0 m
        have hv : num (row s at0 m) < 2 ^ 20 := Nat.lt_of_lt_of_le (num_row_lt s at0 m) (Nat.pow_le_pow_right (by omega) (by omega))
        obtain ⟨v0, hv0⟩ : ∃ v0, num (row s at0 m) = v0 := ⟨_, rfl⟩
        obtain ⟨v1, hv1⟩ : ∃ v1, num (row s at0 (m + 1)) = v1 := ⟨_, rfl⟩
        obtain ⟨bt, hbt0⟩ : ∃ x, bit s (at0 + m) = x := ⟨_, rfl⟩
        rw [hv0] at hnx hv ⊢
        rw [hv1] at hnx
        rw [hbt0] at hnx hbt KG
        have HV1 := hidden hv1
        have hvI : 2 * (v0 : Int) + (bt : Int) = (v1 : Int) := by omega
        have hbt1 : ¬ (bt : Int) < 0 := by omega
        clear hv0 hv1 hbt0 hnx c0 c1
        go_wp2_with fail
        refine KG.out.mono ?_
        rintro e wa ⟨rfl, hB1, hO1⟩
        have hO2 : Only b w wa := ⟨hO1.os.trans hO.os, hO1.tape.trans hO.tape, hO1.output.trans hO.output, Nat.le_trans hO.size hO1.size, fun i hi hne => (hO1.block i (Nat.lt_of_lt_of_le hi hO.size) hne).trans (hO.block i hi hne)⟩
        clear hO1 hO hB KG
        go_wp2
        (try rw [hvI])
        go_loopw [11] (fun si wx => ∃ i nq : Nat, i ≤ n ∧ si = .int .i64 i ∧ Hid (∀ j, j < i → ¬ H (m + 1) j) ∧ wx = wa.drewN nq) (fun si _ => n - (intOf si).toNat)
        case atStart => exact ⟨0, 0, Nat.zero_le _, rfl, hidden (fun j hj => by omega), rfl⟩
        case round =>
          obtain ⟨i, nq, hi, rfl, Hj, rfl⟩ := hrel
          by_cases hlt : i < n
          · have ck := ((ocell hO2).1 g1 (o1 + i) hg1w hg1b).trans (HC.out i hlt)
            have hln := HLN.out i hlt
            rw [hln.1] at ck
            have cc := (own_away_has HOW.out hO2 (by simpa [Value.ownBlock] using hg2)).cellAt i (by omega)
            rw [nats_get _ _ i hlt] at cc
            have hcl := HLT.out i hlt
            obtain ⟨x, hx⟩ : ∃ x, l i = x := ⟨_, rfl⟩
            obtain ⟨y, hy⟩ : ∃ y, cd i = y := ⟨_, rfl⟩
            rw [hx] at ck hln
            rw [hy] at cc hcl
            by_cases hxm : x = m + 1
            · have e1 : ((x : Int) == (m : Int) + 1) = true := by rw [beq_iff_eq]; omega
              by_cases hyv : y = v1
              · have e2 : ((y : Int) == (v1 : Int)) = true := by rw [beq_iff_eq]; omega
                have HH : Hid (H (m + 1) i) := hidden ((HHIT.out _ _).2 ⟨hlt, by rw [hx, hxm], by omega, by rw [HV1.out, hy, hyv]⟩)
                clear hx hy hxm hyv hln
                go_wp2
                (try go_quiet (fail))
                (try go_wp2)
                go_ret
                exact ⟨hO2.drewN _, .inl ⟨m + 1, i, HH.out, rfl, hB1.drewN _⟩⟩
              · have e2 : ((y : Int) == (v1 : Int)) = false := by rw [beq_eq_false_iff_ne]; omega
                have HN2 : Hid (∀ j, j < i + 1 → ¬ H (m + 1) j) := hidden (fun j hj h => by
                  rcases Nat.lt_or_ge j i with g | g
                  · exact Hj.out j g h
                  · obtain rfl : j = i := by omega
                    have := ((HHIT.out _ _).1 h).2.2.2
                    rw [HV1.out, hy] at this
                    exact hyv this.symm)
                clear hx hy hxm hyv hln
                go_wp2
                (try go_quiet (fail))
                (try go_wp2)
                exact ⟨⟨i + 1, _, by omega, by go_num, HN2, rfl⟩, by simp [intOf]; omega⟩
            · have e1 : ((x : Int) == (m : Int) + 1) = false := by rw [beq_eq_false_iff_ne]; omega
              have HN2 : Hid (∀ j, j < i + 1 → ¬ H (m + 1) j) := hidden (fun j hj h => by
                rcases Nat.lt_or_ge j i with g | g
                · exact Hj.out j g h
                · obtain rfl : j = i := by omega
                  have := ((HHIT.out _ _).1 h).2.1
                  rw [hx] at this
                  exact hxm this)
              clear hx hy hxm hln
              go_wp2
              (try go_quiet (fail))
              (try go_wp2)
              exact ⟨⟨i + 1, _, by omega, by go_num, HN2, rfl⟩, by simp [intOf]; omega⟩
          · have hin : i = n := by omega
            subst hin
            have HN3 : Hid (∀ q j, q ≤ m + 1 → ¬ H q j) := hidden (fun q j hq h => by
              rcases Nat.lt_or_ge q (m + 1) with g | g
              · exact Hno.out q j (by omega) h
              · obtain rfl : q = m + 1 := by omega
                exact Hj.out j ((HHIT.out _ _).1 h).1 h)
            go_wp2
            exact ⟨⟨m + 1, by omega, by go_num, by rw [HV1.out], hidden (by omega), HN3, hB1.drewN _, hO2.drewN _⟩, by simp [intOf]; omega⟩
      · have KG := hidden (l1get_none s (at0 + m) 1 b T wr hs (by decide) Hle.out (by omega) hB)
        have HN3 : Hid (∀ q j, ¬ H q j) := hidden (fun q j h => by
          rcases Nat.lt_or_ge m q with g | g
          · have := ((HHIT.out _ _).1 h).2.2.1
            omega
          · exact Hno.out q j g h)
        go_wp2_with fail
        refine KG.out.mono ?_
        rintro e wa ⟨rfl, nq, rfl⟩
        go_wp2
        go_ret
        refine ⟨(hO.drewN nq).store (.inl rfl) _, .inr ⟨HN3.out, rfl, ?_⟩⟩
        have := (hB.drewN nq).store 1 (.int .i64 (at0 : Int))
        simpa using this
    · have hmI : ¬ (m : Int) + 1 ≤ 20 := by omega
      have HN3 : Hid (∀ q j, ¬ H q j) := hidden (fun q j h => by
        have h1 := (HHIT.out q j).1 h
        have h2 := (HLN.out j h1.1).2
        exact Hno.out q j (by omega) h)
      go_wp2
      go_ret
      refine ⟨hO.store (.inl rfl) _, .inr ⟨HN3.out, rfl, ?_⟩⟩
      have := hB.store 1 (.int .i64 (at0 : Int))
      simpa using this
end Go.Proofs.Ytaaahmfkdiogkaa
namespace Go.Proofs.Ytaaahmfkdiogkaa
set_option linter.unusedVariables false
set_option linter.unusedSimpArgs false
open Go.RowKit

end Go.Proofs.Ytaaahmfkdiogkaa
namespace Go.Proofs.Ytaaahmfkdiogkaa
set_option linter.unusedVariables false
set_option linter.unusedSimpArgs false
open Go.RowKit

/-- The model's own reading, one more symbol of xs. -/
theorem l4get_hit (a : Option Addr) (cap B cb b at0 n0 i0 : Nat) (T : TypeId) (vc : Value) (ls : List Int) (s : ByteArray) (w : World) (hz : Ints w B a ls) (hok : lOk ls = true) (hown : w.ownsRow cb 3 1 vc ls.length (nats ls.length (cdF ls)))
    (hbB : B ≤ b) (hne : vc.ownBlock ≠ some b) (hs : s.size ≤ 1048576) (ha : at0 ≤ 8 * s.size) (hb : Has w b T #[.string s, .int .i64 at0]) (hh : hit ls s at0 n0 i0) :
    Calls Try.prog 116 #[.slice a ls.length cap, vc, .pointer (some ⟨b, 0, none⟩)] w fun e w' => Only b w w' ∧ e = .returned (.int .i64 i0) ∧ Has w' b T #[.string s, .int .i64 ((at0 + n0 : Nat) : Int)] := by
  refine (l4get_any a cap B cb b at0 T vc ls s w hz hok hown hbB hne hs ha hb).mono ?_
  rintro e w' ⟨hO, ⟨n, i, hni, rfl, hH⟩ | ⟨hno, _⟩⟩
  · obtain ⟨rfl, rfl⟩ := hit_one hok hni hh
    exact ⟨hO, rfl, hH⟩
  · exact absurd hh (hno _ _)
theorem reads_at {ls : List Int} {s : ByteArray} {c b : Nat} {xs : List Nat} (k : Nat) (hk : k < xs.length) (h : Reads ls s c (xs.drop k) b) : ∃ n, hit ls s c n xs[k] ∧ Reads ls s (c + n) (xs.drop (k + 1)) b := by
  rw [← List.getElem_cons_drop (h := hk)] at h
  cases h with
  | cons _ n _ _ _ hh hr => exact ⟨n, hh, hr⟩
theorem l4get_none (a : Option Addr) (cap B cb b at0 : Nat) (T : TypeId) (vc : Value) (ls : List Int) (s : ByteArray) (w : World) (hz : Ints w B a ls) (hok : lOk ls = true) (hown : w.ownsRow cb 3 1 vc ls.length (nats ls.length (cdF ls)))
    (hbB : B ≤ b) (hne : vc.ownBlock ≠ some b) (hs : s.size ≤ 1048576) (ha : at0 ≤ 8 * s.size) (hb : Has w b T #[.string s, .int .i64 at0]) (hh : ∀ n i, ¬ hit ls s at0 n i) :
    Calls Try.prog 116 #[.slice a ls.length cap, vc, .pointer (some ⟨b, 0, none⟩)] w fun e w' => Only b w w' ∧ e = .returned (.int .i64 (-1)) := by
  refine (l4get_any a cap B cb b at0 T vc ls s w hz hok hown hbB hne hs ha hb).mono ?_
  rintro e w' ⟨hO, ⟨n, i, hni, rfl, hH⟩ | ⟨hno, rfl, _⟩⟩
  · exact absurd hni (hh _ _)
  · exact ⟨hO, rfl⟩
end Go.Proofs.Ytaaahmfkdiogkaa
