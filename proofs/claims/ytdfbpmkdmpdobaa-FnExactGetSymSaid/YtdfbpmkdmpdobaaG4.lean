/- Texts of one reach, one behind the other: C4, C4B, C4G, C4H, C4I. What each is about stands in its theorems. -/
import Derived.Test.YtdfbpmkdmpdobaaG3
import Derived.Test.YtdfbpmkdmpdobaaG1
import Derived.Deep.RegionHeld3
import Derived.Maps.AppendAt
import Derived.OwnWalk
import Derived.BigQuiet
import Derived.ChangeAlike
import Derived.Deep.QuietTactic
import Derived.RegionTactic
namespace Go.Proofs.Ytdfbpmkdmpdobaa
set_option linter.unusedVariables false
set_option linter.unusedSimpArgs false
open Go.RowKit

theorem ordF_unf (ls : List Int) : ordF ls = ordU ls.length (lnF ls) 20 := rfl
set_option maxHeartbeats 2000000 in
set_option maxRecDepth 100000 in
theorem specOrder_yes (a : Option Addr) (cap B : Nat) (ls : List Int) (w : World) (hz : Ints w B a ls) (hB : B ≤ w.heap.size) (hok : lOk ls = true) :
    Calls Try.prog 25 #[.slice a ls.length cap] w fun e w' => ∃ v, e = .returned v ∧ w'.ownsRow w.heap.size 3 1 v ls.length (natsL (ordF ls)) ∧ Below w.heap.size w w' := by
  obtain ⟨i0, hi, hz0, hz1, hz2⟩ := info_parts Try.infoInt
  have hr := lOk_range hok
  have K1 := hidden (specLensOk_any a cap B ls w hz)
  rw [hok] at K1
  have HLEN := hidden (ordF_len hr)
  have HLN : Hid (∀ s, s < ls.length → ls.getD s 0 = (lnF ls s : Int)) := hidden (fun s hs => lnF_int hr s hs)
  have HO : Hid (ordF ls = ordU ls.length (lnF ls) 20) := hidden rfl
  obtain ⟨n, hn⟩ : ∃ n, ls.length = n := ⟨_, rfl⟩
  have hn1 : 1 ≤ n := by rw [← hn]; exact hr.1
  have hn2 : n ≤ 260 := by rw [← hn]; exact hr.2.1
  obtain ⟨b, off, rfl, hb, hc⟩ := hz.2.2 (by omega)
  have HC := hidden hc
  obtain ⟨l, hl⟩ : ∃ l, lnF ls = l := ⟨_, rfl⟩
  rw [hn] at K1 HLEN HLN HC HO ⊢
  rw [hl] at HLN HO
  have hbw : b < w.heap.size := by omega
  clear hz hr hn hc hok hl
  go_enter Try.func25, Try.ntmps25
  go_wp2_with fail
  refine K1.out.mono ?_
  rintro e w' ⟨rfl, rfl⟩
  go_wp2
  go_loopw [3, 4] (fun v sn wr => ∃ m : Nat, m ≤ 20 ∧ sn = .int .i64 ((m : Int) + 1) ∧ wr.ownsRow w'.heap.size 3 1 v (ordU n l m).length (natsL (ordU n l m)) ∧ Below w'.heap.size w' wr) (fun _ sn _ => 21 - (intOf sn).toNat)
  case atStart => exact ⟨0, Nat.zero_le _, rfl, World.ownsRow_nil _ _ _ _, Below.refl _ _⟩
  case round =>
    obtain ⟨m, hm, rfl, hown, hbl⟩ := hrel
    by_cases hm20 : m < 20
    · have hmI : (m : Int) + 1 ≤ 20 := by omega
      have e0 : ordU n l m ++ lenIs n l (m + 1) 0 = ordU n l m := by simp [lenIs]
      go_wp2
      go_loopw [3, 5] (fun v si wx => ∃ i : Nat, i ≤ n ∧ si = .int .i64 i ∧ wx.ownsRow w'.heap.size 3 1 v (ordU n l m ++ lenIs n l (m + 1) i).length (natsL (ordU n l m ++ lenIs n l (m + 1) i)) ∧ Below w'.heap.size w' wx) (fun _ si _ => n - (intOf si).toNat)
      case atStart => exact ⟨0, Nat.zero_le _, rfl, by rw [e0]; exact hown, hbl⟩
      case round =>
        obtain ⟨i, hi1, rfl, hown1, hbl1⟩ := hrel
        have hsz := hbl1.size
        by_cases hlt : i < n
        · have ck := (hbl1.cell (p := ⟨b, off + i, none⟩) hbw).trans (HC.out i hlt)
          rw [HLN.out i hlt] at ck
          have hP := ordP_length n l m i (by omega)
          obtain ⟨P, hPe⟩ : ∃ P, ordU n l m ++ lenIs n l (m + 1) i = P := ⟨_, rfl⟩
          rw [hPe] at hown1 hP
          by_cases he : l i = m + 1
          · have heI : ((l i : Int) == (m : Int) + 1) = true := by rw [beq_iff_eq]; omega
            have HN : Hid (ordU n l m ++ lenIs n l (m + 1) (i + 1) = P ++ [i]) := hidden (by rw [lenIs_succ, if_pos he, ← List.append_assoc, hPe])
            have hPl : P.length < n := by
              have := ordP_length n l m (i + 1) (by omega)
              rw [HN.out] at this; simp at this; omega
            obtain ⟨p, hp⟩ : ∃ p, P.length = p := ⟨_, rfl⟩
            rw [hp] at hown1 hPl
            have HPL := hidden hp
            clear hPe he hP hp
            go_wp2_with (at_builtin; refine wpList_append_own_at _ rfl _ _ 23 rfl w'.heap.size 3 i0 (.int .i64 0) 1 8 Try.underlying23 hi hz0 hz1 hz2 rfl (by decide) _ _ _ rfl (hown1.alloc _) ⟨wr.heap.size, 0, none⟩ 1 1 [.int .i64 (i : Int)] rfl rfl ?ca2 ?ca3 ?ca4 ?ca5 ?ca6 ?_)
            case ca2 => exact cell_one _ _ _
            case ca3 => exact fun u hu => by simp at hu; subst hu; rfl
            case ca4 => unfold maxLen; omega
            case ca5 => omega
            case ca6 => simp; omega
            intro v3 w3 hown3 hgrow _ _
            have hbl3 : Below w'.heap.size w' w3 := (hbl1.alloc (by omega) _).grown hgrow (by simp; omega) (fun b hb => (hown1.lt b hb).1)
            have hownN : w3.ownsRow w'.heap.size 3 1 v3 (P ++ [i]).length (natsL (P ++ [i])) := by rw [natsL_append, List.length_append, HPL.out]; exact hown3
            clear hown3 hgrow hown1 hbl1
            go_wp2
            go_roundw
            case rel => exact ⟨i + 1, by omega, by go_num, by rw [HN.out]; exact hownN, hbl3⟩
            case measure => simp [intOf]; omega
          · have heI : ((l i : Int) == (m : Int) + 1) = false := by rw [beq_eq_false_iff_ne]; omega
            have HN : Hid (ordU n l m ++ lenIs n l (m + 1) (i + 1) = P) := hidden (by rw [lenIs_succ, if_neg he, hPe])
            clear hPe he hP
            go_wp2
            go_roundw
            case rel => exact ⟨i + 1, by omega, by go_num, by rw [HN.out]; exact hown1, hbl1⟩
            case measure => simp [intOf]; omega
        · have hin : i = n := by omega
          subst hin
          go_wp2
          refine ⟨⟨m + 1, by omega, by go_num, hown1, hbl1⟩, by simp [intOf]; omega⟩
    · have hm2 : m = 20 := by omega
      have HE : ordU n l m = ordF ls := by rw [HO.out, hm2]
      rw [HE, HLEN.out] at hown
      have hmI : ¬ (m : Int) + 1 ≤ 20 := by omega
      clear HE HO hm2
      go_wp2
      go_ret
      exact ⟨_, rfl, hown, hbl⟩
theorem specOrder_no (a : Option Addr) (cap B : Nat) (ls : List Int) (w : World) (hz : Ints w B a ls) (hok : lOk ls = false) :
    Calls Try.prog 25 #[.slice a ls.length cap] w fun e w' => e = .returned (.slice none 0 0) ∧ w' = w := by
  have K1 := hidden (specLensOk_any a cap B ls w hz)
  rw [hok] at K1
  go_enter Try.func25, Try.ntmps25
  go_wp2_with fail
  refine K1.out.mono ?_
  rintro e w' ⟨rfl, rfl⟩
  go_wp2
  go_ret
  exact ⟨rfl, rfl⟩
theorem specOrder_any (a : Option Addr) (cap B : Nat) (ls : List Int) (w : World) (hz : Ints w B a ls) (hB : B ≤ w.heap.size) :
    Calls Try.prog 25 #[.slice a ls.length cap] w fun e w' => ∃ v, e = .returned v ∧ w'.ownsRow w.heap.size 3 1 v (ordL ls).length (natsL (ordL ls)) ∧ Below w.heap.size w w' := by
  unfold ordL
  by_cases h : lOk ls = true
  · rw [if_pos h, ordF_len (lOk_range h)]
    exact specOrder_yes a cap B ls w hz hB h
  · rw [if_neg h]
    refine (specOrder_no a cap B ls w hz (by simpa using h)).mono ?_
    rintro e w' ⟨rfl, rfl⟩
    exact ⟨_, rfl, World.ownsRow_nil _ _ _ _, Below.refl _ _⟩
set_option maxHeartbeats 4000000 in
set_option maxRecDepth 100000 in
theorem specCodes_yes (a : Option Addr) (cap B : Nat) (ls : List Int) (w : World) (hz : Ints w B a ls) (hB : B ≤ w.heap.size) (hok : lOk ls = true) :
    Calls Try.prog 31 #[.slice a ls.length cap] w fun e w' => ∃ v, e = .returned v ∧ w'.ownsRow w.heap.size 3 1 v ls.length (nats ls.length (cdF ls)) ∧ Below w.heap.size w w' := by
  obtain ⟨j0, ji, jz0, jz1, jz2⟩ := info_parts Try.infoInt
  have hr := lOk_range hok
  have K1 := hidden (specOrder_yes a cap B ls w hz hB hok)
  obtain ⟨O, hO, hlen, hnd, hmem, hall, h0, hstep⟩ := ord_codes hr
  have HLN : Hid (∀ s, s < ls.length → ls.getD s 0 = (lnF ls s : Int) ∧ 1 ≤ lnF ls s ∧ lnF ls s ≤ 20) := hidden (fun s hs => ⟨lnF_int hr s hs, lRange_ln hr s hs⟩)
  have HLT := hidden (fun s hs => cdF_lt20 hok s hs)
  have HLEN := hidden hlen
  have HMEM := hidden hmem
  have HSTEP := hidden hstep
  have H0 := hidden h0
  have HND := hidden hnd
  have HALL := hidden hall
  rw [hO] at K1
  clear hO hlen hnd hmem hall h0 hstep
  obtain ⟨n, hn⟩ : ∃ n, ls.length = n := ⟨_, rfl⟩
  have hn1 : 1 ≤ n := by rw [← hn]; exact hr.1
  have hn2 : n ≤ 260 := by rw [← hn]; exact hr.2.1
  obtain ⟨b, off, rfl, hb, hc⟩ := hz.2.2 (by omega)
  have HC := hidden hc
  obtain ⟨cd, hcd⟩ : ∃ cd, cdF ls = cd := ⟨_, rfl⟩
  obtain ⟨l, hl⟩ : ∃ l, lnF ls = l := ⟨_, rfl⟩
  rw [hcd] at HSTEP H0 HLT ⊢
  rw [hl] at HLN HSTEP
  rw [hn] at K1 HLEN HLN HLT HMEM HALL HC ⊢
  have hbw : b < w.heap.size := by omega
  clear hz hr hn hc hok hcd hl
  go_enter Try.func31, Try.ntmps31
  go_wp2_with fail
  refine K1.out.mono ?_
  rintro e w1 ⟨v, rfl, hown, hb1⟩
  obtain ⟨g1, c1, hv⟩ := Joins.ownsRow_form hown (by omega)
  subst hv
  have hnz : ((n : Int) == 0) = false := by rw [beq_eq_false_iff_ne]; omega
  have hsz1 := hb1.size
  have hg1 := hown.lt g1 rfl
  go_wp2_with (at_make; refine wpList_make_full _ rfl _ _ 23 rfl w1.heap.size 3 j0 (.int .i64 0) 1 Try.underlying23 ji jz0 jz1 .i64 .i64 _ _ n rfl rfl rfl rfl ?cb1 ?cb2 ?cb3 ?_)
  case cb1 => rw [jz2]; omega
  case cb2 => unfold maxLen; omega
  case cb3 => exact Nat.le_refl _
  intro w2 hown2 hgrow
  have hb2 : Below w1.heap.size w1 w2 := ⟨hgrow.os, hgrow.tape, hgrow.output, hgrow.size, fun i hi => hgrow.block i hi (by simp)⟩
  rw [made_nats] at hown2
  have HOW := hidden hown
  clear hgrow hown
  go_wp2
  go_loopw [5] (fun si wr => ∃ k : Nat, 1 ≤ k ∧ k ≤ n ∧ si = .int .i64 k ∧ wr.ownsRow w1.heap.size 3 1 (.slice (some ⟨w1.heap.size, 0, none⟩) n n) n (nats n fun s => if s ∈ O.take k then cd s else 0) ∧ Below w1.heap.size w1 wr) (fun si _ => n - (intOf si).toNat)
  case atStart => exact ⟨1, Nat.le_refl _, hn1, rfl, by
    rw [nats_congr (g := fun _ => 0) fun s hs => ?_]
    · exact hown2
    · by_cases h : s ∈ O.take 1
      · rw [if_pos h]
        cases hOe : O with
        | nil => rw [hOe] at h; simp at h
        | cons x T =>
          rw [hOe] at h
          simp at h
          rw [h]; exact H0.out x T hOe
      · rw [if_neg h], hb2⟩
  case round =>
    obtain ⟨k, hk1, hkn, rfl, hD, hbl⟩ := hrel
    have hW := own_bel HOW.out hbl
    have hszr := hbl.size
    by_cases hlt : k < n
    · obtain ⟨q, hq⟩ : ∃ q, k = q + 1 := ⟨k - 1, by omega⟩
      have hkO : q + 1 < O.length := by rw [HLEN.out]; omega
      obtain ⟨t, ht⟩ : ∃ t, O[q] = t := ⟨_, rfl⟩
      obtain ⟨s, hs⟩ : ∃ s, O[q + 1] = s := ⟨_, rfl⟩
      have hts := HSTEP.out q t s hkO ht hs
      have htn := HMEM.out t (by rw [← ht]; exact List.getElem_mem _)
      have hsn := HMEM.out s (by rw [← hs]; exact List.getElem_mem _)
      have o0 := hW.cellAt q (by omega)
      have o1 := hW.cellAt k (by omega)
      rw [natsL_get O q (by omega), ht] at o0
      have hs' : O[k]'(by omega) = s := by rw [← hs]; congr 1
      rw [natsL_get O k (by omega), hs'] at o1
      have l0 := ((hb1.trans (hbl.mono hsz1)).cell (p := ⟨b, off + t, none⟩) hbw).trans (HC.out t htn)
      have l1 := ((hb1.trans (hbl.mono hsz1)).cell (p := ⟨b, off + s, none⟩) hbw).trans (HC.out s hsn)
      rw [(HLN.out t htn).1] at l0
      rw [(HLN.out s hsn).1] at l1
      have htin : t ∈ O.take k := by
        rw [hq, List.take_succ_eq_append_getElem (by omega), ht]; simp
      have hsin : s ∉ O.take k := by
        intro hmem
        rw [hq] at hmem
        have h1 := HND.out
        rw [← List.take_append_drop (q + 1) O, List.nodup_append] at h1
        have h2 : s ∈ O.drop (q + 1) := by rw [← List.getElem_cons_drop (h := hkO), hs]; simp
        exact h1.2.2 s hmem s h2 rfl
      have hne : ¬ s = t := fun e => hsin (by rw [e]; exact htin)
      have d0 := hD.cellAt t (by omega)
      have d1 := hD.cellAt s (by omega)
      rw [nats_get _ _ t htn, if_pos htin] at d0
      rw [nats_get _ _ s hsn, if_neg hsin] at d1
      have f1 := hD.frozenAt s
      have HST : Hid ((nats n fun x => if x ∈ O.take k then cd x else 0).set s (.int .i64 (cd s : Int)) = nats n fun x => if x ∈ O.take (k + 1) then cd x else 0) := hidden (by
        rw [nats_set, hq]
        refine nats_congr fun x hx => ?_
        rw [List.take_succ_eq_append_getElem hkO, hs]
        by_cases e : x = s
        · subst e; rw [if_pos rfl, if_pos (by simp)]
        · rw [if_neg e]
          by_cases h : x ∈ O.take (q + 1)
          · rw [if_pos h, if_pos (by simp [h])]
          · rw [if_neg h, if_neg (by simp [h, e])])
      obtain ⟨ct, hct⟩ : ∃ c, cd t = c := ⟨_, rfl⟩
      obtain ⟨cs, hcs⟩ : ∃ c, cd s = c := ⟨_, rfl⟩
      have hct2 := HLT.out t htn
      have hcs2 := HLT.out s hsn
      obtain ⟨x, hx⟩ : ∃ x, l t = x := ⟨_, rfl⟩
      obtain ⟨y, hy⟩ : ∃ y, l s = y := ⟨_, rfl⟩
      have hxr := (HLN.out t htn).2
      have hyr := (HLN.out s hsn).2
      rw [hct] at d0 hct2 hts
      rw [hcs] at hcs2 hts HST
      rw [hx] at l0 hxr hts
      rw [hy] at l1 hyr hts
      obtain ⟨d, hd⟩ : ∃ d, y - x = d := ⟨_, rfl⟩
      rw [hd] at hts
      have hdI : (y : Int) - (x : Int) = (d : Int) := by omega
      have i0 : IntKind.i64.wrap ((y : Int) - (x : Int)) = (d : Int) := by rw [hdI]; exact IntWalk.i64_in _ (by omega)
      have i1 : IntKind.i64.wrap ((ct : Int) + 1) = (ct : Int) + 1 := IntWalk.i64_in _ (by omega)
      have hd64 : min d 64 = d := by omega
      have i2 : IntKind.i64.wrap (((ct : Int) + 1) * 2 ^ min d 64) = (cs : Int) := by
        rw [hd64, hts.2]
        have : (((ct + 1) * 2 ^ d : Nat) : Int) = ((ct : Int) + 1) * 2 ^ d := by simp
        rw [← this, ← hts.2]; exact IntWalk.i64_in _ (by omega)
      have i3 : (k : Int) - 1 = (q : Int) := by omega
      have i4 : IntKind.i64.wrap ((k : Int) - 1) = (q : Int) := by rw [i3]; exact IntWalk.i64_in _ (by omega)
      have n1 : ¬ g1 = w1.heap.size := by omega
      have n2 : ¬ b = w1.heap.size := by omega
      have n3 : ¬ w1.heap.size = g1 := by omega
      have n4 : ¬ w1.heap.size = b := by omega
      have n5 : ¬ t = s := fun e => hne e.symm
      have m1 : (q : Int) < (n : Int) := by omega
      have m2 : (t : Int) < (n : Int) := by omega
      have m3 : (s : Int) < (n : Int) := by omega
      have m4 : (k : Int) < (n : Int) := by omega
      have m8 : (0 : Int) ≤ (k : Int) := by omega
      have m5 : (0 : Int) ≤ (q : Int) := by omega
      have m6 : (0 : Int) ≤ (t : Int) := by omega
      have m7 : (0 : Int) ≤ (s : Int) := by omega
      have hkeep : (wr.setCell ⟨w1.heap.size, s, none⟩ (.int .i64 (cs : Int))).cell? ⟨w1.heap.size, t, none⟩ = some (.int .i64 (ct : Int)) := by
        rw [World.cell?_setCell_other]
        · exact d0
        · intro e
          exact hne (by injection e)
      clear hW hs hs' ht hct hcs hx hy hts hd hsin htin hkO hdI hq hd64 i3
      go_wp2
      go_region_held3 (fun w' => w'.cell? ⟨g1, q, none⟩ = some (.int .i64 (t : Int)) ∧ w'.cell? ⟨g1, k, none⟩ = some (.int .i64 (s : Int)) ∧ w'.cell? ⟨b, off + t, none⟩ = some (.int .i64 (x : Int)) ∧ w'.cell? ⟨b, off + s, none⟩ = some (.int .i64 (y : Int)) ∧ w'.cell? ⟨w1.heap.size, t, none⟩ = some (.int .i64 (ct : Int))) (first | go_keep | (refine ⟨?_, ?_, ?_, ?_, ?_⟩; go_keep; go_keep; go_keep; go_keep; exact hkeep)) (fail)
      all_goals
        go_wp2
        exact ⟨⟨k + 1, by omega, by omega, by go_num, by
          have := (hD.stored s (.int .i64 (cs : Int))).1
          rw [HST.out] at this
          exact this, (hbl.setCell (Nat.le_refl _) _).drew⟩, by simp [intOf]; omega⟩
    · have hkn2 : k = n := by omega
      subst hkn2
      go_wp2
      go_ret
      refine ⟨_, rfl, Joins.ownsRow_le (?_ : World.ownsRow _ w1.heap.size _ _ _ _ _) hsz1, hb1.trans (hbl.mono hsz1)⟩
      rw [nats_congr (f := cd) (g := fun s => if s ∈ O.take k then cd s else 0) fun s hs => by
        rw [List.take_of_length_le (by rw [HLEN.out]; exact Nat.le_refl _), if_pos (HALL.out s hs)]]
      exact hD
end Go.Proofs.Ytdfbpmkdmpdobaa
namespace Go.Proofs.Ytdfbpmkdmpdobaa
set_option linter.unusedVariables false
set_option linter.unusedSimpArgs false
open Go.RowKit

theorem cdL_nats {ls : List Int} (h : lOk ls = true) : natsL (cdL ls) = nats ls.length (cdF ls) := by
  unfold cdL; rw [if_pos h]
  unfold natsL nats
  rw [List.map_map]; rfl
theorem specCodes_no (a : Option Addr) (cap B : Nat) (ls : List Int) (w : World) (hz : Ints w B a ls) (hok : lOk ls = false) :
    Calls Try.prog 31 #[.slice a ls.length cap] w fun e w' => e = .returned (.slice none 0 0) ∧ w' = w := by
  have K1 := hidden (specOrder_no a cap B ls w hz hok)
  go_enter Try.func31, Try.ntmps31
  go_wp2_with fail
  refine K1.out.mono ?_
  rintro e w' ⟨rfl, rfl⟩
  go_wp2
  go_ret
  exact ⟨rfl, rfl⟩
theorem specCodes_any (a : Option Addr) (cap B : Nat) (ls : List Int) (w : World) (hz : Ints w B a ls) (hB : B ≤ w.heap.size) :
    Calls Try.prog 31 #[.slice a ls.length cap] w fun e w' => ∃ v, e = .returned v ∧ w'.ownsRow w.heap.size 3 1 v (cdL ls).length (natsL (cdL ls)) ∧ Below w.heap.size w w' := by
  by_cases h : lOk ls = true
  · rw [cdL_len h, cdL_nats h]
    exact specCodes_yes a cap B ls w hz hB h
  · refine (specCodes_no a cap B ls w hz (by simpa using h)).mono ?_
    rintro e w' ⟨rfl, rfl⟩
    refine ⟨_, rfl, ?_, Below.refl _ _⟩
    unfold cdL; rw [if_neg h]
    exact World.ownsRow_nil _ _ _ _
set_option maxHeartbeats 1000000 in
set_option maxRecDepth 100000 in
theorem l4symsOk_any (a : Option Addr) (cap B n : Nat) (ss : List Int) (w : World) (hz : Ints w B a ss) (hn : n ≤ 140737488355328) :
    Calls Try.prog 51 #[.int .i64 n, .slice a ss.length cap] w fun e w' => e = .returned (.bool (symsB n ss)) ∧ w' = w := by
  have hl := hz.1
  by_cases h2 : 2000 < ss.length
  · have HF : Hid (symsB n ss = false) := hidden (by rw [Bool.eq_false_iff, Ne, symsB_iff]; omega)
    obtain ⟨m, hm⟩ : ∃ m, ss.length = m := ⟨_, rfl⟩
    rw [hm] at h2 hl ⊢
    clear hz hm
    go_enter Try.func51, Try.ntmps51
    go_wp2
    go_ret
    exact ⟨ret_bool HF.out.symm, rfl⟩
  · obtain ⟨m, hm⟩ : ∃ m, ss.length = m := ⟨_, rfl⟩
    have HM := hidden hm
    have HZ := hidden hz
    rw [hm] at h2 hl ⊢
    clear hz hm
    go_enter Try.func51, Try.ntmps51
    go_wp2
    go_loop [5] (fun si => ∃ k : Nat, k ≤ m ∧ si = .int .i64 k ∧ Hid (∀ j, j < k → 0 ≤ ss.getD j 0 ∧ ss.getD j 0 < (n : Int))) (fun si => m - (intOf si).toNat)
    case atStart => exact ⟨0, by omega, rfl, hidden fun j hj => by omega⟩
    case round =>
      obtain ⟨k, hk, rfl, H⟩ := hrel
      by_cases hlt : k < m
      · obtain ⟨b, off, rfl, hb, hc⟩ := HZ.out.2.2 (by rw [HM.out]; omega)
        have ck := hc k (by rw [HM.out]; exact hlt)
        obtain ⟨x, hx⟩ : ∃ x, ss.getD k 0 = x := ⟨_, rfl⟩
        rw [hx] at ck
        have HX := hidden hx
        clear hx hc
        by_cases c1 : x < 0
        · have HF : Hid (symsB n ss = false) := hidden (by rw [Bool.eq_false_iff, Ne, symsB_iff]; intro g; have := g.2 k (by rw [HM.out]; exact hlt); rw [HX.out] at this; omega)
          go_wp2
          go_ret
          exact ⟨ret_bool HF.out.symm, rfl⟩
        · by_cases c2 : (n : Int) ≤ x
          · have HF : Hid (symsB n ss = false) := hidden (by rw [Bool.eq_false_iff, Ne, symsB_iff]; intro g; have := g.2 k (by rw [HM.out]; exact hlt); rw [HX.out] at this; omega)
            go_wp2
            go_ret
            exact ⟨ret_bool HF.out.symm, rfl⟩
          · go_wp2
            go_round
            case rel => exact ⟨k + 1, by omega, by go_num, hidden fun j hj => by
              rcases Nat.lt_or_ge j k with g | g
              · exact H.out j g
              · obtain rfl : j = k := by omega
                rw [HX.out]; omega⟩
            case measure => simp [intOf]; omega
      · have HF : Hid (symsB n ss = true) := hidden (by rw [symsB_iff, HM.out]; exact ⟨by omega, fun j hj => H.out j (by omega)⟩)
        go_wp2
        go_ret
        exact ⟨ret_bool HF.out.symm, rfl⟩
/-- How many bits the symbols have; -1 where they are none. -/
def symBitsI (ls ss : List Int) : Int := if putOk ls ss = true then (lenSum ls ss ss.length : Int) else -1
set_option maxHeartbeats 2000000 in
set_option maxRecDepth 100000 in
theorem specSymBits_any (a a2 : Option Addr) (cap cap2 B : Nat) (ls ss : List Int) (w : World) (hz : Ints w B a ls) (hz2 : Ints w B a2 ss) :
    Calls Try.prog 33 #[.slice a ls.length cap, .slice a2 ss.length cap2] w fun e w' => e = .returned (.int .i64 (symBitsI ls ss)) ∧ Below w.heap.size w w' := by
  have K1 := hidden (specLensOk_any a cap B ls w hz)
  have K2 := hidden (fun (h : ls.length ≤ 140737488355328) => l4symsOk_any a2 cap2 B ls.length ss w hz2 h)
  obtain ⟨o1, ho1⟩ : ∃ o, lOk ls = o := ⟨_, rfl⟩
  obtain ⟨o2, ho2⟩ : ∃ o, symsB ls.length ss = o := ⟨_, rfl⟩
  have HP : Hid (putOk ls ss = (o1 && o2)) := hidden (by unfold putOk; rw [ho1, ho2])
  rw [ho1] at K1
  rw [ho2] at K2
  have hl := hz.1
  have hl2 := hz2.1
  cases o1
  · have HF : Hid (symBitsI ls ss = -1) := hidden (by unfold symBitsI; rw [HP.out]; rfl)
    clear hz hz2 ho1 ho2
    go_enter Try.func33, Try.ntmps33
    go_wp2_with fail
    refine K1.out.mono ?_
    rintro e w' ⟨rfl, rfl⟩
    go_wp2
    go_ret
    exact ⟨ret_int HF.out.symm, Below.refl _ _⟩
  · cases o2
    · have HF : Hid (symBitsI ls ss = -1) := hidden (by unfold symBitsI; rw [HP.out]; rfl)
      clear hz hz2 ho1 ho2
      go_enter Try.func33, Try.ntmps33
      go_wp2_with fail
      refine K1.out.mono ?_
      rintro e w' ⟨rfl, rfl⟩
      go_wp2_with fail
      refine (K2.out hl).mono ?_
      rintro e w' ⟨rfl, rfl⟩
      go_wp2
      go_ret
      exact ⟨ret_int HF.out.symm, Below.refl _ _⟩
    · have HF : Hid (symBitsI ls ss = (lenSum ls ss ss.length : Int)) := hidden (by unfold symBitsI; rw [HP.out]; rfl)
      have hr := lOk_range ho1
      have hs := (symsB_iff _ _).1 ho2
      have HLN : Hid (∀ s, s < ls.length → ls.getD s 0 = (lnF ls s : Int) ∧ lnF ls s ≤ 20) := hidden (fun s hs => ⟨lnF_int hr s hs, (lRange_ln hr s hs).2⟩)
      have HSUM : Hid (∀ k, k ≤ ss.length → lenSum ls ss k ≤ 20 * k) := hidden (fun k hk => lenSum_le hr hs.2 k hk)
      obtain ⟨n, hn⟩ : ∃ n, ls.length = n := ⟨_, rfl⟩
      obtain ⟨m, hm⟩ : ∃ m, ss.length = m := ⟨_, rfl⟩
      have hm2 : m ≤ 2000 := by rw [← hm]; exact hs.1
      have HS := hidden hs.2
      have HZ2 := hidden hz2
      obtain ⟨b, off, rfl, hb, hc⟩ := hz.2.2 hr.1
      have HC := hidden hc
      have HM := hidden hm
      rw [hn] at K1 K2 HLN HS HC hl ⊢
      rw [hm] at K2 HF HSUM HS hl2 ⊢
      clear hz hz2 ho1 ho2 hr hs hc hn hm
      go_enter Try.func33, Try.ntmps33
      go_wp2_with fail
      refine K1.out.mono ?_
      rintro e w' ⟨rfl, rfl⟩
      go_wp2_with fail
      refine (K2.out hl).mono ?_
      rintro e w' ⟨rfl, rfl⟩
      go_wp2
      go_loopw [5, 6] (fun sv si wr => ∃ k q nq : Nat, k ≤ m ∧ si = .int .i64 k ∧ sv = .int .i64 q ∧ Hid (q = lenSum ls ss k) ∧ q ≤ 20 * k ∧ wr = w'.drewN nq) (fun _ si _ => m - (intOf si).toNat)
      case atStart => exact ⟨0, 0, 0, by omega, rfl, rfl, hidden rfl, by omega, rfl⟩
      case round =>
        obtain ⟨k, q, nq, hk, rfl, rfl, HQ, hq, rfl⟩ := hrel
        by_cases hlt : k < m
        · obtain ⟨b2, off2, rfl, hb2, hc2⟩ := HZ2.out.2.2 (by rw [HM.out]; omega)
          have ck := hc2 k (by rw [HM.out]; exact hlt)
          have hx := HS.out k hlt
          obtain ⟨x, hxe⟩ : ∃ x : Nat, ss.getD k 0 = x := ⟨(ss.getD k 0).toNat, by omega⟩
          rw [hxe] at ck hx
          have hxn : x < n := by omega
          have cl := HC.out x hxn
          have hln := HLN.out x hxn
          rw [hln.1] at cl
          obtain ⟨y, hy⟩ : ∃ y, lnF ls x = y := ⟨_, rfl⟩
          rw [hy] at cl hln
          have HQ2 : Hid (q + y = lenSum ls ss (k + 1)) := hidden (by
            show _ = lenSum ls ss k + lnF ls (ss.getD k 0).toNat
            rw [HQ.out, hxe, Int.toNat_natCast, hy])
          clear hxe hy hc2 hx
          go_wp2
          (try go_quiet (fail))
          (try go_wp2)
          exact ⟨⟨k + 1, q + y, _, by omega, by go_num, by go_num, HQ2, by omega, rfl⟩, by simp [intOf]; omega⟩
        · have e : k = m := by omega
          subst e
          go_wp2
          go_ret
          exact ⟨ret_int (by rw [HF.out, HQ.out]), bel_drewN (Below.refl _ _) _⟩
end Go.Proofs.Ytdfbpmkdmpdobaa
namespace Go.Proofs.Ytdfbpmkdmpdobaa
set_option linter.unusedVariables false
set_option linter.unusedSimpArgs false
open Go.RowKit

theorem num_row_one (s : ByteArray) (a : Nat) : num (row s a 1) = bit s a := by simp [row, num]
theorem own_away_has {w w' : World} {b base n S : Nat} {E : TypeId} {v : Value} {xs : List Value} (h : w.ownsRow base E S v n xs) (ho : Only b w w') (hne : v.ownBlock ≠ some b) : w'.ownsRow base E S v n xs := h.kept ho (.inr hne)
set_option maxHeartbeats 4000000 in
set_option maxRecDepth 100000 in
theorem l4get_any (a : Option Addr) (cap B cb b at0 : Nat) (T : TypeId) (vc : Value) (ls : List Int) (s : ByteArray) (w : World) (hz : Ints w B a ls) (hok : lOk ls = true) (hown : w.ownsRow cb 3 1 vc ls.length (nats ls.length (cdF ls)))
    (hbB : B ≤ b) (hne : vc.ownBlock ≠ some b) (hs : s.size ≤ 1048576) (ha : at0 ≤ 8 * s.size) (hb : Has w b T #[.string s, .int .i64 at0]) :
    Calls Try.prog 60 #[.slice a ls.length cap, vc, .pointer (some ⟨b, 0, none⟩)] w fun e w' =>
      Only b w w' ∧ ((∃ n i, hit ls s at0 n i ∧ e = .returned (.int .i64 i) ∧ Has w' b T #[.string s, .int .i64 ((at0 + n : Nat) : Int)]) ∨
        ((∀ n i, ¬ hit ls s at0 n i) ∧ e = .returned (.int .i64 (-1)) ∧ Has w' b T #[.string s, .int .i64 at0])) := by
  have hr := lOk_range hok
  have HLN : Hid (∀ s, s < ls.length → ls.getD s 0 = (lnF ls s : Int) ∧ 1 ≤ lnF ls s ∧ lnF ls s ≤ 20) := hidden (fun s hs => ⟨lnF_int hr s hs, lRange_ln hr s hs⟩)
  have HLT := hidden (fun s hs => cdF_lt20 hok s hs)
  have HHIT : Hid (∀ n i, hit ls s at0 n i ↔ (i < ls.length ∧ lnF ls i = n ∧ at0 + n ≤ 8 * s.size ∧ num (row s at0 n) = cdF ls i)) := hidden (fun n i => Iff.rfl)
  obtain ⟨H, hH⟩ : ∃ H, hit ls s at0 = H := ⟨_, rfl⟩
  obtain ⟨cd, hcd⟩ : ∃ cd, cdF ls = cd := ⟨_, rfl⟩
  obtain ⟨l, hl⟩ : ∃ l, lnF ls = l := ⟨_, rfl⟩
  obtain ⟨n, hn⟩ : ∃ n, ls.length = n := ⟨_, rfl⟩
  have hn1 : 1 ≤ n := by rw [← hn]; exact hr.1
  have hn2 : n ≤ 260 := by rw [← hn]; exact hr.2.1
  obtain ⟨g1, o1, rfl, hgB, hc⟩ := hz.2.2 (by omega)
  have HC := hidden hc
  rw [hH] at HHIT ⊢
  rw [hcd] at HLT HHIT hown
  rw [hl] at HLN HHIT
  rw [hn] at HLN HLT HHIT HC hown ⊢
  obtain ⟨g2, c2, hv⟩ := Joins.ownsRow_form hown (by omega)
  subst hv
  have hg2 : g2 ≠ b := fun e => hne (by rw [e]; rfl)
  have hbl := hb.lt
  have hg1b : g1 ≠ b := by omega
  have hg1w : g1 < w.heap.size := by omega
  have HOW := hidden hown
  have c0 := hb.cell 0
  have c1 := hb.cell 1
  simp at c0 c1
  clear hz hc hok hr hH hcd hl hn hown hne
  go_enter Try.func60, Try.ntmps60
  go_wp2
  go_loopw [8, 9] (fun sv sn wr => ∃ m : Nat, m ≤ 20 ∧ sn = .int .i64 ((m : Int) + 1) ∧ sv = .int .i64 (num (row s at0 m)) ∧ Hid (at0 + m ≤ 8 * s.size) ∧ Hid (∀ q i, q ≤ m → ¬ H q i) ∧ Has wr b T #[.string s, .int .i64 ((at0 + m : Nat) : Int)] ∧ Only b w wr) (fun _ sn _ => 21 - (intOf sn).toNat)
  case atStart => exact ⟨0, Nat.zero_le _, rfl, rfl, hidden (by omega), hidden (fun q i hq h => by
    have h1 := (HHIT.out q i).1 h
    have h2 := (HLN.out i h1.1).2
    omega), hb, Only.refl _ _⟩
  case round =>
    obtain ⟨m, hm, rfl, rfl, Hle, Hno, hB, hO⟩ := hrel
    clear c0 c1
    have c0 := hB.cell 0
    have c1 := hB.cell 1
    have f1 := hB.free 1
    simp at c0 c1
    by_cases hm20 : m < 20
    · have hmI : (m : Int) + 1 ≤ 20 := by omega
      by_cases hroom : at0 + m + 1 ≤ 8 * s.size
      · have KG := hidden (l1get_yes s (at0 + m) 1 b T wr hs (by decide) hroom hB)
        rw [num_row_one] at KG
        have hbt := bit_lt s (at0 + m)
        have hnx := num_row_succ s at0 m
        have hv : num (row s at0 m) < 2 ^ 20 := Nat.lt_of_lt_of_le (num_row_lt s at0 m) (Nat.pow_le_pow_right (by omega) (by omega))
        obtain ⟨v0, hv0⟩ : ∃ v0, num (row s at0 m) = v0 := ⟨_, rfl⟩
        obtain ⟨v1, hv1⟩ : ∃ v1, num (row s at0 (m + 1)) = v1 := ⟨_, rfl⟩
        obtain ⟨bt, hbt0⟩ : ∃ x, bit s (at0 + m) = x := ⟨_, rfl⟩
        rw [hv0] at hnx hv ⊢
        rw [hv1] at hnx
        rw [hbt0] at hnx hbt KG
        have HV1 := hidden hv1
        have hvI : 2 * (v0 : Int) + (bt : Int) = (v1 : Int) := by omega
        have hbt1 : ¬ (bt : Int) < 0 := by omega
        clear hv0 hv1 hbt0 hnx c0 c1
        go_wp2_with fail
        refine KG.out.mono ?_
        rintro e wa ⟨rfl, hB1, hO1⟩
        have hO2 : Only b w wa := ⟨hO1.os.trans hO.os, hO1.tape.trans hO.tape, hO1.output.trans hO.output, Nat.le_trans hO.size hO1.size, fun i hi hne => (hO1.block i (Nat.lt_of_lt_of_le hi hO.size) hne).trans (hO.block i hi hne)⟩
        clear hO1 hO hB KG
        go_wp2
        (try rw [hvI])
        go_loopw [11] (fun si wx => ∃ i nq : Nat, i ≤ n ∧ si = .int .i64 i ∧ Hid (∀ j, j < i → ¬ H (m + 1) j) ∧ wx = wa.drewN nq) (fun si _ => n - (intOf si).toNat)
        case atStart => exact ⟨0, 0, Nat.zero_le _, rfl, hidden (fun j hj => by omega), rfl⟩
        case round =>
          obtain ⟨i, nq, hi, rfl, Hj, rfl⟩ := hrel
          by_cases hlt : i < n
          · have ck := ((ocell hO2).1 g1 (o1 + i) hg1w hg1b).trans (HC.out i hlt)
            have hln := HLN.out i hlt
            rw [hln.1] at ck
            have cc := (own_away_has HOW.out hO2 (by simpa [Value.ownBlock] using hg2)).cellAt i (by omega)
            rw [nats_get _ _ i hlt] at cc
            have hcl := HLT.out i hlt
            obtain ⟨x, hx⟩ : ∃ x, l i = x := ⟨_, rfl⟩
            obtain ⟨y, hy⟩ : ∃ y, cd i = y := ⟨_, rfl⟩
            rw [hx] at ck hln
            rw [hy] at cc hcl
            by_cases hxm : x = m + 1
            · have e1 : ((x : Int) == (m : Int) + 1) = true := by rw [beq_iff_eq]; omega
              by_cases hyv : y = v1
              · have e2 : ((y : Int) == (v1 : Int)) = true := by rw [beq_iff_eq]; omega
                have HH : Hid (H (m + 1) i) := hidden ((HHIT.out _ _).2 ⟨hlt, by rw [hx, hxm], by omega, by rw [HV1.out, hy, hyv]⟩)
                clear hx hy hxm hyv hln
                go_wp2
                (try go_quiet (fail))
                (try go_wp2)
                go_ret
                exact ⟨hO2.drewN _, .inl ⟨m + 1, i, HH.out, rfl, hB1.drewN _⟩⟩
              · have e2 : ((y : Int) == (v1 : Int)) = false := by rw [beq_eq_false_iff_ne]; omega
                have HN2 : Hid (∀ j, j < i + 1 → ¬ H (m + 1) j) := hidden (fun j hj h => by
                  rcases Nat.lt_or_ge j i with g | g
                  · exact Hj.out j g h
                  · obtain rfl : j = i := by omega
                    have := ((HHIT.out _ _).1 h).2.2.2
                    rw [HV1.out, hy] at this
                    exact hyv this.symm)
                clear hx hy hxm hyv hln
                go_wp2
                (try go_quiet (fail))
                (try go_wp2)
                exact ⟨⟨i + 1, _, by omega, by go_num, HN2, rfl⟩, by simp [intOf]; omega⟩
            · have e1 : ((x : Int) == (m : Int) + 1) = false := by rw [beq_eq_false_iff_ne]; omega
              have HN2 : Hid (∀ j, j < i + 1 → ¬ H (m + 1) j) := hidden (fun j hj h => by
                rcases Nat.lt_or_ge j i with g | g
                · exact Hj.out j g h
                · obtain rfl : j = i := by omega
                  have := ((HHIT.out _ _).1 h).2.1
                  rw [hx] at this
                  exact hxm this)
              clear hx hy hxm hln
              go_wp2
              (try go_quiet (fail))
              (try go_wp2)
              exact ⟨⟨i + 1, _, by omega, by go_num, HN2, rfl⟩, by simp [intOf]; omega⟩
          · have hin : i = n := by omega
            subst hin
            have HN3 : Hid (∀ q j, q ≤ m + 1 → ¬ H q j) := hidden (fun q j hq h => by
              rcases Nat.lt_or_ge q (m + 1) with g | g
              · exact Hno.out q j (by omega) h
              · obtain rfl : q = m + 1 := by omega
                exact Hj.out j ((HHIT.out _ _).1 h).1 h)
            go_wp2
            exact ⟨⟨m + 1, by omega, by go_num, by rw [HV1.out], hidden (by omega), HN3, hB1.drewN _, hO2.drewN _⟩, by simp [intOf]; omega⟩
      · have KG := hidden (l1get_none s (at0 + m) 1 b T wr hs (by decide) Hle.out (by omega) hB)
        have HN3 : Hid (∀ q j, ¬ H q j) := hidden (fun q j h => by
          rcases Nat.lt_or_ge m q with g | g
          · have := ((HHIT.out _ _).1 h).2.2.1
            omega
          · exact Hno.out q j g h)
        go_wp2_with fail
        refine KG.out.mono ?_
        rintro e wa ⟨rfl, nq, rfl⟩
        go_wp2
        go_ret
        refine ⟨(hO.drewN nq).store (.inl rfl) _, .inr ⟨HN3.out, rfl, ?_⟩⟩
        have := (hB.drewN nq).store 1 (.int .i64 (at0 : Int))
        simpa using this
    · have hmI : ¬ (m : Int) + 1 ≤ 20 := by omega
      have HN3 : Hid (∀ q j, ¬ H q j) := hidden (fun q j h => by
        have h1 := (HHIT.out q j).1 h
        have h2 := (HLN.out j h1.1).2
        exact Hno.out q j (by omega) h)
      go_wp2
      go_ret
      refine ⟨hO.store (.inl rfl) _, .inr ⟨HN3.out, rfl, ?_⟩⟩
      have := hB.store 1 (.int .i64 (at0 : Int))
      simpa using this
end Go.Proofs.Ytdfbpmkdmpdobaa
namespace Go.Proofs.Ytdfbpmkdmpdobaa
set_option linter.unusedVariables false
set_option linter.unusedSimpArgs false
open Go.RowKit

set_option maxHeartbeats 2000000 in
set_option maxRecDepth 100000 in
theorem specGetSym_yes (a : Option Addr) (cap B at0 n0 i0 : Nat) (ls : List Int) (s : ByteArray) (w : World) (hz : Ints w B a ls) (hB : B ≤ w.heap.size) (hok : lOk ls = true) (hs : s.size ≤ 1048576) (ha : at0 ≤ 8 * s.size) (hh : hit ls s at0 n0 i0) :
    Calls Try.prog 35 #[.slice a ls.length cap, .agg #[.string s, .int .i64 at0]] w fun e w' => e = .returned (.tuple #[.int .i64 i0, .agg #[.string s, .int .i64 ((at0 + n0 : Nat) : Int)], .bool true]) ∧ Below w.heap.size w w' := by
  have K1 := hidden (fun W h => specLensOk_any a cap B ls W h)
  rw [hok] at K1
  have K2 := hidden (fun W h1 h2 => specCodes_yes a cap B ls W h1 h2 hok)
  have K3 : Hid (∀ (W : World) (b cb : Nat) (vc : Value), Ints W B a ls → W.ownsRow cb 3 1 vc ls.length (nats ls.length (cdF ls)) → B ≤ b → vc.ownBlock ≠ some b → Has W b 37 #[.string s, .int .i64 at0] →
      Calls Try.prog 60 #[.slice a ls.length cap, vc, .pointer (some ⟨b, 0, none⟩)] W fun e w' => Only b W w' ∧ e = .returned (.int .i64 i0) ∧ Has w' b 37 #[.string s, .int .i64 ((at0 + n0 : Nat) : Int)]) := hidden (fun W b cb vc h1 h2 h3 h4 h5 => by
    refine (l4get_any a cap B cb b at0 _ vc ls s W h1 hok h2 h3 h4 hs ha h5).mono ?_
    rintro e w' ⟨hO, ⟨n, i, hni, rfl, hH⟩ | ⟨hno, _⟩⟩
    · obtain ⟨rfl, rfl⟩ := hit_one hok hni hh
      exact ⟨hO, rfl, hH⟩
    · exact absurd hh (hno _ _))
  have hI := hz.below (((Below.refl w.heap.size w).alloc (Nat.le_refl _) (.cells #[.string s, .int .i64 at0] 37)).mono hB)
  have HI := hidden hz
  obtain ⟨n, hn⟩ : ∃ n, ls.length = n := ⟨_, rfl⟩
  rw [hn] at K1 K2 K3 ⊢
  have hR := (Has.fresh w 37 #[.string s, .int .i64 at0]).alloc (.cells #[.string ⟨#[]⟩, .int .i64 0] 37)
  have bb : Below w.heap.size w ((w.alloc (.cells #[.string s, .int .i64 at0] 37)).alloc (.cells #[.string ⟨#[]⟩, .int .i64 0] 37)) := ((Below.refl _ _).alloc (Nat.le_refl _) _).alloc (by simp) _
  have hS := Has.freshAt (w := w.alloc (.cells #[.string s, .int .i64 at0] 37)) (g := w.heap.size + 1) (by simp) 37 #[.string ⟨#[]⟩, .int .i64 0]
  clear hz hn hh hok hI
  go_enter Try.func35, Try.ntmps35
  go_wp2_with fail
  refine (K1.out _ (HI.out.below (bb.mono hB))).mono ?_
  rintro e w1 ⟨rfl, hw1⟩
  rw [← hw1] at hR hS bb
  clear hw1
  have c0 := hR.cell 0
  have c1 := hR.cell 1
  simp at c0 c1
  have hs1 := bb.size
  go_wp2_with fail
  refine (specRdOk_yes s at0 _ hs ha).mono ?_
  rintro e w2 ⟨rfl, b2⟩
  replace bb := bel_then b2 hs1 bb
  replace hR := hR.below b2 hR.lt
  replace hS := hS.below b2 hS.lt
  have hs2 := bb.size
  have hRl := hR.lt
  have hSl := hS.lt
  clear c0 c1 b2
  go_wp2_with fail
  refine (K2.out _ (HI.out.below (bb.mono hB)) (Nat.le_trans hB hs2)).mono ?_
  rintro e w3 ⟨vc, rfl, hown, b3⟩
  replace bb := bel_then b3 hs2 bb
  replace hR := hR.below b3 hR.lt
  replace hS := hS.below b3 hS.lt
  have hs3 := bb.size
  go_wp2_with fail
  refine (K3.out _ w.heap.size _ vc (HI.out.below (bb.mono hB)) hown hB (fun he => by have := (hown.lt _ he).1; omega) hR).mono ?_
  rintro e w4 ⟨hO4, rfl, hR4⟩
  have hS4 := hO4.has hS (by omega)
  have bb4 : Below w.heap.size w w4 := only_then hO4 (Nat.le_refl _) hs3 bb
  have hk0 : ¬ (i0 : Int) < 0 := by omega
  have d0 := hR4.cell 0
  have d1 := hR4.cell 1
  have e0 := hS4.cell 0
  have e1 := hS4.cell 1
  have g0 := hS4.free 0
  have g1 := hS4.free 1
  simp at d0 d1 e0 e1
  have hSl4 := hS4.lt
  clear hR4 hS4 hR hS hown b3 bb hO4
  go_wp2
  (try go_region)
  all_goals (try go_wp2)
  all_goals
    refine bodyPost_ret (v := .tuple #[.int .i64 i0, .agg #[.string s, .int .i64 ((at0 + n0 : Nat) : Int)], .bool true]) (by simp [results, Try.results35, go_sem, d0, d1, e0, e1, g0, g1]) rfl ⟨rfl, ?_⟩
    repeat (first | exact Below.refl _ _ | assumption | refine Below.alloc ?_ (by (try simp); (try omega)) _ | refine Below.setCell ?_ (by (try simp); (try omega)) _ | refine Below.drew ?_)
set_option maxHeartbeats 2000000 in
set_option maxRecDepth 100000 in
theorem specGetSym_no (a : Option Addr) (cap B : Nat) (at0 : Int) (ls : List Int) (s : ByteArray) (w : World) (hz : Ints w B a ls) (hB : B ≤ w.heap.size) (hs : s.size ≤ 1048576) (b1 : -9223372036854775808 ≤ at0) (b2 : at0 ≤ 9223372036854775807)
    (h : ¬ (lOk ls = true ∧ 0 ≤ at0 ∧ at0 ≤ 8 * s.size ∧ ∃ n i, hit ls s at0.toNat n i)) :
    Calls Try.prog 35 #[.slice a ls.length cap, .agg #[.string s, .int .i64 at0]] w fun e w' => e = .returned (.tuple #[.int .i64 (-1), .agg #[.string ⟨#[]⟩, .int .i64 0], .bool false]) ∧ Below w.heap.size w w' := by
  have K1 := hidden (fun W h => specLensOk_any a cap B ls W h)
  have HI := hidden hz
  have hR := (Has.fresh w 37 #[.string s, .int .i64 at0]).alloc (.cells #[.string ⟨#[]⟩, .int .i64 0] 37)
  have bb : Below w.heap.size w ((w.alloc (.cells #[.string s, .int .i64 at0] 37)).alloc (.cells #[.string ⟨#[]⟩, .int .i64 0] 37)) := ((Below.refl _ _).alloc (Nat.le_refl _) _).alloc (by simp) _
  have hS := Has.freshAt (w := w.alloc (.cells #[.string s, .int .i64 at0] 37)) (g := w.heap.size + 1) (by simp) 37 #[.string ⟨#[]⟩, .int .i64 0]
  obtain ⟨n, hn⟩ : ∃ n, ls.length = n := ⟨_, rfl⟩
  by_cases hok : lOk ls = true
  · rw [hok] at K1
    by_cases ha : 0 ≤ at0 ∧ at0 ≤ 8 * s.size
    · obtain ⟨q, rfl⟩ : ∃ q : Nat, at0 = q := ⟨at0.toNat, by omega⟩
      have hq : q ≤ 8 * s.size := by omega
      have hno : ∀ n i, ¬ hit ls s q n i := fun n i hh => h ⟨hok, ha.1, ha.2, n, i, by simpa using hh⟩
      have K2 := hidden (fun W h1 h2 => specCodes_yes a cap B ls W h1 h2 hok)
      have K3 : Hid (∀ (W : World) (b cb : Nat) (vc : Value), Ints W B a ls → W.ownsRow cb 3 1 vc ls.length (nats ls.length (cdF ls)) → B ≤ b → vc.ownBlock ≠ some b → Has W b 37 #[.string s, .int .i64 q] →
          Calls Try.prog 60 #[.slice a ls.length cap, vc, .pointer (some ⟨b, 0, none⟩)] W fun e w' => Only b W w' ∧ e = .returned (.int .i64 (-1)) ∧ Has w' b 37 #[.string s, .int .i64 q]) := hidden (fun W b cb vc h1 h2 h3 h4 h5 => by
        refine (l4get_any a cap B cb b q _ vc ls s W h1 hok h2 h3 h4 hs hq h5).mono ?_
        rintro e w' ⟨hO, ⟨n, i, hni, rfl, hH⟩ | ⟨_, rfl, hH⟩⟩
        · exact absurd hni (hno _ _)
        · exact ⟨hO, rfl, hH⟩)
      rw [hn] at K1 K2 K3 ⊢
      clear hz hn hok h ha hno
      go_enter Try.func35, Try.ntmps35
      go_wp2_with fail
      refine (K1.out _ (HI.out.below (bb.mono hB))).mono ?_
      rintro e w1 ⟨rfl, hw1⟩
      rw [← hw1] at hR hS bb
      clear hw1
      have c0 := hR.cell 0
      have c1 := hR.cell 1
      simp at c0 c1
      have hs1 := bb.size
      go_wp2_with fail
      refine (specRdOk_yes s q _ hs hq).mono ?_
      rintro e w2 ⟨rfl, b2⟩
      replace bb := bel_then b2 hs1 bb
      replace hR := hR.below b2 hR.lt
      replace hS := hS.below b2 hS.lt
      have hs2 := bb.size
      have hRl := hR.lt
      clear c0 c1 b2
      go_wp2_with fail
      refine (K2.out _ (HI.out.below (bb.mono hB)) (Nat.le_trans hB hs2)).mono ?_
      rintro e w3 ⟨vc, rfl, hown, b3⟩
      replace bb := bel_then b3 hs2 bb
      replace hR := hR.below b3 hR.lt
      replace hS := hS.below b3 hS.lt
      have hs3 := bb.size
      go_wp2_with fail
      refine (K3.out _ w.heap.size _ vc (HI.out.below (bb.mono hB)) hown hB (fun he => by have := (hown.lt _ he).1; omega) hR).mono ?_
      rintro e w4 ⟨hO4, rfl, hR4⟩
      have hS4 := hO4.has hS (by omega)
      have bb4 : Below w.heap.size w w4 := only_then hO4 (Nat.le_refl _) hs3 bb
      have e0 := hS4.cell 0
      have e1 := hS4.cell 1
      have g0 := hS4.free 0
      have g1 := hS4.free 1
      simp at e0 e1
      clear hR4 hS4 hR hS hown b3 bb hO4
      go_wp2
      refine bodyPost_ret (v := .tuple #[.int .i64 (-1), .agg #[.string ⟨#[]⟩, .int .i64 0], .bool false]) (by simp [results, Try.results35, go_sem, e0, e1, g0, g1]) rfl ⟨rfl, ?_⟩
      repeat (first | exact Below.refl _ _ | assumption | refine Below.alloc ?_ (by (try simp); (try omega)) _ | refine Below.setCell ?_ (by (try simp); (try omega)) _ | refine Below.drew ?_)
    · rw [hn] at K1 ⊢
      clear hz hn hok h
      go_enter Try.func35, Try.ntmps35
      go_wp2_with fail
      refine (K1.out _ (HI.out.below (bb.mono hB))).mono ?_
      rintro e w1 ⟨rfl, hw1⟩
      rw [← hw1] at hR hS bb
      clear hw1
      have c0 := hR.cell 0
      have c1 := hR.cell 1
      simp at c0 c1
      have hs1 := bb.size
      go_wp2_with fail
      refine (specRdOk_no s at0 _ hs b1 b2 ha).mono ?_
      rintro e w2 ⟨rfl, b3⟩
      replace bb := bel_then b3 hs1 bb
      replace hS := hS.below b3 hS.lt
      have hs2 := bb.size
      have e0 := hS.cell 0
      have e1 := hS.cell 1
      have g0 := hS.free 0
      have g1 := hS.free 1
      simp at e0 e1
      clear c0 c1 b3 hR hS
      go_wp2
      refine bodyPost_ret (v := .tuple #[.int .i64 (-1), .agg #[.string ⟨#[]⟩, .int .i64 0], .bool false]) (by simp [results, Try.results35, go_sem, e0, e1, g0, g1]) rfl ⟨rfl, ?_⟩
      repeat (first | exact Below.refl _ _ | assumption | refine Below.alloc ?_ (by (try simp); (try omega)) _ | refine Below.setCell ?_ (by (try simp); (try omega)) _ | refine Below.drew ?_)
  · have hok' : lOk ls = false := by simpa using hok
    rw [hok', hn] at K1
    rw [hn]
    clear hz hn hok h hok'
    go_enter Try.func35, Try.ntmps35
    go_wp2_with fail
    refine (K1.out _ (HI.out.below (bb.mono hB))).mono ?_
    rintro e w1 ⟨rfl, hw1⟩
    rw [← hw1] at hR hS bb
    clear hw1
    have hs1 := bb.size
    have e0 := hS.cell 0
    have e1 := hS.cell 1
    have g0 := hS.free 0
    have g1 := hS.free 1
    simp at e0 e1
    clear hR hS
    go_wp2
    refine bodyPost_ret (v := .tuple #[.int .i64 (-1), .agg #[.string ⟨#[]⟩, .int .i64 0], .bool false]) (by simp [results, Try.results35, go_sem, e0, e1, g0, g1]) rfl ⟨rfl, ?_⟩
    repeat (first | exact Below.refl _ _ | assumption | refine Below.alloc ?_ (by (try simp); (try omega)) _ | refine Below.setCell ?_ (by (try simp); (try omega)) _ | refine Below.drew ?_)
end Go.Proofs.Ytdfbpmkdmpdobaa
namespace Go.Proofs.Ytdfbpmkdmpdobaa
set_option linter.unusedVariables false
set_option linter.unusedSimpArgs false
open Go.RowKit

/-- The model's own reading, one more symbol of xs. -/
theorem l4get_hit (a : Option Addr) (cap B cb b at0 n0 i0 : Nat) (T : TypeId) (vc : Value) (ls : List Int) (s : ByteArray) (w : World) (hz : Ints w B a ls) (hok : lOk ls = true) (hown : w.ownsRow cb 3 1 vc ls.length (nats ls.length (cdF ls)))
    (hbB : B ≤ b) (hne : vc.ownBlock ≠ some b) (hs : s.size ≤ 1048576) (ha : at0 ≤ 8 * s.size) (hb : Has w b T #[.string s, .int .i64 at0]) (hh : hit ls s at0 n0 i0) :
    Calls Try.prog 60 #[.slice a ls.length cap, vc, .pointer (some ⟨b, 0, none⟩)] w fun e w' => Only b w w' ∧ e = .returned (.int .i64 i0) ∧ Has w' b T #[.string s, .int .i64 ((at0 + n0 : Nat) : Int)] := by
  refine (l4get_any a cap B cb b at0 T vc ls s w hz hok hown hbB hne hs ha hb).mono ?_
  rintro e w' ⟨hO, ⟨n, i, hni, rfl, hH⟩ | ⟨hno, _⟩⟩
  · obtain ⟨rfl, rfl⟩ := hit_one hok hni hh
    exact ⟨hO, rfl, hH⟩
  · exact absurd hh (hno _ _)
theorem reads_at {ls : List Int} {s : ByteArray} {c b : Nat} {xs : List Nat} (k : Nat) (hk : k < xs.length) (h : Reads ls s c (xs.drop k) b) : ∃ n, hit ls s c n xs[k] ∧ Reads ls s (c + n) (xs.drop (k + 1)) b := by
  rw [← List.getElem_cons_drop (h := hk)] at h
  cases h with
  | cons _ n _ _ _ hh hr => exact ⟨n, hh, hr⟩
theorem l4get_none (a : Option Addr) (cap B cb b at0 : Nat) (T : TypeId) (vc : Value) (ls : List Int) (s : ByteArray) (w : World) (hz : Ints w B a ls) (hok : lOk ls = true) (hown : w.ownsRow cb 3 1 vc ls.length (nats ls.length (cdF ls)))
    (hbB : B ≤ b) (hne : vc.ownBlock ≠ some b) (hs : s.size ≤ 1048576) (ha : at0 ≤ 8 * s.size) (hb : Has w b T #[.string s, .int .i64 at0]) (hh : ∀ n i, ¬ hit ls s at0 n i) :
    Calls Try.prog 60 #[.slice a ls.length cap, vc, .pointer (some ⟨b, 0, none⟩)] w fun e w' => Only b w w' ∧ e = .returned (.int .i64 (-1)) := by
  refine (l4get_any a cap B cb b at0 T vc ls s w hz hok hown hbB hne hs ha hb).mono ?_
  rintro e w' ⟨hO, ⟨n, i, hni, rfl, hH⟩ | ⟨hno, rfl, _⟩⟩
  · exact absurd hni (hh _ _)
  · exact ⟨hO, rfl⟩
set_option maxHeartbeats 4000000 in
set_option maxRecDepth 100000 in
theorem specGetSyms_yes (a : Option Addr) (cap B at0 n c0 : Nat) (ls : List Int) (xs : List Nat) (s : ByteArray) (w : World) (hz : Ints w B a ls) (hB : B ≤ w.heap.size) (hok : lOk ls = true) (hs : s.size ≤ 1048576) (ha : at0 ≤ 8 * s.size) (hn : n ≤ 2000) (hx : xs.length = n) (hrd : Reads ls s at0 xs c0) :
    Calls Try.prog 23 #[.slice a ls.length cap, .agg #[.string s, .int .i64 at0], .int .i64 n] w fun e w' => ∃ v, e = .returned (.tuple #[v, .agg #[.string s, .int .i64 c0], .bool true]) ∧ w'.ownsRow w.heap.size 3 1 v n (natsL xs) ∧ Below w.heap.size w w' := by
  obtain ⟨i0, hi, hz0, hz1, hz2⟩ := info_parts Try.infoInt
  have hlr := lOk_range hok
  have K1 := hidden (fun W h => specLensOk_any a cap B ls W h)
  rw [hok] at K1
  have K2 := hidden (fun W h1 h2 => specCodes_yes a cap B ls W h1 h2 hok)
  have K3 := hidden (fun (W : World) (b cb c n x : Nat) (vc : Value) (h1 : Ints W B a ls) (h2 : W.ownsRow cb 3 1 vc ls.length (nats ls.length (cdF ls))) (h3 : B ≤ b) (h4 : vc.ownBlock ≠ some b) (h5 : Has W b 37 #[.string s, .int .i64 c]) (h6 : c ≤ 8 * s.size) (h7 : hit ls s c n x) => l4get_hit a cap B cb b c n x _ vc ls s W h1 hok h2 h3 h4 hs h6 h5 h7)
  have HI := hidden hz
  have HX := hidden hx
  have HRD := hidden hrd
  have HMEM : Hid (∀ x ∈ xs, x < 260) := hidden (fun x hxm => Nat.lt_of_lt_of_le (hrd.mem x hxm) hlr.2.1)
  obtain ⟨m, hm⟩ : ∃ m, ls.length = m := ⟨_, rfl⟩
  have hm1 : 1 ≤ m := by rw [← hm]; exact hlr.1
  rw [hm] at K1 K2 K3 ⊢
  have hR := (Has.fresh w 37 #[.string s, .int .i64 at0]).alloc (.cells #[.string ⟨#[]⟩, .int .i64 0] 37)
  have bb : Below w.heap.size w ((w.alloc (.cells #[.string s, .int .i64 at0] 37)).alloc (.cells #[.string ⟨#[]⟩, .int .i64 0] 37)) := ((Below.refl _ _).alloc (Nat.le_refl _) _).alloc (by simp) _
  have hS := Has.freshAt (w := w.alloc (.cells #[.string s, .int .i64 at0] 37)) (g := w.heap.size + 1) (by simp) 37 #[.string ⟨#[]⟩, .int .i64 0]
  clear hz hm hok hlr hx hrd
  go_enter Try.func23, Try.ntmps23
  go_wp2_with fail
  refine (K1.out _ (HI.out.below (bb.mono hB))).mono ?_
  rintro e w1 ⟨rfl, hw1⟩
  rw [← hw1] at hR hS bb
  clear hw1
  have q0 := hR.cell 0
  have q1 := hR.cell 1
  simp at q0 q1
  have hs1 := bb.size
  go_wp2_with fail
  refine (specRdOk_yes s at0 _ hs ha).mono ?_
  rintro e w2 ⟨rfl, b2⟩
  replace bb := bel_then b2 hs1 bb
  replace hR := hR.below b2 hR.lt
  replace hS := hS.below b2 hS.lt
  have hs2 := bb.size
  have hRl := hR.lt
  have hSl := hS.lt
  clear q0 q1 b2
  go_wp2_with fail
  refine (K2.out _ (HI.out.below (bb.mono hB)) (Nat.le_trans hB hs2)).mono ?_
  rintro e w3 ⟨vc, rfl, hown, b3⟩
  obtain ⟨gc, cc, hvc⟩ := Joins.ownsRow_form hown hm1
  subst hvc
  have hgc := hown.lt gc rfl
  replace bb := bel_then b3 hs2 bb
  replace hR := hR.below b3 hR.lt
  replace hS := hS.below b3 hS.lt
  have hs3 := bb.size
  have hRl3 := hR.lt
  have hSl3 := hS.lt
  clear b3
  go_wp2
  go_loopw [9, 11] (fun vo sk wr => ∃ k c : Nat, k ≤ n ∧ sk = .int .i64 k ∧ c ≤ 8 * s.size ∧ Hid (Reads ls s c (xs.drop k) c0) ∧ wr.ownsRow w3.heap.size 3 1 vo k (natsL (xs.take k)) ∧ Hid (wr.ownsRow w2.heap.size 3 1 (.slice (some ⟨gc, 0, none⟩) m cc) m (nats m (cdF ls))) ∧
    Has wr w.heap.size 37 #[.string s, .int .i64 c] ∧ Has wr (w.heap.size + 1) 37 #[.string ⟨#[]⟩, .int .i64 0] ∧ Below w.heap.size w wr ∧ w3.heap.size ≤ wr.heap.size) (fun _ sk _ => n - (intOf sk).toNat)
  case atStart => exact ⟨0, at0, Nat.zero_le _, rfl, ha, HRD, World.ownsRow_nil _ _ _ _, hidden hown, hR, hS, bb, Nat.le_refl _⟩
  case round =>
    obtain ⟨k, c, hk, rfl, hc, Hrd, hownO, HownC, hR', hS', bb', hs'⟩ := hrel
    clear hR hS bb hown
    by_cases hlt : k < n
    · have hkx : k < xs.length := by rw [HX.out]; exact hlt
      obtain ⟨n1, hh, hnext⟩ := reads_at k hkx Hrd.out
      obtain ⟨x, hxe⟩ : ∃ x, xs[k] = x := ⟨_, rfl⟩
      rw [hxe] at hh
      have hx260 := HMEM.out x (by rw [← hxe]; exact List.getElem_mem _)
      have hcn := hh.2.2.1
      have HNEXT := hidden hnext
      have HTK : Hid (natsL (xs.take (k + 1)) = natsL (xs.take k) ++ [.int .i64 (x : Int)]) := hidden (by rw [List.take_succ_eq_append_getElem hkx, natsL_append, hxe]; rfl)
      have hx0 : ¬ (x : Int) < 0 := by omega
      have KK := hidden (K3.out wr w.heap.size _ c n1 x _ (HI.out.below (bb'.mono hB)) HownC.out hB (by simp [Value.ownBlock]; omega) hR' hc hh)
      clear hnext hh hxe
      go_wp2_with fail
      refine KK.out.mono ?_
      rintro e w4 ⟨hO, rfl, hR4⟩
      have hS4 := hO.has hS' (by omega)
      have hownO4 := own_away_has hownO hO (fun he => by have := (hownO.lt _ he).1; omega)
      have HownC4 := own_away_has HownC.out hO (by simp [Value.ownBlock]; omega)
      have bb4 : Below w.heap.size w w4 := only_then hO (Nat.le_refl _) bb'.size bb'
      have hs4 : w3.heap.size ≤ w4.heap.size := Nat.le_trans hs' hO.size
      clear hO hR' hS' hownO HownC bb' KK
      go_wp2_with (at_builtin; refine wpList_append_own_at _ rfl _ _ 23 rfl w3.heap.size 3 i0 (.int .i64 0) 1 8 Try.underlying23 hi hz0 hz1 hz2 rfl (by decide) _ _ _ rfl (hownO4.alloc _) ⟨w4.heap.size, 0, none⟩ 1 1 [.int .i64 (x : Int)] rfl rfl ?ca2 ?ca3 ?ca4 ?ca5 ?ca6 ?_)
      case ca2 => exact cell_one _ _ _
      case ca3 => exact fun u hu => by simp at hu; subst hu; rfl
      case ca4 => unfold maxLen; omega
      case ca5 => omega
      case ca6 => simp; omega
      intro v5 w5 hown5 hgrow _ _
      have hR5 := (hR4.alloc (.cells #[.int .i64 (x : Int)] 3)).grown hgrow (own_ne hownO4 (by omega))
      have hS5 := (hS4.alloc (.cells #[.int .i64 (x : Int)] 3)).grown hgrow (own_ne hownO4 (by omega))
      have HownC5 := (HownC4.alloc (.cells #[.int .i64 (x : Int)] 3)).kept hgrow (.inr (own_neq hownO4 (by omega)))
      have hs5 : w3.heap.size ≤ w5.heap.size := by have := hgrow.size; simp at this; omega
      have bb5 : Below w.heap.size w w5 := (bb4.alloc (by omega) _).grown hgrow (by simp; omega) (fun b hb => by have := (hownO4.lt b hb).1; omega)
      rw [← HTK.out] at hown5
      clear hgrow hownO4 HownC4 hR4 hS4 bb4
      go_wp2
      go_roundw
      case rel => exact ⟨k + 1, c + n1, by omega, by go_num, hcn, HNEXT, hown5, hidden HownC5, hR5, hS5, bb5, hs5⟩
      case measure => simp [intOf]; omega
    · have hkn : k = n := by omega
      subst hkn
      have hcc : c = c0 := by
        have h1 := Hrd.out
        rw [List.drop_eq_nil_of_le (by rw [HX.out]; exact Nat.le_refl _)] at h1
        cases h1; rfl
      subst hcc
      have d0 := hR'.cell 0
      have d1 := hR'.cell 1
      have e0 := hS'.cell 0
      have e1 := hS'.cell 1
      have g0 := hS'.free 0
      have g1 := hS'.free 1
      simp at d0 d1 e0 e1
      have hSl' := hS'.lt
      rw [List.take_of_length_le (by rw [HX.out]; exact Nat.le_refl _)] at hownO
      clear hR' hS' HownC
      go_wp2
      (try go_region)
      all_goals (try go_wp2)
      all_goals
        refine bodyPost_ret (v := .tuple #[u9, .agg #[.string s, .int .i64 c], .bool true]) (by simp [results, Try.results23, go_sem, d0, d1, e0, e1, g0, g1]) rfl ⟨u9, rfl, ?_, ?_⟩
        · refine Joins.ownsRow_le (base := w3.heap.size) ?_ hs3
          exact own_away (own_away hownO (p := ⟨w.heap.size + 1, 0, none⟩) (by show w.heap.size + 1 < w3.heap.size; omega) _) (p := ⟨w.heap.size + 1, 1, none⟩) (by show w.heap.size + 1 < w3.heap.size; omega) _
        repeat (first | exact Below.refl _ _ | assumption | refine Below.alloc ?_ (by (try simp); (try omega)) _ | refine Below.setCell ?_ (by (try simp); (try omega)) _ | refine Below.drew ?_)
set_option maxHeartbeats 4000000 in
set_option maxRecDepth 100000 in
theorem specGetSyms_stop (a : Option Addr) (cap B at0 n : Nat) (ls : List Int) (s : ByteArray) (w : World) (hz : Ints w B a ls) (hB : B ≤ w.heap.size) (hok : lOk ls = true) (hs : s.size ≤ 1048576) (ha : at0 ≤ 8 * s.size) (hn : n ≤ 2000) (hno : ¬ ∃ xs c0, xs.length = n ∧ Reads ls s at0 xs c0) :
    Calls Try.prog 23 #[.slice a ls.length cap, .agg #[.string s, .int .i64 at0], .int .i64 n] w fun e w' => e = .returned (.tuple #[.slice none 0 0, .agg #[.string ⟨#[]⟩, .int .i64 0], .bool false]) ∧ Below w.heap.size w w' := by
  obtain ⟨i0, hi, hz0, hz1, hz2⟩ := info_parts Try.infoInt
  have hlr := lOk_range hok
  have K1 := hidden (fun W h => specLensOk_any a cap B ls W h)
  rw [hok] at K1
  have K2 := hidden (fun W h1 h2 => specCodes_yes a cap B ls W h1 h2 hok)
  have K3 := hidden (fun (W : World) (b cb c n x : Nat) (vc : Value) (h1 : Ints W B a ls) (h2 : W.ownsRow cb 3 1 vc ls.length (nats ls.length (cdF ls))) (h3 : B ≤ b) (h4 : vc.ownBlock ≠ some b) (h5 : Has W b 37 #[.string s, .int .i64 c]) (h6 : c ≤ 8 * s.size) (h7 : hit ls s c n x) => l4get_hit a cap B cb b c n x _ vc ls s W h1 hok h2 h3 h4 hs h6 h5 h7)
  have HI := hidden hz
  have HNO := hidden hno
  have H260 := hidden hlr.2.1
  have K4 := hidden (fun (W : World) (b cb c : Nat) (vc : Value) (h1 : Ints W B a ls) (h2 : W.ownsRow cb 3 1 vc ls.length (nats ls.length (cdF ls))) (h3 : B ≤ b) (h4 : vc.ownBlock ≠ some b) (h5 : Has W b 37 #[.string s, .int .i64 c]) (h6 : c ≤ 8 * s.size) (h7 : ∀ n x, ¬ hit ls s c n x) => l4get_none a cap B cb b c _ vc ls s W h1 hok h2 h3 h4 hs h6 h5 h7)
  obtain ⟨m, hm⟩ : ∃ m, ls.length = m := ⟨_, rfl⟩
  have hm1 : 1 ≤ m := by rw [← hm]; exact hlr.1
  rw [hm] at K1 K2 K3 K4 ⊢
  have hR := (Has.fresh w 37 #[.string s, .int .i64 at0]).alloc (.cells #[.string ⟨#[]⟩, .int .i64 0] 37)
  have bb : Below w.heap.size w ((w.alloc (.cells #[.string s, .int .i64 at0] 37)).alloc (.cells #[.string ⟨#[]⟩, .int .i64 0] 37)) := ((Below.refl _ _).alloc (Nat.le_refl _) _).alloc (by simp) _
  have hS := Has.freshAt (w := w.alloc (.cells #[.string s, .int .i64 at0] 37)) (g := w.heap.size + 1) (by simp) 37 #[.string ⟨#[]⟩, .int .i64 0]
  clear hz hm hok hlr hno
  go_enter Try.func23, Try.ntmps23
  go_wp2_with fail
  refine (K1.out _ (HI.out.below (bb.mono hB))).mono ?_
  rintro e w1 ⟨rfl, hw1⟩
  rw [← hw1] at hR hS bb
  clear hw1
  have q0 := hR.cell 0
  have q1 := hR.cell 1
  simp at q0 q1
  have hs1 := bb.size
  go_wp2_with fail
  refine (specRdOk_yes s at0 _ hs ha).mono ?_
  rintro e w2 ⟨rfl, b2⟩
  replace bb := bel_then b2 hs1 bb
  replace hR := hR.below b2 hR.lt
  replace hS := hS.below b2 hS.lt
  have hs2 := bb.size
  have hRl := hR.lt
  have hSl := hS.lt
  clear q0 q1 b2
  go_wp2_with fail
  refine (K2.out _ (HI.out.below (bb.mono hB)) (Nat.le_trans hB hs2)).mono ?_
  rintro e w3 ⟨vc, rfl, hown, b3⟩
  obtain ⟨gc, cc, hvc⟩ := Joins.ownsRow_form hown hm1
  subst hvc
  have hgc := hown.lt gc rfl
  replace bb := bel_then b3 hs2 bb
  replace hR := hR.below b3 hR.lt
  replace hS := hS.below b3 hS.lt
  have hs3 := bb.size
  have hRl3 := hR.lt
  have hSl3 := hS.lt
  clear b3
  go_wp2
  go_loopw [9, 11] (fun vo sk wr => ∃ (k c : Nat) (ys : List Nat), k ≤ n ∧ sk = .int .i64 k ∧ c ≤ 8 * s.size ∧ Hid (ys.length = k ∧ Reads ls s at0 ys c) ∧ wr.ownsRow w3.heap.size 3 1 vo k (natsL ys) ∧ Hid (wr.ownsRow w2.heap.size 3 1 (.slice (some ⟨gc, 0, none⟩) m cc) m (nats m (cdF ls))) ∧
    Has wr w.heap.size 37 #[.string s, .int .i64 c] ∧ Has wr (w.heap.size + 1) 37 #[.string ⟨#[]⟩, .int .i64 0] ∧ Below w.heap.size w wr ∧ w3.heap.size ≤ wr.heap.size) (fun _ sk _ => n - (intOf sk).toNat)
  case atStart => exact ⟨0, at0, [], Nat.zero_le _, rfl, ha, hidden ⟨rfl, .nil _⟩, World.ownsRow_nil _ _ _ _, hidden hown, hR, hS, bb, Nat.le_refl _⟩
  case round =>
    obtain ⟨k, c, ys, hk, rfl, hc, Hrd, hownO, HownC, hR', hS', bb', hs'⟩ := hrel
    clear hR hS bb hown
    by_cases hlt : k < n
    · by_cases hex : ∃ n1 x, hit ls s c n1 x
      · obtain ⟨n1, x, hh⟩ := hex
        have hx260 : x < 260 := Nat.lt_of_lt_of_le hh.1 H260.out
        have hcn := hh.2.2.1
        have HNEXT := hidden (And.intro (show (ys ++ [x]).length = k + 1 by simp [Hrd.out.1]) (Hrd.out.2.snoc hh))
        have HTK : Hid (natsL (ys ++ [x]) = natsL ys ++ [.int .i64 (x : Int)]) := hidden (by rw [natsL_append]; rfl)
        have hx0 : ¬ (x : Int) < 0 := by omega
        have KK := hidden (K3.out wr w.heap.size _ c n1 x _ (HI.out.below (bb'.mono hB)) HownC.out hB (by simp [Value.ownBlock]; omega) hR' hc hh)
        clear hh
        go_wp2_with fail
        refine KK.out.mono ?_
        rintro e w4 ⟨hO, rfl, hR4⟩
        have hS4 := hO.has hS' (by omega)
        have hownO4 := own_away_has hownO hO (fun he => by have := (hownO.lt _ he).1; omega)
        have HownC4 := own_away_has HownC.out hO (by simp [Value.ownBlock]; omega)
        have bb4 : Below w.heap.size w w4 := only_then hO (Nat.le_refl _) bb'.size bb'
        have hs4 : w3.heap.size ≤ w4.heap.size := Nat.le_trans hs' hO.size
        clear hO hR' hS' hownO HownC bb' KK
        go_wp2_with (at_builtin; refine wpList_append_own_at _ rfl _ _ 23 rfl w3.heap.size 3 i0 (.int .i64 0) 1 8 Try.underlying23 hi hz0 hz1 hz2 rfl (by decide) _ _ _ rfl (hownO4.alloc _) ⟨w4.heap.size, 0, none⟩ 1 1 [.int .i64 (x : Int)] rfl rfl ?ca2 ?ca3 ?ca4 ?ca5 ?ca6 ?_)
        case ca2 => exact cell_one _ _ _
        case ca3 => exact fun u hu => by simp at hu; subst hu; rfl
        case ca4 => unfold maxLen; omega
        case ca5 => omega
        case ca6 => simp; omega
        intro v5 w5 hown5 hgrow _ _
        have hR5 := (hR4.alloc (.cells #[.int .i64 (x : Int)] 3)).grown hgrow (own_ne hownO4 (by omega))
        have hS5 := (hS4.alloc (.cells #[.int .i64 (x : Int)] 3)).grown hgrow (own_ne hownO4 (by omega))
        have HownC5 := (HownC4.alloc (.cells #[.int .i64 (x : Int)] 3)).kept hgrow (.inr (own_neq hownO4 (by omega)))
        have hs5 : w3.heap.size ≤ w5.heap.size := by have := hgrow.size; simp at this; omega
        have bb5 : Below w.heap.size w w5 := (bb4.alloc (by omega) _).grown hgrow (by simp; omega) (fun b hb => by have := (hownO4.lt b hb).1; omega)
        rw [← HTK.out] at hown5
        clear hgrow hownO4 HownC4 hR4 hS4 bb4
        go_wp2
        go_roundw
        case rel => exact ⟨k + 1, c + n1, ys ++ [x], by omega, by go_num, hcn, HNEXT, hown5, hidden HownC5, hR5, hS5, bb5, hs5⟩
        case measure => simp [intOf]; omega
      · have KK := hidden (K4.out wr w.heap.size _ c _ (HI.out.below (bb'.mono hB)) HownC.out hB (by simp [Value.ownBlock]; omega) hR' hc (fun n1 x hh => hex ⟨n1, x, hh⟩))
        clear hex
        go_wp2_with fail
        refine KK.out.mono ?_
        rintro e w4 ⟨hO, rfl⟩
        have hS4 := hO.has hS' (by omega)
        have bb4 : Below w.heap.size w w4 := only_then hO (Nat.le_refl _) bb'.size bb'
        have e0 := hS4.cell 0
        have e1 := hS4.cell 1
        have g0 := hS4.free 0
        have g1 := hS4.free 1
        simp at e0 e1
        clear hO hR' hS' hS4 hownO HownC bb' KK
        go_wp2
        refine bodyPost_ret (v := .tuple #[.slice none 0 0, .agg #[.string ⟨#[]⟩, .int .i64 0], .bool false]) (by simp [results, Try.results23, go_sem, e0, e1, g0, g1]) rfl ⟨rfl, ?_⟩
        repeat (first | exact Below.refl _ _ | assumption | refine Below.alloc ?_ (by (try simp); (try omega)) _ | refine Below.setCell ?_ (by (try simp); (try omega)) _ | refine Below.drew ?_)
    · have hkn : k = n := by omega
      exact absurd ⟨ys, c, by rw [Hrd.out.1, hkn], Hrd.out.2⟩ HNO.out
theorem specGetSyms_no (a : Option Addr) (cap B : Nat) (at0 n : Int) (ls : List Int) (s : ByteArray) (w : World) (hz : Ints w B a ls) (hB : B ≤ w.heap.size) (hs : s.size ≤ 1048576) (b1 : -9223372036854775808 ≤ at0) (b2 : at0 ≤ 9223372036854775807) (b3 : -9223372036854775808 ≤ n) (b4 : n ≤ 9223372036854775807)
    (h : ¬ (lOk ls = true ∧ 0 ≤ at0 ∧ at0 ≤ 8 * s.size ∧ 0 ≤ n ∧ n ≤ 2000 ∧ ∃ xs c, xs.length = n.toNat ∧ Reads ls s at0.toNat xs c)) :
    Calls Try.prog 23 #[.slice a ls.length cap, .agg #[.string s, .int .i64 at0], .int .i64 n] w fun e w' => e = .returned (.tuple #[.slice none 0 0, .agg #[.string ⟨#[]⟩, .int .i64 0], .bool false]) ∧ Below w.heap.size w w' := by
  by_cases hgood : lOk ls = true ∧ 0 ≤ at0 ∧ at0 ≤ 8 * s.size ∧ 0 ≤ n ∧ n ≤ 2000
  · obtain ⟨hok, h0, h1, h2, h3⟩ := hgood
    obtain ⟨q, rfl⟩ : ∃ q : Nat, at0 = q := ⟨at0.toNat, by omega⟩
    obtain ⟨m, rfl⟩ : ∃ q : Nat, n = q := ⟨n.toNat, by omega⟩
    exact specGetSyms_stop a cap B q m ls s w hz hB hok hs (by omega) (by omega) (fun hx => h ⟨hok, h0, h1, h2, h3, by simpa using hx⟩)
  · have K1 := hidden (fun W h => specLensOk_any a cap B ls W h)
    have HI := hidden hz
    have hR := (Has.fresh w 37 #[.string s, .int .i64 at0]).alloc (.cells #[.string ⟨#[]⟩, .int .i64 0] 37)
    have bb : Below w.heap.size w ((w.alloc (.cells #[.string s, .int .i64 at0] 37)).alloc (.cells #[.string ⟨#[]⟩, .int .i64 0] 37)) := ((Below.refl _ _).alloc (Nat.le_refl _) _).alloc (by simp) _
    have hS := Has.freshAt (w := w.alloc (.cells #[.string s, .int .i64 at0] 37)) (g := w.heap.size + 1) (by simp) 37 #[.string ⟨#[]⟩, .int .i64 0]
    obtain ⟨m, hm⟩ : ∃ n, ls.length = n := ⟨_, rfl⟩
    by_cases hok : lOk ls = true
    · rw [hok, hm] at K1
      rw [hm]
      by_cases ha : 0 ≤ at0 ∧ at0 ≤ 8 * s.size
      · obtain ⟨q, rfl⟩ : ∃ q : Nat, at0 = q := ⟨at0.toNat, by omega⟩
        have hq : q ≤ 8 * s.size := by omega
        have hnn : n < 0 ∨ (¬ n < 0 ∧ 2000 < n) := by
          rcases Int.lt_or_le n 0 with g | g
          · exact .inl g
          · refine .inr ⟨by omega, ?_⟩
            apply Classical.byContradiction
            intro g2
            exact hgood ⟨hok, ha.1, ha.2, g, by omega⟩
        clear hz hm hok h hgood ha
        rcases hnn with hn0 | ⟨hn0, hn1⟩
        all_goals
          go_enter Try.func23, Try.ntmps23
          go_wp2_with fail
          refine (K1.out _ (HI.out.below (bb.mono hB))).mono ?_
          rintro e w1 ⟨rfl, hw1⟩
          rw [← hw1] at hR hS bb
          clear hw1
          have c0 := hR.cell 0
          have c1 := hR.cell 1
          simp at c0 c1
          have hs1 := bb.size
          go_wp2_with fail
          refine (specRdOk_yes s q _ hs hq).mono ?_
          rintro e w2 ⟨rfl, b5⟩
          replace bb := bel_then b5 hs1 bb
          replace hS := hS.below b5 hS.lt
          have e0 := hS.cell 0
          have e1 := hS.cell 1
          have g0 := hS.free 0
          have g1 := hS.free 1
          simp at e0 e1
          have hs2 := bb.size
          clear c0 c1 b5 hR hS
          go_wp2
          refine bodyPost_ret (v := .tuple #[.slice none 0 0, .agg #[.string ⟨#[]⟩, .int .i64 0], .bool false]) (by simp [results, Try.results23, go_sem, e0, e1, g0, g1]) rfl ⟨rfl, ?_⟩
          repeat (first | exact Below.refl _ _ | assumption | refine Below.alloc ?_ (by (try simp); (try omega)) _ | refine Below.setCell ?_ (by (try simp); (try omega)) _ | refine Below.drew ?_)
      · clear hz hm hok h hgood
        go_enter Try.func23, Try.ntmps23
        go_wp2_with fail
        refine (K1.out _ (HI.out.below (bb.mono hB))).mono ?_
        rintro e w1 ⟨rfl, hw1⟩
        rw [← hw1] at hR hS bb
        clear hw1
        have c0 := hR.cell 0
        have c1 := hR.cell 1
        simp at c0 c1
        have hs1 := bb.size
        go_wp2_with fail
        refine (specRdOk_no s at0 _ hs b1 b2 ha).mono ?_
        rintro e w2 ⟨rfl, b5⟩
        replace bb := bel_then b5 hs1 bb
        replace hS := hS.below b5 hS.lt
        have e0 := hS.cell 0
        have e1 := hS.cell 1
        have g0 := hS.free 0
        have g1 := hS.free 1
        simp at e0 e1
        have hs2 := bb.size
        clear c0 c1 b5 hR hS
        go_wp2
        refine bodyPost_ret (v := .tuple #[.slice none 0 0, .agg #[.string ⟨#[]⟩, .int .i64 0], .bool false]) (by simp [results, Try.results23, go_sem, e0, e1, g0, g1]) rfl ⟨rfl, ?_⟩
        repeat (first | exact Below.refl _ _ | assumption | refine Below.alloc ?_ (by (try simp); (try omega)) _ | refine Below.setCell ?_ (by (try simp); (try omega)) _ | refine Below.drew ?_)
    · have hok' : lOk ls = false := by simpa using hok
      rw [hok', hm] at K1
      rw [hm]
      clear hz hm hok h hok' hgood
      go_enter Try.func23, Try.ntmps23
      go_wp2_with fail
      refine (K1.out _ (HI.out.below (bb.mono hB))).mono ?_
      rintro e w1 ⟨rfl, hw1⟩
      rw [← hw1] at hR hS bb
      clear hw1
      have e0 := hS.cell 0
      have e1 := hS.cell 1
      have g0 := hS.free 0
      have g1 := hS.free 1
      simp at e0 e1
      have hs1 := bb.size
      clear hR hS
      go_wp2
      refine bodyPost_ret (v := .tuple #[.slice none 0 0, .agg #[.string ⟨#[]⟩, .int .i64 0], .bool false]) (by simp [results, Try.results23, go_sem, e0, e1, g0, g1]) rfl ⟨rfl, ?_⟩
      repeat (first | exact Below.refl _ _ | assumption | refine Below.alloc ?_ (by (try simp); (try omega)) _ | refine Below.setCell ?_ (by (try simp); (try omega)) _ | refine Below.drew ?_)
end Go.Proofs.Ytdfbpmkdmpdobaa
