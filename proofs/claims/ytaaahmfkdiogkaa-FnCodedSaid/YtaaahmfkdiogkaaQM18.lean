/- Merged: I4O, I4C, I4K, I4M. -/
import Derived.Test.YtaaahmfkdiogkaaQM11
import Derived.Test.YtaaahmfkdiogkaaQM5
import Derived.Deep.LoopGhost
import Derived.Maps.OwnSet
import Derived.DeepKeys4
namespace Go.Proofs.Ytaaahmfkdiogkaa
set_option linter.unusedVariables false
set_option linter.unusedSimpArgs false
open Go.RowKit

theorem lenIs_pre (n : Nat) (l : Nat → Nat) (m i k : Nat) : lenIs n l m i <+: lenIs n l m (i + k) := by
  induction k with
  | zero => exact List.prefix_refl _
  | succ k ih =>
    rw [← Nat.add_assoc, lenIs_succ]
    split
    · exact ih.trans (List.prefix_append _ _)
    · exact ih
theorem ordU_pre (n : Nat) (l : Nat → Nat) (m k : Nat) : ordU n l m <+: ordU n l (m + k) := by
  induction k with
  | zero => exact List.prefix_refl _
  | succ k ih => exact ih.trans (List.prefix_append _ _)
/-- An order that has every symbol is the whole one. -/
theorem ord_full (n : Nat) (l : Nat → Nat) (h : ∀ s, s < n → 1 ≤ l s ∧ l s ≤ 20) (m i : Nat) (hm : m < 20) (hi : i ≤ n) (he : (ordU n l m ++ lenIs n l (m + 1) i).length = n) : ordU n l m ++ lenIs n l (m + 1) i = ordU n l 20 := by
  have p1 : ordU n l m ++ lenIs n l (m + 1) i <+: ordU n l (m + 1) := by
    have := lenIs_pre n l (m + 1) i (n - i)
    rw [show i + (n - i) = n by omega] at this
    rw [ordU]
    exact (List.prefix_append_right_inj _).2 this
  have p2 := ordU_pre n l (m + 1) (19 - m)
  rw [show m + 1 + (19 - m) = 20 by omega] at p2
  exact (p1.trans p2).eq_of_length (by rw [he, ordU_len n l h])
set_option maxHeartbeats 4000000 in
set_option maxRecDepth 100000 in
theorem orderOf_any (a : Option Addr) (cap B : Nat) (ls : List Int) (w : World) (hz : Ints w B a ls) (hB : B ≤ w.heap.size) (hok : lOk ls = true) :
    Calls Try.prog 115 #[.slice a ls.length cap] w fun e w' => ∃ v, e = .returned v ∧ w'.ownsRow w.heap.size 3 1 v ls.length (natsL (ordF ls)) ∧ Below w.heap.size w w' := by
  obtain ⟨i0, hi, hz0, hz1, hz2⟩ := info_parts Try.infoInt
  have hr := lOk_range hok
  have HLEN := hidden (ordF_len hr)
  have HLN : Hid (∀ s, s < ls.length → ls.getD s 0 = (lnF ls s : Int)) := hidden (fun s hs => lnF_int hr s hs)
  have HFU := hidden (fun m i h1 h2 h3 => ord_full ls.length (lnF ls) (lRange_ln hr) m i h1 h2 h3)
  have HO : Hid (ordF ls = ordU ls.length (lnF ls) 20) := hidden rfl
  obtain ⟨n, hn⟩ : ∃ n, ls.length = n := ⟨_, rfl⟩
  have hn1 : 1 ≤ n := by rw [← hn]; exact hr.1
  have hn2 : n ≤ 260 := by rw [← hn]; exact hr.2.1
  obtain ⟨b, off, rfl, hb, hc⟩ := hz.2.2 (by omega)
  have HC := hidden hc
  obtain ⟨l, hl⟩ : ∃ l, lnF ls = l := ⟨_, rfl⟩
  rw [hn] at HLEN HLN HC HO HFU ⊢
  rw [hl] at HLN HO HFU
  have hbw : b < w.heap.size := by omega
  clear hz hr hn hc hok hl
  go_enter Try.func115, Try.ntmps115
  go_wp2
  go_step3
  go_wp2_with (at_make; refine wpList_make_own _ rfl _ _ 24 rfl w.heap.size 3 i0 (.int .i64 0) 1 Try.underlying24 hi hz0 hz1 _ _ _ n rfl rfl rfl ?b2 ?b3 (Nat.le_refl _) ?_)
  case b2 => rw [hz2]; omega
  case b3 => unfold maxLen; omega
  intro w1 hown0 hg0
  have hbl0 : Below w.heap.size w w1 := (Below.refl _ _).grown hg0 (Nat.le_refl _) (by simp)
  clear hg0
  go_wp2
  go_step3
  go_wp2
  go_loopg [3, 4, 5, 6] 21 (fun g v sn _ _ wr => ∃ m : Nat, m + g = 21 ∧ m ≤ 20 ∧ sn = .int .i64 ((m : Int) + 1) ∧ (ordU n l m).length < n + 1 ∧ wr.ownsRow w.heap.size 3 1 v (ordU n l m).length (natsL (ordU n l m)) ∧ Below w.heap.size w wr)
  case atStart => exact ⟨0, rfl, by omega, rfl, by simp [ordU], hown0, hbl0⟩
  case round =>
    obtain ⟨m, hmg, hm, rfl, hml, hown, hbl⟩ := hrel
    have HGK := hidden hmg
    by_cases hm20 : m < 20
    · have hmI : (m : Int) + 1 ≤ 20 := by omega
      have e0 : ordU n l m ++ lenIs n l (m + 1) 0 = ordU n l m := by simp [lenIs]
      clear hmg
      go_wp2
      obtain ⟨wo, rfl⟩ : ∃ wo : World, wo = wr := ⟨_, rfl⟩
      have HGO := hidden (rfl : gk = gk)
      obtain ⟨go, rfl⟩ : ∃ go : Nat, go = gk := ⟨_, rfl⟩
      go_loopg [3, 5, 6, 16] n (fun g v _ _ si wx => ∃ i : Nat, i + g = n ∧ si = .int .i64 i ∧ wx.ownsRow w.heap.size 3 1 v (ordU n l m ++ lenIs n l (m + 1) i).length (natsL (ordU n l m ++ lenIs n l (m + 1) i)) ∧ Below w.heap.size w wx)
      case atStart => exact ⟨0, by omega, rfl, by rw [e0]; exact hown, hbl⟩
      case round =>
        obtain ⟨i, hig, rfl, hown1, hbl1⟩ := hrel
        have hsz := hbl1.size
        by_cases hlt : i < n
        · have ck := (hbl1.cell (p := ⟨b, off + i, none⟩) hbw).trans (HC.out i hlt)
          rw [HLN.out i hlt] at ck
          have hP := ordP_length n l m i (by omega)
          obtain ⟨P, hPe⟩ : ∃ P, ordU n l m ++ lenIs n l (m + 1) i = P := ⟨_, rfl⟩
          rw [hPe] at hown1 hP
          have HIG := hidden hig
          clear hig
          by_cases he : l i = m + 1
          · have heI : ((l i : Int) != (m : Int) + 1) = false := by rw [bne_eq_false_iff_eq]; omega
            have HN : Hid (ordU n l m ++ lenIs n l (m + 1) (i + 1) = P ++ [i]) := hidden (by rw [lenIs_succ, if_pos he, ← List.append_assoc, hPe])
            have hPl : P.length < n := by
              have := ordP_length n l m (i + 1) (by omega)
              rw [HN.out] at this; simp at this; omega
            obtain ⟨p, hp⟩ : ∃ p, P.length = p := ⟨_, rfl⟩
            rw [hp] at hown1 hPl
            have HPL := hidden hp
            clear hPe he hP hp
            by_cases hfull : p + 1 = n
            · have hfI : ((p : Int) + 1 == (n : Int)) = true := by rw [beq_iff_eq]; omega
              have hfN : ((((p + 1 : Nat) : Int)) == (n : Int)) = true := by rw [beq_iff_eq]; omega
              have HF : Hid (P ++ [i] = ordF ls) := hidden (by rw [← HN.out, HO.out]; exact HFU.out m (i + 1) hm20 (by omega) (by rw [HN.out, List.length_append, HPL.out]; exact hfull))
              go_wp2_with (at_builtin; refine wpList_append_own_at _ rfl _ _ 24 rfl w.heap.size 3 i0 (.int .i64 0) 1 8 Try.underlying24 hi hz0 hz1 hz2 rfl (by decide) _ _ _ rfl (hown1.alloc _) ⟨wr.heap.size, 0, none⟩ 1 1 [.int .i64 (i : Int)] rfl rfl ?ca2 ?ca3 ?ca4 ?ca5 ?ca6 ?_)
              case ca3 => first | rfl | exact fun u hu => by simp at hu; subst hu; rfl
              case ca4 => unfold maxLen; omega
              case ca5 => omega
              case ca6 => first | omega | (simp; omega)
              intro v3 w3 hown3 hgrow _ _
              have hbl3 : Below w.heap.size w w3 := (hbl1.alloc (by omega) _).grown hgrow (by simp; omega) (fun b hb => (hown1.lt b hb).1)
              have hownN : w3.ownsRow w.heap.size 3 1 v3 n (natsL (ordF ls)) := by rw [← HF.out, natsL_append]; first | exact hown3 | (rw [← hfull]; exact hown3)
              obtain ⟨g3, c3, hv3⟩ := Joins.ownsRow_form hownN (by omega)
              subst hv3
              have hnn : ((n : Int) == (n : Int)) = true := by simp
              clear hown3 hgrow hown1 hbl1 hfI hfN hown ck hbl
              go_wp2
              (try rw [Exit.noGoto_ret])
              go_ret
              exact ⟨_, rfl, hownN, hbl3⟩
            · have hfI : ((p : Int) + 1 == (n : Int)) = false := by rw [beq_eq_false_iff_ne]; omega
              have hfN : ((((p + 1 : Nat) : Int)) == (n : Int)) = false := by rw [beq_eq_false_iff_ne]; omega
              go_wp2_with (at_builtin; refine wpList_append_own_at _ rfl _ _ 24 rfl w.heap.size 3 i0 (.int .i64 0) 1 8 Try.underlying24 hi hz0 hz1 hz2 rfl (by decide) _ _ _ rfl (hown1.alloc _) ⟨wr.heap.size, 0, none⟩ 1 1 [.int .i64 (i : Int)] rfl rfl ?cb2 ?cb3 ?cb4 ?cb5 ?cb6 ?_)
              case cb3 => first | rfl | exact fun u hu => by simp at hu; subst hu; rfl
              case cb4 => unfold maxLen; omega
              case cb5 => omega
              case cb6 => first | omega | (simp; omega)
              intro v3 w3 hown3 hgrow _ _
              have hbl3 : Below w.heap.size w w3 := (hbl1.alloc (by omega) _).grown hgrow (by simp; omega) (fun b hb => (hown1.lt b hb).1)
              have hownN : w3.ownsRow w.heap.size 3 1 v3 (p + 1) (natsL (P ++ [i])) := by rw [natsL_append]; exact hown3
              obtain ⟨g3, c3, hv3⟩ := Joins.ownsRow_form hownN (by omega)
              subst hv3
              clear hown3 hgrow hown1 hbl1 hown ck hbl
              go_wp2
              go_roundg (gk - 1)
              case measure => have := HIG.out; omega
              case rel => exact ⟨i + 1, by have := HIG.out; omega, by go_num, by rw [HN.out, List.length_append, HPL.out]; exact hownN, hbl3⟩
          · have heI : ((l i : Int) != (m : Int) + 1) = true := by rw [bne_iff_ne]; omega
            have HN : Hid (ordU n l m ++ lenIs n l (m + 1) (i + 1) = P) := hidden (by rw [lenIs_succ, if_neg he, hPe])
            clear hPe he hP
            go_wp2
            go_roundg (gk - 1)
            case measure => have := HIG.out; omega
            case rel => exact ⟨i + 1, by have := HIG.out; omega, by go_num, by rw [HN.out]; exact hown1, hbl1⟩
        · have hin : i = n := by omega
          subst hin
          have hle := ordU_length i l (m + 1)
          have HLE := hidden hle
          clear hown hbl hle
          go_wp2
          go_roundg (go - 1)
          case measure => have := HGK.out; omega
          case rel => exact ⟨m + 1, by have := HGK.out; omega, by omega, by go_num, by have := HLE.out; omega, hown1, hbl1⟩
    · have hm2 : m = 20 := by omega
      have HE : ordU n l m = ordF ls := by rw [HO.out, hm2]
      rw [HE, HLEN.out] at hown
      have hmI : ¬ (m : Int) + 1 ≤ 20 := by omega
      clear HE HO hm2 hml hmg
      go_wp2
      (try rw [Exit.noGoto_ret])
      go_ret
      exact ⟨_, rfl, hown, hbl⟩
end Go.Proofs.Ytaaahmfkdiogkaa
namespace Go.Proofs.Ytaaahmfkdiogkaa
set_option linter.unusedVariables false
set_option linter.unusedSimpArgs false
open Go.RowKit

set_option maxHeartbeats 4000000 in
set_option maxRecDepth 100000 in
theorem codesOf_any (a : Option Addr) (cap B : Nat) (ls : List Int) (w : World) (hz : Ints w B a ls) (hB : B ≤ w.heap.size) (hok : lOk ls = true) :
    Calls Try.prog 81 #[.slice a ls.length cap] w fun e w' => ∃ v, e = .returned v ∧ w'.ownsRow w.heap.size 3 1 v ls.length (nats ls.length (cdF ls)) ∧ Below w.heap.size w w' := by
  obtain ⟨j0, ji, jz0, jz1, jz2⟩ := info_parts Try.infoInt
  have hr := lOk_range hok
  have HZ := hidden hz
  have K1 := hidden (fun W h1 h2 => orderOf_any a cap B ls W h1 h2 hok)
  obtain ⟨O, hO, hlen, hnd, hmem, hall, h0, hstep⟩ := ord_codes hr
  have HLN : Hid (∀ s, s < ls.length → ls.getD s 0 = (lnF ls s : Int) ∧ 1 ≤ lnF ls s ∧ lnF ls s ≤ 20) := hidden (fun s hs => ⟨lnF_int hr s hs, lRange_ln hr s hs⟩)
  have HLT := hidden (fun s hs => cdF_lt20 hok s hs)
  have HLEN := hidden hlen
  have HMEM := hidden hmem
  have HSTEP := hidden hstep
  have H0 := hidden h0
  have HND := hidden hnd
  have HALL := hidden hall
  rw [hO] at K1
  clear hO hlen hnd hmem hall h0 hstep
  obtain ⟨n, hn⟩ : ∃ n, ls.length = n := ⟨_, rfl⟩
  have hn1 : 1 ≤ n := by rw [← hn]; exact hr.1
  have hn2 : n ≤ 260 := by rw [← hn]; exact hr.2.1
  obtain ⟨b, off, rfl, hb, hc⟩ := hz.2.2 (by omega)
  have HC := hidden hc
  obtain ⟨cd, hcd⟩ : ∃ cd, cdF ls = cd := ⟨_, rfl⟩
  obtain ⟨l, hl⟩ : ∃ l, lnF ls = l := ⟨_, rfl⟩
  rw [hcd] at HSTEP H0 HLT ⊢
  rw [hl] at HLN HSTEP
  rw [hn] at K1 HLEN HLN HLT HMEM HALL HC ⊢
  have hbw : b < w.heap.size := by omega
  clear hz hr hn hc hok hcd hl
  go_enter Try.func81, Try.ntmps81
  go_wp2_with (at_make; refine wpList_make_full _ rfl _ _ 24 rfl w.heap.size 3 j0 (.int .i64 0) 1 Try.underlying24 ji jz0 jz1 .i64 .i64 _ _ n rfl rfl rfl rfl ?cb1 ?cb2 ?cb3 ?_)
  case cb1 => rw [jz2]; omega
  case cb2 => unfold maxLen; omega
  case cb3 => exact Nat.le_refl _
  intro w1 hown1 hgrow
  have hb1 : Below w.heap.size w w1 := ⟨hgrow.os, hgrow.tape, hgrow.output, hgrow.size, fun i hi => hgrow.block i hi (by simp)⟩
  rw [made_nats] at hown1
  have hsz1 := hb1.size
  have hwl := hown1.lt w.heap.size rfl
  clear hgrow
  go_wp2_with fail
  refine (K1.out _ (HZ.out.below (hb1.mono hB)) (by omega)).mono ?_
  rintro e w2 ⟨v, rfl, hown2, hb2⟩
  obtain ⟨g1, c1, hv⟩ := Joins.ownsRow_form hown2 (by omega)
  subst hv
  have hsz2 := hb2.size
  have hg1 := hown2.lt g1 rfl
  have hD0 := own_bel hown1 hb2
  have hb12 : Below w.heap.size w w2 := hb1.trans (hb2.mono hsz1)
  have HOW := hidden hown2
  clear hown1 hown2
  go_wp2
  go_loopw [4, 5, 7, 14] (fun s4 s5 _ si wr => ∃ k nx ln : Nat, k ≤ n ∧ si = .int .i64 k ∧ s4 = .int .i64 nx ∧ s5 = .int .i64 ln ∧ nx ≤ 1048576 ∧ ln ≤ 20 ∧ Hid (∀ s (h : k < O.length), O[k] = s → ln ≤ l s ∧ cd s = nx * 2 ^ (l s - ln)) ∧ wr.ownsRow w.heap.size 3 1 (.slice (some ⟨w.heap.size, 0, none⟩) n n) n (nats n fun s => if s ∈ O.take k then cd s else 0) ∧ wr.ownsRow w1.heap.size 3 1 (.slice (some ⟨g1, 0, none⟩) n c1) n (natsL O) ∧ Below w.heap.size w wr) (fun _ _ _ si _ => n - (intOf si).toNat)
  case atStart => exact ⟨0, 0, 0, Nat.zero_le _, rfl, rfl, rfl, by omega, by omega, hidden (fun s h hs => ⟨by omega, by
    cases hOe : O with
    | nil => rw [hOe] at h; simp at h
    | cons x T =>
      have hx : x = s := by simp only [hOe, List.getElem_cons_zero] at hs; exact hs
      rw [← hx, H0.out x T hOe, Nat.zero_mul]⟩), by simpa [nats] using hD0, HOW.out, hb12⟩
  case round =>
    obtain ⟨k, nx, ln, hkn, rfl, rfl, rfl, hnx, hln, HK, hD, hW, hbl⟩ := hrel
    by_cases hlt : k < n
    · have hkO : k < O.length := by rw [HLEN.out]; omega
      obtain ⟨s, hs⟩ : ∃ s, O[k] = s := ⟨_, rfl⟩
      have hks := HK.out s hkO hs
      have hsn := HMEM.out s (by rw [← hs]; exact List.getElem_mem _)
      have o1 := hW.cellAt k (by omega)
      rw [natsL_get O k (by omega), hs] at o1
      have l1 := (hbl.cell (p := ⟨b, off + s, none⟩) hbw).trans (HC.out s hsn)
      rw [(HLN.out s hsn).1] at l1
      have hsin : s ∉ O.take k := by
        intro hmem
        have h1 := HND.out
        rw [← List.take_append_drop k O, List.nodup_append] at h1
        have h2 : s ∈ O.drop k := by rw [← List.getElem_cons_drop (h := hkO), hs]; simp
        exact h1.2.2 s hmem s h2 rfl
      have d1 := hD.cellAt s (by omega)
      rw [nats_get _ _ s hsn, if_neg hsin] at d1
      have f1 := hD.frozenAt s
      have HST : Hid ((nats n fun x => if x ∈ O.take k then cd x else 0).set s (.int .i64 (cd s : Int)) = nats n fun x => if x ∈ O.take (k + 1) then cd x else 0) := hidden (by
        rw [nats_set]
        refine nats_congr fun x hx => ?_
        rw [List.take_succ_eq_append_getElem hkO, hs]
        by_cases e : x = s
        · subst e; rw [if_pos rfl, if_pos (by simp)]
        · rw [if_neg e]
          by_cases h : x ∈ O.take k
          · rw [if_pos h, if_pos (by simp [h])]
          · rw [if_neg h, if_neg (by simp [h, e])])
      have HNX : Hid (∀ s2 (h : k + 1 < O.length), O[k + 1] = s2 → l s ≤ l s2 ∧ cd s2 = (cd s + 1) * 2 ^ (l s2 - l s)) := hidden (fun s2 h h2 => HSTEP.out k s s2 h hs h2)
      obtain ⟨cs, hcs⟩ : ∃ c, cd s = c := ⟨_, rfl⟩
      have hcs2 := HLT.out s hsn
      obtain ⟨y, hy⟩ : ∃ y, l s = y := ⟨_, rfl⟩
      have hyr := (HLN.out s hsn).2
      rw [hcs] at hcs2 hks HST HNX
      rw [hy] at l1 hyr hks HNX
      obtain ⟨d, hd⟩ : ∃ d, y - ln = d := ⟨_, rfl⟩
      rw [hd] at hks
      have hdI : (y : Int) - (ln : Int) = (d : Int) := by omega
      have i2 : Value.int .i64 (wrap64 ((nx : Int) * 2 ^ d)) = Value.int .i64 (cs : Int) := by
        rw [show ((nx : Int) * 2 ^ d) = ((nx * 2 ^ d : Nat) : Int) by simp, ← hks.2]
        rw [wrap64_n _ (by omega)]
      have n2 : ¬ b = w.heap.size := by omega
      have hD20 : d ≤ 20 := by omega
      have m3 : (s : Int) < (n : Int) := by omega
      clear hs hcs hy hks hd hsin hkO
      go_wp2
      clear i2 hdI
      refine ⟨⟨k + 1, cs + 1, y, by omega, by go_num, by go_num, rfl, by omega, by omega, HNX, ?_, own_away hW (by simpa using hwl.2) _, hbl.setCell (Nat.le_refl _) _⟩, by simp [intOf]; omega⟩
      have := (hD.stored s (.int .i64 (cs : Int))).1
      rw [HST.out] at this
      exact this
    · have hkn2 : k = n := by omega
      subst hkn2
      go_wp2
      go_ret
      refine ⟨_, rfl, ?_, hbl⟩
      rw [nats_congr (f := cd) (g := fun s => if s ∈ O.take k then cd s else 0) fun s hs => by
        rw [List.take_of_length_le (by rw [HLEN.out]; exact Nat.le_refl _), if_pos (HALL.out s hs)]]
      exact hD
end Go.Proofs.Ytaaahmfkdiogkaa
namespace Go.Proofs.Ytaaahmfkdiogkaa
set_option linter.unusedVariables false
set_option linter.unusedSimpArgs false
open Go.RowKit Go.Maps

theorem codeLaid : laidOutB Try.prog = true := by kernel_rfl
theorem codeRow : (145 : TypeId) < Try.prog.types.size := of_decide_eq_true (by kernel_rfl)
theorem codeWide : (match Try.prog.underlying 145 with | some (.array _ _) | some (.struct _) => true | _ => false) = true := by rw [Try.underlying145]
set_option maxRecDepth 100000 in
theorem codeLaw : Keyed Try.prog 145 := Keyed.of_law (deep_law_laid codeLaid (m := 2) (by omega) codeRow (by kernel_rfl) codeWide)
theorem codeKt : Try.prog.keyType 145 = true := by kernel_rfl
theorem codeCells : Try.prog.cellsOf 145 = 2 := by kernel_rfl
theorem intCells : Try.prog.cellsOf 3 = 1 := by kernel_rfl
theorem zeroInt (w : World) : (zeroValue 3).run Try.prog w = .ok (.int .i64 0) w := by kernel_rfl
/-- What a code reads as, as a key. -/
def keyL (v n : Nat) : Lit := .string (keyBytes [.int .i64 (v : Int), .int .i64 (n : Int)])
theorem key_code (v n : Nat) (hv : v ≤ 4611686018427387904) (hn : n ≤ 4611686018427387904) : keyOf Try.prog 145 (.agg #[.int .i64 (v : Int), .int .i64 (n : Int)]) = some (keyL v n) := by
  have wv : (Lit.int .i64 (v : Int)).wf = true := WalkArith.wf_i64 (by omega)
  have wn : (Lit.int .i64 (n : Int)).wf = true := WalkArith.wf_i64 (by omega)
  obtain ⟨d, hd⟩ : ∃ d, Try.prog.types.size = d + 1 := ⟨Try.prog.types.size - 1, by have h : (145 : Nat) < Try.prog.types.size := codeRow; omega⟩
  unfold keyOf
  rw [hd]
  simp only [Try.underlying145]
  have hf : Value.formed Try.prog 145 (Value.agg #[.int .i64 (v : Int), .int .i64 (n : Int)]) = true := by simp [Value.formed, Try.underlying145, codeCells]
  rw [codeKt, hf]
  have hi : ∀ (x : Int), (Lit.int .i64 x).wf = true → Try.prog.keyLits (d + 1) 3 [.int .i64 x] = some [.int .i64 x] := fun x hx => by
    unfold Program.keyLits
    simp only [Try.underlying3]
    rw [if_pos ⟨trivial, hx⟩]
  have hk : Try.prog.keyLits (d + 1 + 1) 145 [.int .i64 (v : Int), .int .i64 (n : Int)] = some [.int .i64 (v : Int), .int .i64 (n : Int)] := by
    unfold Program.keyLits
    simp only [Try.underlying145]
    rw [if_pos ⟨by simp [codeCells], by simp⟩]
    simp [intCells, hi _ wv, hi _ wn]
  have hc : (Value.agg #[.int .i64 (v : Int), .int .i64 (n : Int)]).cells.toList = [.int .i64 (v : Int), .int .i64 (n : Int)] := rfl
  rw [hc, hk, if_pos (by rfl)]
  rfl
theorem keyL_inj {v n v2 n2 : Nat} (h1 : v ≤ 4611686018427387904) (h2 : n ≤ 4611686018427387904) (h3 : v2 ≤ 4611686018427387904) (h4 : n2 ≤ 4611686018427387904) (h : keyL v n = keyL v2 n2) : v = v2 ∧ n = n2 := by
  have a := key_code v n h1 h2
  have b := key_code v2 n2 h3 h4
  rw [h] at a
  have e := codeLaw.inj a b
  simp at e
  omega
theorem keyL_lit (v n : Nat) (hv : v ≤ 4611686018427387904) (hn : n ≤ 4611686018427387904) : WideAt.IsKeyLit (keyL v n) := codeLaw.key (key_code v n hv hn)
end Go.Proofs.Ytaaahmfkdiogkaa
namespace Go.Proofs.Ytaaahmfkdiogkaa
set_option linter.unusedVariables false
set_option linter.unusedSimpArgs false
open Go.RowKit Go.Maps

/-- The map of the first k symbols. -/
def mapD (cd l : Nat → Nat) : Nat → DataW Unit
  | 0 => .map []
  | k + 1 => (mapD cd l k).put (keyL (cd k) (l k)) (.lit (.int .i64 (k : Int)))
theorem mapD_is (cd l : Nat → Nat) (k : Nat) : IsMap (mapD cd l k) := by
  induction k with
  | zero => exact isMap_empty
  | succ k ih => exact ih.put _ _
theorem mapD_no (cd l : Nat → Nat) (v m : Nat) (hv : v ≤ 4611686018427387904) (hm : m ≤ 4611686018427387904) (k : Nat) (hb : ∀ i, i < k → cd i ≤ 1048576 ∧ l i ≤ 20) (h : ∀ i, i < k → ¬ (cd i = v ∧ l i = m)) : has (mapD cd l k) (keyL v m) = false := by
  induction k with
  | zero => rfl
  | succ k ih =>
    have hne : keyL v m ≠ keyL (cd k) (l k) := fun e => by
      have hk := hb k (by omega)
      have := keyL_inj hv hm (by omega) (by omega) e
      exact h k (by omega) ⟨this.1.symm, this.2.symm⟩
    rw [mapD, has_put_other hne]
    exact ih (fun i hi => hb i (by omega)) (fun i hi => h i (by omega))
theorem mapD_yes (cd l : Nat → Nat) (z : DataW Unit) (i k : Nat) (hi : i < k) (hb : ∀ i, i < k → cd i ≤ 1048576 ∧ l i ≤ 20) (h : ∀ j, j < k → cd j = cd i → l j = l i → j = i) :
    has (mapD cd l k) (keyL (cd i) (l i)) = true ∧ (mapD cd l k).atKey (keyL (cd i) (l i)) z = .lit (.int .i64 (i : Int)) := by
  induction k with
  | zero => omega
  | succ k ih =>
    have hk := hb k (by omega)
    have hbi := hb i hi
    by_cases e : i = k
    · subst e
      exact ⟨has_put_same (mapD_is _ _ _) (keyL_lit _ _ (by omega) (by omega)) _, atKey_put_same (mapD_is _ _ _) (keyL_lit _ _ (by omega) (by omega)) _ _⟩
    · have hne : keyL (cd i) (l i) ≠ keyL (cd k) (l k) := fun e2 => by
        have := keyL_inj (by omega) (by omega) (by omega) (by omega) e2
        exact e (h k (by omega) this.1.symm this.2.symm).symm
      rw [mapD, has_put_other hne, atKey_put_other hne]
      exact ih (by omega) (fun i hi => hb i (by omega)) (fun j hj => h j (by omega))
/-- The map of all codes of lengths, in block b. -/
def MapAt (W : World) (b : Nat) (ls : List Int) : Prop := ∃ n, W.ownsMap Try.prog 145 (plainElem (H := Unit) Try.prog 3) b n (mapD (cdF ls) (lnF ls) ls.length)
theorem MapAt.below {W W' : World} {b : Nat} {ls : List Int} (h : MapAt W b ls) (hb : Below W.heap.size W W') : MapAt W' b ls := by
  obtain ⟨n, h⟩ := h
  exact ⟨n, h.kept (row := none) ⟨hb.os, hb.tape, hb.output, hb.size, fun i hi _ => hb.block i hi⟩ (by simp)⟩
theorem MapAt.lt {W : World} {b : Nat} {ls : List Int} (h : MapAt W b ls) : b < W.heap.size := by
  obtain ⟨n, h⟩ := h
  exact h.lt
theorem MapAt.only {W W' : World} {b g : Nat} {ls : List Int} (h : MapAt W b ls) (ho : Only g W W') (hne : b ≠ g) : MapAt W' b ls := by
  obtain ⟨n, h⟩ := h
  exact ⟨n, h.kept ho (by simpa using hne)⟩
theorem MapAt.alloc {W : World} {b : Nat} {ls : List Int} (h : MapAt W b ls) (o : Obj) : MapAt (W.alloc o) b ls := by
  obtain ⟨n, h⟩ := h
  exact ⟨n, h.alloc o⟩
theorem MapAt.drewN {W : World} {b : Nat} {ls : List Int} (h : MapAt W b ls) (k : Nat) : MapAt (W.drewN k) b ls := h
theorem MapAt.setCell {W : World} {b : Nat} {ls : List Int} (h : MapAt W b ls) {p : Addr} (hp : b ≠ p.block) (u : Value) : MapAt (W.setCell p u) b ls := by
  obtain ⟨n, h⟩ := h
  exact ⟨n, h.setCell hp u⟩
theorem run_makeHint (k : Int) (W : World) : (Instr.makeMap 107 (some (.int .i64 k))).run Try.prog W = .ok (.map (some W.heap.size)) (W.alloc (.map #[] 0)) := by
  simp [Instr.makeMap, run_underlying Try.underlying107, asInt, asIntOf, Result.andThen]
set_option maxHeartbeats 2000000 in
set_option maxRecDepth 100000 in
theorem codeMapOf_any (a : Option Addr) (cap B : Nat) (ls : List Int) (w : World) (hz : Ints w B a ls) (hB : B ≤ w.heap.size) (hok : lOk ls = true) :
    Calls Try.prog 87 #[.slice a ls.length cap] w fun e w' => ∃ b, e = .returned (.map (some b)) ∧ w.heap.size ≤ b ∧ MapAt w' b ls ∧ Below w.heap.size w w' := by
  have hr := lOk_range hok
  have HI := hidden hz
  have K3 := hidden (fun W h h2 => codesOf_any a cap B ls W h h2 hok)
  have HLN : Hid (∀ s, s < ls.length → ls.getD s 0 = (lnF ls s : Int) ∧ 1 ≤ lnF ls s ∧ lnF ls s ≤ 20) := hidden (fun s hs => ⟨lnF_int hr s hs, lRange_ln hr s hs⟩)
  have HLT := hidden (fun s hs => cdF_lt20 hok s hs)
  obtain ⟨b, off, rfl, hb, hc⟩ := hz.2.2 hr.1
  have HC := hidden hc
  have HMA : Hid (∀ W b, (∃ n, W.ownsMap Try.prog 145 (plainElem (H := Unit) Try.prog 3) b n (mapD (cdF ls) (lnF ls) ls.length)) → MapAt W b ls) := hidden (fun W b h => h)
  obtain ⟨cd, hcd⟩ : ∃ cd, cdF ls = cd := ⟨_, rfl⟩
  obtain ⟨l, hl⟩ : ∃ l, lnF ls = l := ⟨_, rfl⟩
  obtain ⟨n, hn⟩ : ∃ n, ls.length = n := ⟨_, rfl⟩
  have hn1 : 1 ≤ n := by rw [← hn]; exact hr.1
  have hn2 : n ≤ 260 := by rw [← hn]; exact hr.2.1
  rw [hcd] at K3 HLT HMA
  rw [hl] at HLN HMA
  rw [hn] at K3 HLN HLT HC HMA ⊢
  have hbw : b < w.heap.size := by omega
  have hmm := run_makeHint
  clear hz hr hn hc hok hcd hl
  go_enter Try.func87, Try.ntmps87
  go_wp2_with fail
  refine (K3.out _ (HI.out.below (((Below.refl w.heap.size w).alloc (Nat.le_refl _) _).mono hB)) (by simp; omega)).mono ?_
  rintro e w1 ⟨v, rfl, hown, b1⟩
  have hs1 := b1.size
  simp at hs1
  obtain ⟨gc, cc, hv⟩ := Joins.ownsRow_form hown (by omega)
  subst hv
  have hgc := hown.lt gc rfl
  simp at hgc
  have bb : Below w.heap.size w w1 := ((Below.refl w.heap.size w).alloc (Nat.le_refl _) (.map #[] 0)).trans (b1.mono (by simp))
  have hM : w1.ownsMap Try.prog 145 (plainElem (H := Unit) Try.prog 3) w.heap.size 0 (mapD cd l 0) :=
    (World.ownsMap_made w Try.prog 145 (plainElem (H := Unit) Try.prog 3)).kept (row := none) ⟨b1.os, b1.tape, b1.output, b1.size, fun i hi _ => b1.block i hi⟩ (by simp)
  have HO := hidden hown
  clear hown b1 hmm
  go_wp2
  go_loopw [4, 5, 12] (fun _ _ si wr => ∃ k : Nat, k ≤ n ∧ si = .int .i64 k ∧ wr.ownsMap Try.prog 145 (plainElem (H := Unit) Try.prog 3) w.heap.size k (mapD cd l k) ∧ Below w.heap.size w wr ∧ Hid (∀ o u, w1.cell? ⟨gc, o, none⟩ = some u → wr.cell? ⟨gc, o, none⟩ = some u)) (fun _ _ si _ => n - (intOf si).toNat)
  case atStart => exact ⟨0, by omega, rfl, hM, bb, hidden fun o u h => h⟩
  case round =>
    obtain ⟨k, hk, rfl, hown, hbl, HG⟩ := hrel
    by_cases hlt : k < n
    · have c1 := HG.out _ _ ((HO.out.cellAt k (by omega)).trans (nats_get _ _ k hlt))
      have hln := HLN.out k hlt
      have hcl := HLT.out k hlt
      have c2 := (hbl.cell (p := ⟨b, off + k, none⟩) hbw).trans (HC.out k hlt)
      rw [hln.1] at c2
      have HST : Hid ((mapD cd l k).put (keyL (cd k) (l k)) (.lit (.int .i64 (k : Int))) = mapD cd l (k + 1)) := hidden rfl
      obtain ⟨c, hc⟩ : ∃ c, cd k = c := ⟨_, rfl⟩
      obtain ⟨y, hy⟩ : ∃ y, l k = y := ⟨_, rfl⟩
      rw [hc] at c1 hcl HST
      rw [hy] at c2 hln HST
      have hkey := key_code c y (by omega) (by omega)
      have hyr := hln.2
      clear hln hc hy
      go_wp2_with (at_mapUpdate; refine wpList_mapUpdate_own _ rfl _ _ _ 107 rfl 145 3 codeLaw Try.underlying107 _ w.heap.size k _ rfl hown (by unfold maxLen; omega) _ _ _ rfl rfl hkey _ [] (plainElem_int Try.underlying3 (WalkArith.wf_i64 (by omega))) ?_; intro w2 hown2 hgrow2)
      go_roundw
      case rel => exact ⟨k + 1, by omega, by go_num, by rw [← HST.out]; exact hown2, hbl.grown hgrow2 hbl.size (fun j hj => by cases hj; exact Nat.le_refl _), hidden fun o u h => hgrow2.cell (HG.out o u h) (by simp; omega)⟩
      case measure => simp [intOf]; omega
    · have e : k = n := by omega
      subst e
      go_wp2
      go_ret
      exact ⟨_, rfl, Nat.le_refl _, HMA.out _ _ ⟨_, hown⟩, hbl⟩
end Go.Proofs.Ytaaahmfkdiogkaa
