/- Chapter 4, the program: the codes of the symbols. -/
import Derived.Test.YtdfbpmkdmpdobaaI4O
namespace Go.Proofs.Ytdfbpmkdmpdobaa
set_option linter.unusedVariables false
set_option linter.unusedSimpArgs false
open Go.RowKit

theorem implOrder_any (a : Option Addr) (cap B : Nat) (ls : List Int) (w : World) (hz : Ints w B a ls) (hB : B ≤ w.heap.size) :
    Calls Try.prog 27 #[.slice a ls.length cap] w fun e w' => ∃ v, e = .returned v ∧ w'.ownsRow w.heap.size 3 1 v (ordL ls).length (natsL (ordL ls)) ∧ Below w.heap.size w w' := by
  have K1 := hidden (implLensOk_any a cap B ls w hz)
  by_cases h : lOk ls = true
  · have K2 := hidden (orderOf_any a cap B ls w hz hB h)
    have HE : Hid (ordL ls = ordF ls ∧ (ordF ls).length = ls.length) := hidden ⟨by unfold ordL; rw [if_pos h], ordF_len (lOk_range h)⟩
    rw [h] at K1
    clear hz h
    go_enter Try.func27, Try.ntmps27
    go_wp2_with fail
    refine K1.out.mono ?_
    rintro e w' ⟨rfl, rfl⟩
    go_wp2_with fail
    refine K2.out.mono ?_
    rintro e w1 ⟨v, rfl, hown, hb⟩
    go_wp2
    go_ret
    rw [HE.out.1, HE.out.2]
    exact ⟨_, rfl, hown, hb⟩
  · have HE : Hid (ordL ls = []) := hidden (by unfold ordL; rw [if_neg h])
    have h2 : lOk ls = false := by simpa using h
    rw [h2] at K1
    clear hz h h2
    go_enter Try.func27, Try.ntmps27
    go_wp2_with fail
    refine K1.out.mono ?_
    rintro e w' ⟨rfl, rfl⟩
    go_wp2
    go_ret
    rw [HE.out]
    exact ⟨_, rfl, World.ownsRow_nil _ _ _ _, Below.refl _ _⟩
set_option maxHeartbeats 4000000 in
set_option maxRecDepth 100000 in
theorem codesOf_any (a : Option Addr) (cap B : Nat) (ls : List Int) (w : World) (hz : Ints w B a ls) (hB : B ≤ w.heap.size) (hok : lOk ls = true) :
    Calls Try.prog 41 #[.slice a ls.length cap] w fun e w' => ∃ v, e = .returned v ∧ w'.ownsRow w.heap.size 3 1 v ls.length (nats ls.length (cdF ls)) ∧ Below w.heap.size w w' := by
  obtain ⟨j0, ji, jz0, jz1, jz2⟩ := info_parts Try.infoInt
  have hr := lOk_range hok
  have HZ := hidden hz
  have K1 := hidden (fun W h1 h2 => orderOf_any a cap B ls W h1 h2 hok)
  obtain ⟨O, hO, hlen, hnd, hmem, hall, h0, hstep⟩ := ord_codes hr
  have HLN : Hid (∀ s, s < ls.length → ls.getD s 0 = (lnF ls s : Int) ∧ 1 ≤ lnF ls s ∧ lnF ls s ≤ 20) := hidden (fun s hs => ⟨lnF_int hr s hs, lRange_ln hr s hs⟩)
  have HLT := hidden (fun s hs => cdF_lt20 hok s hs)
  have HLEN := hidden hlen
  have HMEM := hidden hmem
  have HSTEP := hidden hstep
  have H0 := hidden h0
  have HND := hidden hnd
  have HALL := hidden hall
  rw [hO] at K1
  clear hO hlen hnd hmem hall h0 hstep
  obtain ⟨n, hn⟩ : ∃ n, ls.length = n := ⟨_, rfl⟩
  have hn1 : 1 ≤ n := by rw [← hn]; exact hr.1
  have hn2 : n ≤ 260 := by rw [← hn]; exact hr.2.1
  obtain ⟨b, off, rfl, hb, hc⟩ := hz.2.2 (by omega)
  have HC := hidden hc
  obtain ⟨cd, hcd⟩ : ∃ cd, cdF ls = cd := ⟨_, rfl⟩
  obtain ⟨l, hl⟩ : ∃ l, lnF ls = l := ⟨_, rfl⟩
  rw [hcd] at HSTEP H0 HLT ⊢
  rw [hl] at HLN HSTEP
  rw [hn] at K1 HLEN HLN HLT HMEM HALL HC ⊢
  have hbw : b < w.heap.size := by omega
  clear hz hr hn hc hok hcd hl
  go_enter Try.func41, Try.ntmps41
  go_wp2_with (at_make; refine wpList_make_full _ rfl _ _ 23 rfl w.heap.size 3 j0 (.int .i64 0) 1 Try.underlying23 ji jz0 jz1 .i64 .i64 _ _ n rfl rfl rfl rfl ?cb1 ?cb2 ?cb3 ?_)
  case cb1 => rw [jz2]; omega
  case cb2 => unfold maxLen; omega
  case cb3 => exact Nat.le_refl _
  intro w1 hown1 hgrow
  have hb1 : Below w.heap.size w w1 := ⟨hgrow.os, hgrow.tape, hgrow.output, hgrow.size, fun i hi => hgrow.block i hi (by simp)⟩
  rw [made_nats] at hown1
  have hsz1 := hb1.size
  have hwl := hown1.lt w.heap.size rfl
  clear hgrow
  go_wp2_with fail
  refine (K1.out _ (HZ.out.below (hb1.mono hB)) (by omega)).mono ?_
  rintro e w2 ⟨v, rfl, hown2, hb2⟩
  obtain ⟨g1, c1, hv⟩ := Joins.ownsRow_form hown2 (by omega)
  subst hv
  have hsz2 := hb2.size
  have hg1 := hown2.lt g1 rfl
  have hD0 := own_bel hown1 hb2
  have hb12 : Below w.heap.size w w2 := hb1.trans (hb2.mono hsz1)
  have HOW := hidden hown2
  clear hown1 hown2
  go_wp2
  go_loopw [4, 5, 7, 14] (fun s4 s5 _ si wr => ∃ k nx ln : Nat, k ≤ n ∧ si = .int .i64 k ∧ s4 = .int .i64 nx ∧ s5 = .int .i64 ln ∧ nx ≤ 1048576 ∧ ln ≤ 20 ∧ Hid (∀ s (h : k < O.length), O[k] = s → ln ≤ l s ∧ cd s = nx * 2 ^ (l s - ln)) ∧ wr.ownsRow w.heap.size 3 1 (.slice (some ⟨w.heap.size, 0, none⟩) n n) n (nats n fun s => if s ∈ O.take k then cd s else 0) ∧ wr.ownsRow w1.heap.size 3 1 (.slice (some ⟨g1, 0, none⟩) n c1) n (natsL O) ∧ Below w.heap.size w wr) (fun _ _ _ si _ => n - (intOf si).toNat)
  case atStart => exact ⟨0, 0, 0, Nat.zero_le _, rfl, rfl, rfl, by omega, by omega, hidden (fun s h hs => ⟨by omega, by
    cases hOe : O with
    | nil => rw [hOe] at h; simp at h
    | cons x T =>
      have hx : x = s := by simp only [hOe, List.getElem_cons_zero] at hs; exact hs
      rw [← hx, H0.out x T hOe, Nat.zero_mul]⟩), by simpa [nats] using hD0, HOW.out, hb12⟩
  case round =>
    obtain ⟨k, nx, ln, hkn, rfl, rfl, rfl, hnx, hln, HK, hD, hW, hbl⟩ := hrel
    by_cases hlt : k < n
    · have hkO : k < O.length := by rw [HLEN.out]; omega
      obtain ⟨s, hs⟩ : ∃ s, O[k] = s := ⟨_, rfl⟩
      have hks := HK.out s hkO hs
      have hsn := HMEM.out s (by rw [← hs]; exact List.getElem_mem _)
      have o1 := hW.cellAt k (by omega)
      rw [natsL_get O k (by omega), hs] at o1
      have l1 := (hbl.cell (p := ⟨b, off + s, none⟩) hbw).trans (HC.out s hsn)
      rw [(HLN.out s hsn).1] at l1
      have hsin : s ∉ O.take k := by
        intro hmem
        have h1 := HND.out
        rw [← List.take_append_drop k O, List.nodup_append] at h1
        have h2 : s ∈ O.drop k := by rw [← List.getElem_cons_drop (h := hkO), hs]; simp
        exact h1.2.2 s hmem s h2 rfl
      have d1 := hD.cellAt s (by omega)
      rw [nats_get _ _ s hsn, if_neg hsin] at d1
      have f1 := hD.frozenAt s
      have HST : Hid ((nats n fun x => if x ∈ O.take k then cd x else 0).set s (.int .i64 (cd s : Int)) = nats n fun x => if x ∈ O.take (k + 1) then cd x else 0) := hidden (by
        rw [nats_set]
        refine nats_congr fun x hx => ?_
        rw [List.take_succ_eq_append_getElem hkO, hs]
        by_cases e : x = s
        · subst e; rw [if_pos rfl, if_pos (by simp)]
        · rw [if_neg e]
          by_cases h : x ∈ O.take k
          · rw [if_pos h, if_pos (by simp [h])]
          · rw [if_neg h, if_neg (by simp [h, e])])
      have HNX : Hid (∀ s2 (h : k + 1 < O.length), O[k + 1] = s2 → l s ≤ l s2 ∧ cd s2 = (cd s + 1) * 2 ^ (l s2 - l s)) := hidden (fun s2 h h2 => HSTEP.out k s s2 h hs h2)
      obtain ⟨cs, hcs⟩ : ∃ c, cd s = c := ⟨_, rfl⟩
      have hcs2 := HLT.out s hsn
      obtain ⟨y, hy⟩ : ∃ y, l s = y := ⟨_, rfl⟩
      have hyr := (HLN.out s hsn).2
      rw [hcs] at hcs2 hks HST HNX
      rw [hy] at l1 hyr hks HNX
      obtain ⟨d, hd⟩ : ∃ d, y - ln = d := ⟨_, rfl⟩
      rw [hd] at hks
      have hdI : (y : Int) - (ln : Int) = (d : Int) := by omega
      have i2 : Value.int .i64 (wrap64 ((nx : Int) * 2 ^ d)) = Value.int .i64 (cs : Int) := by
        rw [show ((nx : Int) * 2 ^ d) = ((nx * 2 ^ d : Nat) : Int) by simp, ← hks.2]
        rw [wrap64_n _ (by omega)]
      have n2 : ¬ b = w.heap.size := by omega
      have hD20 : d ≤ 20 := by omega
      have m3 : (s : Int) < (n : Int) := by omega
      clear hs hcs hy hks hd hsin hkO
      go_wp2
      clear i2 hdI
      refine ⟨⟨k + 1, cs + 1, y, by omega, by go_num, by go_num, rfl, by omega, by omega, HNX, ?_, own_away hW (by simpa using hwl.2) _, hbl.setCell (Nat.le_refl _) _⟩, by simp [intOf]; omega⟩
      have := (hD.stored s (.int .i64 (cs : Int))).1
      rw [HST.out] at this
      exact this
    · have hkn2 : k = n := by omega
      subst hkn2
      go_wp2
      go_ret
      refine ⟨_, rfl, ?_, hbl⟩
      rw [nats_congr (f := cd) (g := fun s => if s ∈ O.take k then cd s else 0) fun s hs => by
        rw [List.take_of_length_le (by rw [HLEN.out]; exact Nat.le_refl _), if_pos (HALL.out s hs)]]
      exact hD
end Go.Proofs.Ytdfbpmkdmpdobaa
