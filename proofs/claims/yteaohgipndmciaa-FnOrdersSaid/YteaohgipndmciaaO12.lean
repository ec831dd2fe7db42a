/- Merged: I7V, I7W, I7Y. -/
import Derived.Test.YteaohgipndmciaaO11
import Derived.Test.YteaohgipndmciaaI7B
import Derived.Test.YteaohgipndmciaaO2
import Derived.Test.YteaohgipndmciaaO8
import Derived.Test.YteaohgipndmciaaO10
import Derived.Test.YteaohgipndmciaaO6
import Derived.Deep.RegionWith
import Derived.Deep.Cut
namespace Go.Proofs.Yteaohgipndmciaa
set_option linter.unusedVariables false
set_option linter.unusedSimpArgs false
open Go.RowKit Go.Maps

theorem mrg_cnt (l L M : List Nat) (hL : L.Pairwise (befC l)) (hM : M.Pairwise (befC l)) (h : ∀ x ∈ L, ∀ y ∈ M, x < y) : (mrg (ltC fun b => l.count b) L M).Pairwise (befC l) := by
  induction L, M using mrg.induct (lt := ltC fun b => l.count b) with
  | case1 M => rw [mrg_nil]; exact hM
  | case2 x L => rw [mrg_nil']; exact hL
  | case3 x L y M hc ih =>
    rw [mrg, if_pos hc]
    have hM' := List.pairwise_cons.1 hM
    refine List.pairwise_cons.2 ⟨fun z hz => ?_, ih hL hM'.2 (fun a ha b hb => h a ha b (List.mem_cons_of_mem _ hb))⟩
    rcases List.mem_append.1 ((mrg_perm _ _ _).mem_iff.1 hz) with hz | hz
    · have hy : l.count x < l.count y := by simpa [ltC] using hc
      rcases List.mem_cons.1 hz with rfl | hz
      · exact .inl hy
      · rcases (List.pairwise_cons.1 hL).1 z hz with h1 | h1 <;> exact .inl (by omega)
    · exact hM'.1 z hz
  | case4 x L y M hc ih =>
    rw [mrg, if_neg hc]
    have hL' := List.pairwise_cons.1 hL
    refine List.pairwise_cons.2 ⟨fun z hz => ?_, ih hL'.2 hM (fun a ha b hb => h a (List.mem_cons_of_mem _ ha) b hb)⟩
    rcases List.mem_append.1 ((mrg_perm _ _ _).mem_iff.1 hz) with hz | hz
    · exact hL'.1 z hz
    · have hx : l.count y ≤ l.count x := by simpa [ltC] using hc
      have hs := h x (by simp) z hz
      rcases List.mem_cons.1 hz with rfl | hz
      · rcases Nat.lt_or_ge (l.count z) (l.count x) with h1 | h1
        · exact .inl h1
        · exact .inr ⟨by omega, hs⟩
      · rcases (List.pairwise_cons.1 hM).1 z hz with h1 | h1
        · exact .inl (by omega)
        · rcases Nat.lt_or_ge (l.count z) (l.count x) with h2 | h2
          · exact .inl h2
          · exact .inr ⟨by omega, hs⟩
theorem srt_cnt (l L : List Nat) (h : L.Pairwise (· < ·)) : (srt (ltC fun b => l.count b) L).Pairwise (befC l) := by
  induction L using srt.induct with
  | case1 L h2 =>
    rw [srt_small _ L h2]
    match L, h2 with
    | [], _ => exact List.Pairwise.nil
    | [x], _ => exact List.pairwise_singleton _ _
  | case2 L h2 ih1 ih2 =>
    rw [srt_big _ L h2]
    rw [← List.take_append_drop (L.length / 2) L, List.pairwise_append] at h
    refine mrg_cnt l _ _ (ih1 h.1) (ih2 h.2.1) ?_
    intro x hx y hy
    exact h.2.2 x ((srt_perm _ _).mem_iff.1 hx) y ((srt_perm _ _).mem_iff.1 hy)
theorem pos8_used (l : List Nat) : pos8 (fun b => l.count b) = usedL l := rfl
theorem srt_ranked {l : List Nat} (hb : Byt l) : Ranked l (srt (ltC fun b => l.count b) (usedL l)) :=
  ⟨srt_cnt l _ (usedL_asc l), fun b => by rw [(srt_perm _ _).mem_iff, mem_usedL hb]⟩

set_option maxRecDepth 100000 in
set_option maxHeartbeats 4000000 in
theorem implUsed_any (s : ByteArray) (w : World) (hs : s.size ≤ 1048576) :
    Calls Try.prog 19 #[.string s] w fun e w' => e = .returned (.string (strOf (usedL (bytesOf s)))) ∧ Below w.heap.size w w' := by
  have K := hidden (countsOf_any s w hs)
  rw [← pos8_used]
  generalize (fun b => (bytesOf s).count b) = f at K ⊢
  go_enter Try.func19, Try.ntmps19
  go_wp2_with (fail)
  refine (K.out).mono ?_
  rintro e w1 ⟨rfl, hC, b1⟩
  go_wp2_with (fail)
  refine (ascending_any _ _ f w1 hC).mono ?_
  rintro e w2 ⟨v, rfl, hrow, b2⟩
  have hrun := run_str hrow
  have hb := hidden (b1.trans (b2.mono b1.size))
  clear hrow b1 b2 hC K
  go_wp2
  go_ret
  exact ⟨rfl, hb.out⟩
set_option maxRecDepth 100000 in
set_option maxHeartbeats 4000000 in
theorem implByCount_any (s : ByteArray) (w : World) (hs : s.size ≤ 1048576) :
    Calls Try.prog 24 #[.string s] w fun e w' => ∃ R, Ranked (bytesOf s) R ∧ e = .returned (.string (strOf R)) ∧ Below w.heap.size w w' := by
  have K := hidden (countsOf_any s w hs)
  have HR := hidden (srt_ranked (byt_bytesOf s))
  have HB : Hid (Byt (usedL (bytesOf s))) := hidden (fun b hb => by
    unfold usedL usedTo at hb
    rw [List.mem_filter, List.mem_range] at hb
    exact hb.1)
  have HL := hidden (card_used (bytesOf s))
  have hcd := card_le (fun b => (bytesOf s).count b)
  rw [← pos8_used] at HR HB HL
  generalize (fun b => (bytesOf s).count b) = f at K HR HB HL hcd
  obtain ⟨m, hm⟩ : ∃ m, (pos8 f).length = m := ⟨_, rfl⟩
  rw [hm] at HL
  have hm256 : m ≤ 256 := by rw [← HL.out]; exact hcd
  have HM := hidden hm
  clear hm hcd
  go_enter Try.func24, Try.ntmps24
  go_wp2_with (fail)
  refine (K.out).mono ?_
  rintro e w1 ⟨rfl, hC, b1⟩
  go_wp2_with (fail)
  refine (ascending_any _ _ f w1 hC).mono ?_
  rintro e w2 ⟨v, rfl, hrow, b2⟩
  have hC2 := hC.below b2
  rw [HM.out] at hrow
  obtain ⟨a, c, rfl, hc1, hc2⟩ := own_full7 hrow
  have hz := Lies.own hrow
  have K2 := hidden (sortedB_any w.heap.size s.size f m a c w2.heap.size (pos8 f) w2 hC2 HB.out HM.out hz (Nat.le_refl _) hc1 hc2 (by omega))
  have hb := hidden (b1.trans (b2.mono b1.size))
  clear hrow hz hC hC2 hc1 hc2
  go_wp2_with (fail)
  refine (K2.out).mono ?_
  rintro e w3 ⟨v3, rfl, hrow3, b3⟩
  have hrun := run_str hrow3
  have hb3 := hidden (hb.out.trans (b3.mono hb.out.size))
  clear hrow3 b3 K2 b1 b2
  go_wp2
  go_ret
  exact ⟨_, HR.out, rfl, hb3.out⟩
end Go.Proofs.Yteaohgipndmciaa
namespace Go.Proofs.Yteaohgipndmciaa
set_option linter.unusedVariables false
set_option linter.unusedSimpArgs false
open Go.RowKit

set_option maxHeartbeats 1000000 in
set_option maxRecDepth 100000 in
theorem usedOk_any (s : ByteArray) (w : World) (hs : s.size ≤ 1048576) :
    Calls Try.prog 56 #[.string s] w fun e w' => e = .returned (.bool (setOk (bytesOf s))) ∧ Below w.heap.size w w' := by
  have K := hidden (fun W : World => implUsed_any s W hs)
  have HS := hidden (setOk_str s)
  obtain ⟨o, ho⟩ : ∃ o, setOk (bytesOf s) = o := ⟨_, rfl⟩
  obtain ⟨u, hu⟩ : ∃ u, strOf (usedL (bytesOf s)) = u := ⟨_, rfl⟩
  rw [ho, hu] at HS
  rw [hu] at K
  rw [ho]
  by_cases h0 : 0 < s.size
  · have hne := str_isEmpty h0
    clear ho hu
    by_cases he : u = s
    · subst he
      have HO : Hid (o = true) := hidden (HS.out.2 ⟨h0, rfl⟩)
      go_enter Try.func56, Try.ntmps56
      go_wp2_with fail
      refine (K.out _).mono ?_
      rintro e w1 ⟨rfl, b1⟩
      go_wp2
      go_ret
      exact ⟨ret_bool (by rw [HO.out]), b1⟩
    · have HO : Hid (o = false) := hidden (by
        cases o
        · rfl
        · exact absurd (HS.out.1 rfl).2 he)
      have hbe := str_beq_ne (fun e => he e.symm)
      go_enter Try.func56, Try.ntmps56
      go_wp2_with fail
      refine (K.out _).mono ?_
      rintro e w1 ⟨rfl, b1⟩
      go_wp2
      go_ret
      exact ⟨ret_bool (by rw [HO.out]), b1⟩
  · have HO : Hid (o = false) := hidden (by
      cases o
      · rfl
      · exact absurd (HS.out.1 rfl).1 h0)
    clear hu ho
    obtain rfl := str_zero h0
    go_enter Try.func56, Try.ntmps56
    go_wp2
    go_ret
    exact ⟨ret_bool (by rw [HO.out]), Below.refl _ _⟩
end Go.Proofs.Yteaohgipndmciaa
namespace Go.Proofs.Yteaohgipndmciaa
set_option linter.unusedVariables false
set_option linter.unusedSimpArgs false
open Go.RowKit

set_option maxHeartbeats 4000000 in
set_option maxRecDepth 100000 in
theorem implGetOrder_set (s u : ByteArray) (at0 : Int) (w : World) (hu : u.size ≤ 1048576) (hok : setOk (bytesOf u) = false) :
    Calls Try.prog 27 #[.agg #[.string s, .int .i64 at0], .string u] w fun e w' => e = .returned (.tuple #[.string ⟨#[]⟩, .agg #[.string ⟨#[]⟩, .int .i64 0], .bool false]) ∧ Below w.heap.size w w' := by
  have bb : Below w.heap.size w ((w.alloc (.cells #[.string s, .int .i64 at0] 30)).alloc (.cells #[.string ⟨#[]⟩, .int .i64 0] 30)) := ((Below.refl _ _).alloc (Nat.le_refl _) _).alloc (by simp) _
  have hS := Has.freshAt (w := w.alloc (.cells #[.string s, .int .i64 at0] 30)) (g := w.heap.size + 1) (by simp) 30 #[.string ⟨#[]⟩, .int .i64 0]
  have K1 := hidden (fun W => usedOk_any u W hu)
  rw [hok] at K1
  clear hok
  go_enter Try.func27, Try.ntmps27
  go_wp2_with fail
  refine (K1.out _).mono ?_
  rintro e w2 ⟨rfl, b2⟩
  replace bb := bel_then b2 bb.size bb
  replace hS := hS.below b2 hS.lt
  have hs2 := bb.size
  have hSl := hS.lt
  have e0 := hS.cell 0
  have e1 := hS.cell 1
  have g0 := hS.free 0
  have g1 := hS.free 1
  simp at e0 e1
  clear b2 hS
  go_wp2
  refine bodyPost_ret (v := .tuple #[.string ⟨#[]⟩, .agg #[.string ⟨#[]⟩, .int .i64 0], .bool false]) (by simp [results, Try.results27, go_sem, e0, e1, g0, g1]) rfl ⟨rfl, ?_⟩
  repeat (first | exact Below.refl _ _ | assumption | refine Below.alloc ?_ (by (try simp); (try omega)) _ | refine Below.setCell ?_ (by (try simp); (try omega)) _ | refine Below.drew ?_ | refine bel_then (by assumption) (by (try simp); (try omega)) ?_)
set_option maxHeartbeats 16000000 in
set_option maxRecDepth 100000 in
theorem implGetOrder_any (s u : ByteArray) (at0 : Nat) (w : World) (hs : s.size ≤ 1048576) (hu : u.size ≤ 1048576) (ha : at0 ≤ 8 * s.size) (hok : setOk (bytesOf u) = true) :
    Calls Try.prog 27 #[.agg #[.string s, .int .i64 at0], .string u] w (GG7 s (getO s (bytesOf u).length (bytesOf u) at0) w) := by
  have hasc := (usedL_self (byt_bytesOf u)).1 ((setOk_iff _).1 hok).2
  have hl := nodup_256 (byt_bytesOf u) (asc_nodup hasc)
  obtain ⟨i0, hi, hz0, hz1, hz2⟩ := info_parts Try.info5
  have K1 := hidden (fun W => usedOk_any u W hu)
  rw [hok] at K1
  have KL := hidden (fun W => listOf_any u W hu)
  have HLn := hidden (bytesOf_len u)
  have HB := hidden (byt_bytesOf u)
  have HAs := hidden hasc
  obtain ⟨O, hO⟩ : ∃ O, bytesOf u = O := ⟨_, rfl⟩
  rw [hO] at KL HLn HB HAs hl ⊢
  obtain ⟨n, hn⟩ : ∃ n, u.size = n := ⟨_, rfl⟩
  rw [hn] at HLn
  have hn256 : n ≤ 256 := by rw [← HLn.out]; exact hl
  have HUS := hidden hn
  obtain ⟨G, hG⟩ : ∃ G, getO s O.length O at0 = G := ⟨_, rfl⟩
  have HG := hidden hG
  rw [hG]
  have bb : Below w.heap.size w ((w.alloc (.cells #[.string s, .int .i64 at0] 30)).alloc (.cells #[.string ⟨#[]⟩, .int .i64 0] 30)) := ((Below.refl _ _).alloc (Nat.le_refl _) _).alloc (by simp) _
  have hR := (Has.fresh w 30 #[.string s, .int .i64 at0]).alloc (.cells #[.string ⟨#[]⟩, .int .i64 0] 30)
  have hS := Has.freshAt (w := w.alloc (.cells #[.string s, .int .i64 at0] 30)) (g := w.heap.size + 1) (by simp) 30 #[.string ⟨#[]⟩, .int .i64 0]
  clear hok hasc hl hO hG hn hu
  go_enter Try.func27, Try.ntmps27
  go_wp2_with fail
  refine (K1.out _).mono ?_
  rintro e w2 ⟨rfl, b2⟩
  replace bb := bel_then b2 bb.size bb
  replace hR := hR.below b2 hR.lt
  replace hS := hS.below b2 hS.lt
  have hs2 := bb.size
  have hRl := hR.lt
  have hSl := hS.lt
  clear b2
  go_wp2_with fail
  refine (KL.out _).mono ?_
  rintro e w3 ⟨lb, rfl, hlb, hBL, b3⟩
  replace bb := bel_then b3 hs2 bb
  replace hR := hR.below b3 hRl
  replace hS := hS.below b3 hSl
  obtain ⟨mb, hmb⟩ : ∃ mb, w2.heap.size = mb := ⟨_, rfl⟩
  rw [hmb] at hBL hlb hSl hRl
  have hs3 := bb.size
  have hlb3 := hBL.1.lt
  clear b3 hmb hs2
  have hus := HUS.out
  go_wp2_with (at_make; refine wpList_make_own _ rfl _ _ 22 rfl w3.heap.size 5 i0 (.int .u8 0) 1 Try.underlying22 hi hz0 hz1 _ _ _ n rfl rfl (by omega) ?b2 ?b3 (Nat.le_refl _) ?_)
  case b2 => rw [hz2]; omega
  case b3 => unfold maxLen; omega
  intro w4 hown4 hgrow4
  have b4 : Below w3.heap.size w3 w4 := (Below.refl _ _).grown hgrow4 (Nat.le_refl _) (fun k h => by cases h)
  replace bb := bel_then b4 hs3 bb
  replace hR := hR.below b4 hR.lt
  replace hS := hS.below b4 hS.lt
  have hBL4 : BL w4 lb mb O := ⟨hBL.1.below b4 hlb3, hBL.2.below b4⟩
  have hs4 := b4.size
  have HR0 : Hid (G = (getO s n O at0).map (fun r => ([] ++ r.1, r.2))) := hidden (by rw [map_app_nil, ← HG.out, HLn.out])
  have hbase := hidden hlb3
  obtain ⟨Bo, hBo⟩ : ∃ Bo, w3.heap.size = Bo := ⟨_, rfl⟩
  rw [hBo] at hown4 hs4 hlb3 ⊢
  clear hBL b4 hgrow4 hbase hs3 hus hRl hBo
  have hSl2 : w.heap.size + 1 < mb := hSl
  go_wp2
  go_loopg [8, 9, 10, 11, 12] n (fun f v _ _ _ _ wr => ∃ (a : Nat) (U D : List Nat), U.length = f ∧ f + D.length = n ∧ a ≤ 8 * s.size ∧ Hid (U.Pairwise (· < ·)) ∧ Hid (Byt U) ∧ Hid (G = (getO s f U a).map (fun r => (D ++ r.1, r.2))) ∧ wr.ownsRow Bo 5 1 v D.length (u8s D) ∧ BL wr lb mb U ∧ Has wr w.heap.size 30 #[.string s, .int .i64 (a : Int)] ∧ Has wr (w.heap.size + 1) 30 #[.string ⟨#[]⟩, .int .i64 0] ∧ Below w.heap.size w wr ∧ Bo ≤ wr.heap.size)
  case atStart => exact ⟨at0, O, [], HLn.out, by simp, ha, HAs, HB, HR0, hown4, hBL4, hR, hS, bb, hs4⟩
  case round =>
    obtain ⟨a, U, D, hU, hfD, haa, HUA, HUB, HD, hown, hL, hR, hS, hbl, hsz⟩ := hrel
    clear HR0 hown4 hBL4 bb hs4
    have hnd := asc_nodup HUA.out
    have HL := hidden hL
    have KS := hidden (size_any lb mb U wr hL hnd HUB.out)
    rw [hU] at KS
    have hmb := hL.2.lt
    have hlbl := hL.1.lt
    clear hL
    have r0 := hR.cell 0
    have r1 := hR.cell 1
    have q0 := hR.free 0
    have q1 := hR.free 1
    have e0 := hS.cell 0
    have e1 := hS.cell 1
    have g0 := hS.free 0
    have g1 := hS.free 1
    simp at r0 r1 e0 e1
    have hRl := hR.lt
    have hSl := hS.lt
    by_cases h0 : gk = 0
    · subst h0
      have hU0 : U = [] := List.length_eq_zero_iff.1 hU
      have HGE : Hid (G = some (D, a)) := hidden (by rw [HD.out, hU0]; simp [getO])
      have hrun := run_str (w := wr.drew) hown
      clear hR hS hown hU hU0
      go_wp2_with fail
      refine KS.out.mono ?_
      rintro e w5 ⟨rfl, rfl⟩
      go_wp2
      go_region
      all_goals (try go_wp2)
      all_goals
        refine bodyPost_ret (v := .tuple #[.string (strOf D), .agg #[.string s, .int .i64 (a : Int)], .bool true]) (by simp [results, Try.results27, go_sem, r0, r1, e0, e1, g0, g1]) rfl ⟨.inl ⟨D, a, HGE.out, rfl⟩, ?_⟩
        repeat (first | exact Below.refl _ _ | assumption | refine Below.alloc ?_ (by (try simp); (try omega)) _ | refine Below.setCell ?_ (by (try simp); (try omega)) _ | refine Below.drew ?_ | refine bel_then (by assumption) (by (try simp); (try omega)) ?_)
    · obtain ⟨f, rfl⟩ : ∃ k, gk = k + 1 := ⟨gk - 1, by omega⟩
      have hUne : U ≠ [] := fun e => by rw [e] at hU; simp at hU
      have KB := hidden (fun (W : World) (h : BL W lb mb U) => indexBits_any lb mb U W h hnd HUB.out hUne)
      rw [hU] at KB
      have hnl := need_le (f + 1) (by omega)
      obtain ⟨m, hm⟩ : ∃ m, needB (f + 1) = m := ⟨_, rfl⟩
      have HM := hidden hm
      rw [hm] at KB hnl
      clear hm
      by_cases hget : a + m ≤ 8 * s.size
      · obtain ⟨x, hx⟩ : ∃ x, num (row s a m) = x := ⟨_, rfl⟩
        have KG := hidden (fun W : World => implGet_yes s a m W hs (by omega) hget)
        rw [hx] at KG
        obtain ⟨c, hc⟩ : ∃ c, a + m = c := ⟨_, rfl⟩
        rw [hc] at KG
        have HC := hidden hc
        have HXX := hidden hx
        have hc8 : c ≤ 8 * s.size := by omega
        clear hx hc
        go_upto_region 6 with (refine KS.out.mono ?_; rintro e w5 ⟨rfl, rfl⟩)
        go_cut [9, 10, 11, 53, 54, 55] from 22 (fun s9 s10 s11 s53 s54 s55 wc => ∃ N, s53 = undef ∧ s54 = undef ∧ s55 = undef ∧ s9 = .int .i64 x ∧ s10 = .pointer (some ⟨N, 0, none⟩) ∧ s11 = .bool true ∧ wr.heap.size ≤ N ∧ Has wc N 30 #[.string s, .int .i64 (c : Int)] ∧ Below wr.heap.size wr wc)
        case first =>
          go_region_with (first | (go_at_call 72; refine (KB.out _ (by first | exact HL.out | exact ⟨HL.out.1.alloc (.cells #[.string ⟨#[]⟩, .int .i64 0] 30), HL.out.2.alloc (.cells #[.string ⟨#[]⟩, .int .i64 0] 30)⟩)).mono ?_; rintro e w5 ⟨rfl, rfl⟩) | (go_at_call 79; refine (KG.out _).mono ?_; rintro e w5 ⟨rfl, b5⟩; obtain ⟨hcG, hfG, hllG⟩ := bcell3 b5; have hyG := b5.size; (try simp at hyG)))
          all_goals (try go_wp2)
          all_goals go_meet
          all_goals first
            | exact ⟨w5.heap.size, rfl, rfl, rfl, rfl, rfl, rfl, by omega, Has.fresh _ _ _, by repeat (first | exact Below.refl _ _ | refine Below.alloc ?_ (by (try simp); (try omega)) _ | refine Below.drew ?_ | refine bel_then b5 (by (try simp); (try omega)) ?_)⟩
            | exact ⟨wr.heap.size, rfl, rfl, rfl, rfl, rfl, rfl, Nat.le_refl _, by
                have h := ((Has.below (by exact Has.fresh wr 30 #[.string ⟨#[]⟩, .int .i64 0]) b5 (by simp)).store 0 (.string s)).store 1 (.int .i64 (c : Int))
                simpa using h, by repeat (first | exact Below.refl _ _ | refine Below.alloc ?_ (by (try simp); (try omega)) _ | refine Below.setCell ?_ (by (try simp); (try omega)) _ | refine Below.drew ?_ | refine bel_then b5 (by (try simp); (try omega)) ?_)⟩
        case rest =>
          obtain ⟨N, rfl, rfl, rfl, rfl, rfl, rfl, hN, hNx, bc⟩ := hcut
          have hL5 : BL wc lb mb U := ⟨HL.out.1.below bc hlbl, HL.out.2.below bc⟩
          have own5 := own_bel hown bc
          have hR5 := hR.below bc hRl
          have hS5 := hS.below bc hSl
          have hbl5 := bel_then bc hbl.size hbl
          have KS5 := hidden (size_any lb mb U wc hL5 hnd HUB.out)
          rw [hU] at KS5
          have hsz5 : Bo ≤ wc.heap.size := Nat.le_trans hsz bc.size
          have hNl := hNx.lt
          clear r0 r1 q0 q1 e0 e1 g0 g1 hown hR hS hbl KB KG KS bc HL hsz
          by_cases hxf : x ≤ f
          · have hxf2 : ¬ ((f : Int) + 1 ≤ (x : Int)) := by omega
            have KA := hidden (at_any lb mb x U wc hL5 hnd HUB.out (by omega))
            have KR := hidden (fun b (h1 : b ∈ U) (h2 : b < 256) => remove_any lb mb b U wc hL5 hnd h1 h2 (by omega) (by omega))
            clear hL5
            go_wp2_with fail
            refine KS5.out.mono ?_
            rintro e w6 ⟨rfl, rfl⟩
            go_wp2_with fail
            refine KA.out.mono ?_
            rintro e w6 ⟨b, hbU, hb256, hbef, rfl, rfl⟩
            go_wp2_with fail
            refine (KR.out b hbU hb256).mono ?_
            rintro e w7 ⟨rfl, hL7, hT⟩
            have hlo := fun g hg => (own5.lt g hg).1
            have hvl : ∀ {y}, u8.ownBlock = some y → Bo ≤ y := fun {y} e => hlo y e
            have own7 := hT.own own5 (fun e => by have := hvl e; omega) (fun e => by have := hvl e; omega)
            have hR7 := hT.has hR5 (by omega) (by omega)
            have hS7 := hT.has hS5 (by omega) (by omega)
            have hN7 := hT.has hNx (by omega) (by omega)
            have hbl7 := hbl5.trans (hT.below (by omega) (by omega) hbl5.size)
            have hsz7 : wc.heap.size ≤ w7.heap.size := hT.2.2.2.1
            have hxl : x < U.length := by omega
            have hel : U.idxOf b = x := by rw [idx_bef HUA.out hbU]; exact hbef
            have her : U.erase b = U.eraseIdx x := List.erase_eq_eraseIdx_of_idxOf hel
            have hgd : U.getD x 0 = b := by subst hel; simp [List.getD, List.getElem?_eq_getElem hxl]
            have HD2 : Hid (G = (getO s f (U.erase b) c).map (fun r => ((D ++ [b]) ++ r.1, r.2))) := hidden (by
              rw [HD.out, getO_yes (by rw [HM.out]; exact hget) (by rw [HM.out]; exact HXX.out) hxf, HM.out, HC.out, her, Option.map_map, hgd]
              congr 1
              funext r
              simp)
            have HUA2 : Hid ((U.erase b).Pairwise (· < ·)) := hidden (HUA.out.sublist List.erase_sublist)
            have HUB2 : Hid (Byt (U.erase b)) := hidden (fun y hy => HUB.out y (List.mem_of_mem_erase hy))
            have hUL : (U.erase b).length = f := by rw [List.length_erase_of_mem hbU, hU]; rfl
            obtain ⟨U2, hU2⟩ : ∃ U2, U.erase b = U2 := ⟨_, rfl⟩
            rw [hU2] at hL7 HD2 HUA2 HUB2 hUL
            clear hxl hel her hgd hU2 own5 hR5 hS5 hNx hbl5 hT hbef hnd
            go_wp2_with (at_builtin; refine wpList_append_own _ rfl _ _ 22 rfl Bo 5 i0 (.int .u8 0) 1 1 Try.underlying22 hi hz0 hz1 hz2 rfl (by decide) _ _ _ rfl (own7.alloc _) ⟨w7.heap.size, 0, none⟩ 1 1 [.int .u8 (b : Int)] rfl rfl ?c1 ?c2 ?c3 ?c4 ?c5 ?_)
            case c1 => exact cell_one_new _ _ _
            case c2 => exact fun y hy => by simp at hy; subst hy; rfl
            case c3 => unfold maxLen; omega
            case c4 => omega
            case c5 => first | omega | (simp; omega)
            intro v8 w8 own8 hgrow _
            have hownA := own7.alloc (.cells #[.int .u8 (b : Int)] 5)
            have hR8 := has_grown7 (hR7.alloc _) hownA (by decide) hgrow
            have hS8 := has_grown7 (hS7.alloc _) hownA (by decide) hgrow
            have hN8 := has_grown7 (hN7.alloc _) hownA (by decide) hgrow
            have hLb8 := has_grown7 (hL7.1.alloc _) hownA (by decide) hgrow
            have hLc8 := (hL7.2.alloc (.cells #[.int .u8 (b : Int)] 5)).grown hgrow (fun e => by have := hvl e.symm; omega)
            have hbl8 : Below w.heap.size w w8 := (hbl7.alloc hbl7.size _).grown hgrow (by simp; have := hbl7.size; omega) (fun g hg => by have := hlo g hg; omega)
            have hs8 : Bo ≤ w8.heap.size := by have := hgrow.size; simp at this; omega
            have HO8 : Hid (w8.ownsRow Bo 5 1 v8 (D ++ [b]).length (u8s (D ++ [b]))) := hidden (by rw [u8s_snoc, List.length_append]; exact own8)
            have hv8 : ∀ y, v8.ownBlock = some y → Bo ≤ y := fun y e => (own8.lt y e).1
            clear own7 hownA own8 hgrow hR7 hS7 hN7 hL7 hbl7
            have r0 := hR8.cell 0
            have r1 := hR8.cell 1
            have q0 := hR8.free 0
            have q1 := hR8.free 1
            have n0 := hN8.cell 0
            have n1 := hN8.cell 1
            simp at r0 r1 n0 n1
            go_wp2
            go_roundg f
            case measure => omega
            case rel =>
              refine ⟨c, U2, D ++ [b], hUL, by simp; omega, hc8, HUA2, HUB2, HD2, ?_, ⟨(hLb8.storeAway (p := ⟨w.heap.size, 0, none⟩) (by simp; omega) _).storeAway (p := ⟨w.heap.size, 1, none⟩) (by simp; omega) _, (hLc8.setCell (p := ⟨w.heap.size, 0, none⟩) (by simp; omega) _).setCell (p := ⟨w.heap.size, 1, none⟩) (by simp; omega) _⟩, ?_, (hS8.storeAway (p := ⟨w.heap.size, 0, none⟩) (by simp) _).storeAway (p := ⟨w.heap.size, 1, none⟩) (by simp) _, (hbl8.setCell (p := ⟨w.heap.size, 0, none⟩) (Nat.le_refl _) _).setCell (p := ⟨w.heap.size, 1, none⟩) (Nat.le_refl _) _, by simpa using hs8⟩
              · exact own_away (own_away HO8.out (p := ⟨w.heap.size, 0, none⟩) (by simp; omega) _) (p := ⟨w.heap.size, 1, none⟩) (by simp; omega) _
              · simpa using (hR8.store 0 (.string s)).store 1 (.int .i64 (c : Int))
          · have HNO : Hid (G = none) := hidden (by rw [HD.out, getO_no (fun h => hxf (by have := h.2; rw [HM.out, HXX.out] at this; exact this))]; rfl)
            have hxf2 : (f : Int) + 1 ≤ (x : Int) := by omega
            have e0 := hS5.cell 0
            have e1 := hS5.cell 1
            have g0 := hS5.free 0
            have g1 := hS5.free 1
            have hbs := hbl5.size
            simp at e0 e1
            clear hL5 own5 hR5 hS5 hNx
            go_wp2_with fail
            refine KS5.out.mono ?_
            rintro e w6 ⟨rfl, rfl⟩
            go_wp2
            refine bodyPost_ret (v := .tuple #[.string ⟨#[]⟩, .agg #[.string ⟨#[]⟩, .int .i64 0], .bool false]) (by simp [results, Try.results27, go_sem, e0, e1, g0, g1]) rfl ⟨.inr ⟨HNO.out, rfl⟩, ?_⟩
            repeat (first | exact Below.refl _ _ | assumption | refine Below.alloc ?_ (by (try simp); (try omega)) _ | refine Below.setCell ?_ (by (try simp); (try omega)) _ | refine Below.drew ?_ | refine bel_then (by assumption) (by (try simp); (try omega)) ?_)
      · have KN := hidden (fun W : World => implGet_no s a m W hs (by omega) (by omega) (fun h => hget (by omega)))
        have HNO : Hid (G = none) := hidden (by rw [HD.out, getO_no (fun h => hget (by have := h.1; rw [HM.out] at this; exact this))]; rfl)
        clear hget
        go_upto_region 6 with (refine KS.out.mono ?_; rintro e w5 ⟨rfl, rfl⟩)
        go_cut [9, 10, 11, 53, 54, 55] from 22 (fun s9 s10 s11 s53 s54 s55 wc => ∃ N, s53 = undef ∧ s54 = undef ∧ s55 = undef ∧ s9 = .int .i64 0 ∧ s10 = .pointer (some ⟨N, 0, none⟩) ∧ s11 = .bool false ∧ Below wr.heap.size wr wc)
        case first =>
          go_region_with (first | (go_at_call 72; refine (KB.out _ (by first | exact HL.out | exact ⟨HL.out.1.alloc (.cells #[.string ⟨#[]⟩, .int .i64 0] 30), HL.out.2.alloc (.cells #[.string ⟨#[]⟩, .int .i64 0] 30)⟩)).mono ?_; rintro e w5 ⟨rfl, rfl⟩) | (go_at_call 79; refine (KN.out _).mono ?_; rintro e w5 ⟨rfl, b5⟩; obtain ⟨hcG, hfG, hllG⟩ := bcell3 b5; have hyG := b5.size; (try simp at hyG)))
          all_goals (try go_wp2)
          all_goals go_meet
          all_goals
            refine ⟨_, rfl, rfl, rfl, rfl, rfl, rfl, ?_⟩
            repeat (first | exact Below.refl _ _ | refine Below.alloc ?_ (by (try simp); (try omega)) _ | refine Below.setCell ?_ (by (try simp); (try omega)) _ | refine Below.drew ?_ | refine bel_then b5 (by (try simp); (try omega)) ?_)
        case rest =>
          obtain ⟨N, rfl, rfl, rfl, rfl, rfl, rfl, bc⟩ := hcut
          have hS5 := hS.below bc hSl
          have hbl5 := bel_then bc hbl.size hbl
          have hSl5 := hS5.lt
          clear r0 r1 q0 q1 e0 e1 g0 g1 hown hR hS hbl KB KN KS bc HL hsz
          have e0 := hS5.cell 0
          have e1 := hS5.cell 1
          have g0 := hS5.free 0
          have g1 := hS5.free 1
          have hbs := hbl5.size
          simp at e0 e1
          clear hS5
          go_wp2
          refine bodyPost_ret (v := .tuple #[.string ⟨#[]⟩, .agg #[.string ⟨#[]⟩, .int .i64 0], .bool false]) (by simp [results, Try.results27, go_sem, e0, e1, g0, g1]) rfl ⟨.inr ⟨HNO.out, rfl⟩, ?_⟩
          repeat (first | exact Below.refl _ _ | assumption | refine Below.alloc ?_ (by (try simp); (try omega)) _ | refine Below.setCell ?_ (by (try simp); (try omega)) _ | refine Below.drew ?_ | refine bel_then (by assumption) (by (try simp); (try omega)) ?_)
end Go.Proofs.Yteaohgipndmciaa
