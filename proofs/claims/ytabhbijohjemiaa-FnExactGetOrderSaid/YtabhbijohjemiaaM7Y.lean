/- Chapter 7: GetOrder of a reader that is not valid; the model and the program answer the same. -/
import Derived.Test.YtabhbijohjemiaaI7Y
import Derived.Test.YtabhbijohjemiaaH1
import Derived.Test.YtabhbijohjemiaaWExGetOrder
import Derived.Test.YtabhbijohjemiaaH4
import Derived.Test.YtabhbijohjemiaaH2
import Derived.Test.YtabhbijohjemiaaH3
import Derived.Deep.RegionWith
import Derived.Deep.Cut
namespace Go.Proofs.Ytabhbijohjemiaa
set_option linter.unusedVariables false
set_option linter.unusedSimpArgs false
open Go.RowKit

set_option maxHeartbeats 16000000 in
set_option maxRecDepth 100000 in
theorem implGetOrder_no (s u : ByteArray) (at0 : Int) (w : World) (hs : s.size ≤ 1048576) (hu : u.size ≤ 1048576) (b1 : -9223372036854775808 ≤ at0) (b2' : at0 ≤ 9223372036854775807) (ha : ¬ (0 ≤ at0 ∧ at0 ≤ 8 * s.size)) (hok : setOk (bytesOf u) = true) :
    Calls Try.prog 28 #[.agg #[.string s, .int .i64 at0], .string u] w fun e w' => e = .returned (.tuple #[.string ⟨#[]⟩, .agg #[.string ⟨#[]⟩, .int .i64 0], .bool false]) ∧ Below w.heap.size w w' := by
  have hasc := (usedL_self (byt_bytesOf u)).1 ((setOk_iff _).1 hok).2
  have hl := nodup_256 (byt_bytesOf u) (asc_nodup hasc)
  obtain ⟨i0, hi, hz0, hz1, hz2⟩ := info_parts Try.info5
  have K1 := hidden (fun W => usedOk_any u W hu)
  rw [hok] at K1
  have KL := hidden (fun W => listOf_any u W hu)
  have HLn := hidden (bytesOf_len u)
  have HB := hidden (byt_bytesOf u)
  have HAs := hidden hasc
  obtain ⟨O, hO⟩ : ∃ O, bytesOf u = O := ⟨_, rfl⟩
  rw [hO] at KL HLn HB HAs hl
  obtain ⟨n, hn⟩ : ∃ n, u.size = n := ⟨_, rfl⟩
  rw [hn] at HLn
  have hn256 : n ≤ 256 := by rw [← HLn.out]; exact hl
  have HUS := hidden hn
  have HX := hidden ha
  have hne0 : 0 < n := by
    rw [← hn]
    exact ((setOk_str u).1 hok).1
  have bb : Below w.heap.size w ((w.alloc (.cells #[.string s, .int .i64 at0] 30)).alloc (.cells #[.string ⟨#[]⟩, .int .i64 0] 30)) := ((Below.refl _ _).alloc (Nat.le_refl _) _).alloc (by simp) _
  have hR := (Has.fresh w 30 #[.string s, .int .i64 at0]).alloc (.cells #[.string ⟨#[]⟩, .int .i64 0] 30)
  have hS := Has.freshAt (w := w.alloc (.cells #[.string s, .int .i64 at0] 30)) (g := w.heap.size + 1) (by simp) 30 #[.string ⟨#[]⟩, .int .i64 0]
  clear hok hasc hl hO hn hu ha
  go_enter Try.func28, Try.ntmps28
  go_wp2_with fail
  refine (K1.out _).mono ?_
  rintro e w2 ⟨rfl, b2⟩
  replace bb := bel_then b2 bb.size bb
  replace hR := hR.below b2 hR.lt
  replace hS := hS.below b2 hS.lt
  have hs2 := bb.size
  have hRl := hR.lt
  have hSl := hS.lt
  clear b2
  go_wp2_with fail
  refine (KL.out _).mono ?_
  rintro e w3 ⟨lb, rfl, hlb, hBL, b3⟩
  replace bb := bel_then b3 hs2 bb
  replace hR := hR.below b3 hRl
  replace hS := hS.below b3 hSl
  obtain ⟨mb, hmb⟩ : ∃ mb, w2.heap.size = mb := ⟨_, rfl⟩
  rw [hmb] at hBL hlb hSl hRl
  have hs3 := bb.size
  have hlb3 := hBL.1.lt
  clear b3 hmb hs2
  have hus := HUS.out
  go_wp2_with (at_make; refine wpList_make_own _ rfl _ _ 22 rfl w3.heap.size 5 i0 (.int .u8 0) 1 Try.underlying22 hi hz0 hz1 _ _ _ n rfl rfl (by omega) ?b2 ?b3 (Nat.le_refl _) ?_)
  case b2 => rw [hz2]; omega
  case b3 => unfold maxLen; omega
  intro w4 hown4 hgrow4
  have b4 : Below w3.heap.size w3 w4 := (Below.refl _ _).grown hgrow4 (Nat.le_refl _) (fun k h => by cases h)
  replace bb := bel_then b4 hs3 bb
  replace hR := hR.below b4 hR.lt
  replace hS := hS.below b4 hS.lt
  have hBL4 : BL w4 lb mb O := ⟨hBL.1.below b4 hlb3, hBL.2.below b4⟩
  have hs4 := b4.size
  have hbase := hidden hlb3
  obtain ⟨Bo, hBo⟩ : ∃ Bo, w3.heap.size = Bo := ⟨_, rfl⟩
  rw [hBo] at hown4 hs4 hlb3 ⊢
  clear hBL b4 hgrow4 hbase hs3 hus hRl hBo
  have hSl2 : w.heap.size + 1 < mb := hSl
  go_wp2
  go_loopg [8, 9, 10, 11, 12] 1 (fun _ v _ _ _ _ wr => wr.ownsRow Bo 5 1 v 0 [] ∧ BL wr lb mb O ∧ Has wr w.heap.size 30 #[.string s, .int .i64 at0] ∧ Has wr (w.heap.size + 1) 30 #[.string ⟨#[]⟩, .int .i64 0] ∧ Below w.heap.size w wr)
  case atStart => exact ⟨hown4, hBL4, hR, hS, bb⟩
  case round =>
    obtain ⟨hown, hL, hR, hS, hbl⟩ := hrel
    clear hown4 hBL4 bb hs4
    have hnd := asc_nodup HAs.out
    have HL := hidden hL
    have KS := hidden (size_any lb mb O wr hL hnd HB.out)
    rw [HLn.out] at KS
    have hUne : O ≠ [] := fun e => by have := HLn.out; rw [e] at this; simp at this; omega
    have KB := hidden (fun (W : World) (h : BL W lb mb O) => indexBits_any lb mb O W h hnd HB.out hUne)
    rw [HLn.out] at KB
    have r0 := hR.cell 0
    have r1 := hR.cell 1
    have q0 := hR.free 0
    have q1 := hR.free 1
    simp at r0 r1
    have hSl := hS.lt
    have hRl := hR.lt
    have hmb := hL.2.lt
    have hlbl := hL.1.lt
    obtain ⟨m, hm⟩ : ∃ m, needB n = m := ⟨_, rfl⟩
    rw [hm] at KB
    clear hL hm
    have KN := hidden (fun W : World => implGet_no s at0 m W hs b1 b2' (fun h => HX.out ⟨h.1, by omega⟩))
    go_upto_region 6 with (refine KS.out.mono ?_; rintro e w5 ⟨rfl, rfl⟩)
    go_cut [9, 10, 11, 53, 54, 55] from 22 (fun s9 s10 s11 s53 s54 s55 wc => ∃ N, s53 = undef ∧ s54 = undef ∧ s55 = undef ∧ s9 = .int .i64 0 ∧ s10 = .pointer (some ⟨N, 0, none⟩) ∧ s11 = .bool false ∧ Below wr.heap.size wr wc)
    case first =>
      go_region_with (first | (go_at_call 66; refine (KB.out _ (by first | exact HL.out | exact ⟨HL.out.1.alloc (.cells #[.string ⟨#[]⟩, .int .i64 0] 30), HL.out.2.alloc (.cells #[.string ⟨#[]⟩, .int .i64 0] 30)⟩)).mono ?_; rintro e w5 ⟨rfl, rfl⟩) | (go_at_call 73; refine (KN.out _).mono ?_; rintro e w5 ⟨rfl, b5⟩; obtain ⟨hcG, hfG, hllG⟩ := bcell3 b5; have hyG := b5.size; (try simp at hyG)))
      all_goals (try go_wp2)
      all_goals go_meet
      all_goals
        refine ⟨_, rfl, rfl, rfl, rfl, rfl, rfl, ?_⟩
        repeat (first | exact Below.refl _ _ | refine Below.alloc ?_ (by (try simp); (try omega)) _ | refine Below.setCell ?_ (by (try simp); (try omega)) _ | refine Below.drew ?_ | refine bel_then b5 (by (try simp); (try omega)) ?_)
    case rest =>
      obtain ⟨N, rfl, rfl, rfl, rfl, rfl, rfl, bc⟩ := hcut
      have hS5 := hS.below bc hSl
      have hbl5 := bel_then bc hbl.size hbl
      have hSl5 := hS5.lt
      clear r0 r1 q0 q1 hown hR hS hbl KB KN KS bc HL
      have e0 := hS5.cell 0
      have e1 := hS5.cell 1
      have g0 := hS5.free 0
      have g1 := hS5.free 1
      have hbs := hbl5.size
      simp at e0 e1
      clear hS5
      go_wp2
      refine bodyPost_ret (v := .tuple #[.string ⟨#[]⟩, .agg #[.string ⟨#[]⟩, .int .i64 0], .bool false]) (by simp [results, Try.results28, go_sem, e0, e1, g0, g1]) rfl ⟨rfl, ?_⟩
      repeat (first | exact Below.refl _ _ | assumption | refine Below.alloc ?_ (by (try simp); (try omega)) _ | refine Below.setCell ?_ (by (try simp); (try omega)) _ | refine Below.drew ?_ | refine bel_then (by assumption) (by (try simp); (try omega)) ?_)
theorem meetsGetOrder : MeetsGetOrder := fun s0 a0 s1 hs b1 b2 hu => by
  cases hok : setOk (bytesOf s1) with
  | false =>
    refine ⟨⟨#[]⟩, ⟨#[]⟩, 0, false, fun W => ?_, fun W => implGetOrder_set s0 s1 a0 W hu hok⟩
    by_cases h : 0 ≤ a0 ∧ a0 ≤ 8 * s0.size
    · obtain ⟨q, rfl⟩ : ∃ q : Nat, a0 = q := ⟨a0.toNat, by omega⟩
      exact specGetOrder_set s0 s1 q W hs hu (by omega) hok
    · exact specGetOrder_no s0 s1 a0 W hs b1 b2 h
  | true =>
    by_cases h : 0 ≤ a0 ∧ a0 ≤ 8 * s0.size
    · obtain ⟨q, rfl⟩ : ∃ q : Nat, a0 = q := ⟨a0.toNat, by omega⟩
      cases hG : getO s0 (bytesOf s1).length (bytesOf s1) q with
      | some r =>
        obtain ⟨u, p⟩ := r
        exact ⟨strOf u, s0, (p : Int), true, fun W => (specGetOrder_any s0 s1 q W hs hu (by omega) hok).mono fun e w' hp => gg7_yes hp hG, fun W => (implGetOrder_any s0 s1 q W hs hu (by omega) hok).mono fun e w' hp => gg7_yes hp hG⟩
      | none => exact ⟨⟨#[]⟩, ⟨#[]⟩, 0, false, fun W => (specGetOrder_any s0 s1 q W hs hu (by omega) hok).mono fun e w' hp => gg7_no hp hG, fun W => (implGetOrder_any s0 s1 q W hs hu (by omega) hok).mono fun e w' hp => gg7_no hp hG⟩
    · exact ⟨⟨#[]⟩, ⟨#[]⟩, 0, false, fun W => specGetOrder_no s0 s1 a0 W hs b1 b2 h, fun W => implGetOrder_no s0 s1 a0 W hs hu b1 b2 h hok⟩
end Go.Proofs.Ytabhbijohjemiaa
