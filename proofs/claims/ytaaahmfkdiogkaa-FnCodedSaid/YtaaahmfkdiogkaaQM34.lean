/- Merged: I12C, I12D, I12G, I12H. -/
import Derived.Test.YtaaahmfkdiogkaaQM23
import Derived.Test.YtaaahmfkdiogkaaQM26
import Derived.Test.YtaaahmfkdiogkaaQM21
import Derived.Test.YtaaahmfkdiogkaaQM29
import Derived.Test.YtaaahmfkdiogkaaQM24
import Derived.Test.YtaaahmfkdiogkaaQM4
import Derived.Lib.MinMax
import Derived.RegionTactic
import Derived.ChangeAlike
namespace Go.Proofs.Ytaaahmfkdiogkaa
set_option linter.unusedVariables false
set_option linter.unusedSimpArgs false
open Go.RowKit

theorem gdOk_eq (T : List (List Int)) (G : List Int) : gdOk T G = (tbOk T (tbN T) && rOk G T.length) := by
  rw [Bool.eq_iff_iff, gdOk_iff, Bool.and_eq_true, rOk_iff, symsB_iff, tbOk_iff]
  constructor
  · rintro ⟨⟨⟨h1, h2⟩, h3⟩, h4, h5, h6⟩
    refine ⟨⟨⟨h1, h2⟩, h3⟩, by omega, by omega, h4, fun x hx => ?_⟩
    obtain ⟨k, hk, e⟩ := List.getElem_of_mem hx
    have := h6 k hk
    rw [List.getD_eq_getElem?_getD, List.getElem?_eq_getElem hk, Option.getD_some, e] at this
    exact this
  · rintro ⟨⟨⟨h1, h2⟩, h3⟩, _, _, h4, h5⟩
    exact ⟨⟨⟨h1, h2⟩, h3⟩, h4, by omega, fun k hk => h5 _ (getD_mem hk)⟩
theorem cdOk_eq (S : List Int) (T : List (List Int)) (G : List Int) : cdOk S T G = (gdOk T G && (symsB (tbN T) S && decide ((G.length : Int) = grpZ (S.length : Int)))) := by
  rw [Bool.eq_iff_iff, cdOk_iff, Bool.and_eq_true, Bool.and_eq_true, gdOk_iff, decide_eq_true_eq, rowB_iff, symsB_iff (tbN T) S]
  constructor
  · rintro ⟨h1, ⟨h2, h3, h4⟩, h5, h6⟩
    have hg : grpZ (S.length : Int) = (grp S.length : Int) := by unfold grpZ; rw [if_pos (by omega), Int.toNat_natCast]
    refine ⟨⟨h1, ?_, h6⟩, ⟨h3, h4⟩, by rw [hg, h5]⟩
    rw [h5]; unfold grp; omega
  · rintro ⟨⟨h1, h2, h3⟩, ⟨h4, h5⟩, h6⟩
    have hg : grpZ (S.length : Int) = (grp S.length : Int) := by unfold grpZ; rw [if_pos (by omega), Int.toNat_natCast]
    rw [hg] at h6
    obtain ⟨⟨h7, h8⟩, h9⟩ := (tbOk_iff _ _).1 h1
    have hl := lOk_range ((h9 0 (by omega)).2)
    have e : tbN T = (T.getD 0 []).length := rfl
    exact ⟨h1, ⟨⟨by rw [e]; have := hl.1; omega, by rw [e]; have := hl.2.1; omega⟩, h4, h5⟩, by omega, h3⟩
set_option maxHeartbeats 2000000 in
set_option maxRecDepth 100000 in
theorem assigned_any (at2 a3 : Option Addr) (capT cap3 B : Nat) (T : List (List Int)) (G : List Int) (w : World) (hT : Tabs w B at2 T) (hz3 : Ints w B a3 G) (hB : B ≤ w.heap.size) (hT6 : T.length ≤ 1048576) (hG6 : G.length ≤ 1048576) :
    Calls Try.prog 86 #[.slice at2 T.length capT, .slice a3 G.length cap3] w fun e w' => e = .returned (.bool (gdOk T G)) ∧ Below w.heap.size w w' := by
  have HDF := hidden (gdOk_eq T G)
  by_cases h0 : T.length = 0
  · have hF : gdOk T G = false := by
      rw [HDF.out]
      have : tbOk T (tbN T) = false := by rw [Bool.eq_false_iff, Ne, tbOk_iff]; omega
      rw [this]; rfl
    rw [h0, hF]
    clear hz3 HDF hF hG6
    go_enter Try.func86, Try.ntmps86
    go_wp2
    go_ret
    exact ⟨rfl, Below.refl _ _⟩
  · obtain ⟨b, off, a2, c2, e, hb, hc, hle, hz0⟩ := hT.at (i := 0) (by omega)
    subst e
    rw [Nat.add_zero] at hc
    have hN : (T.getD 0 []).length = tbN T := rfl
    rw [hN] at hc hle
    have K1 := hidden (implTablesOk_any (some ⟨b, off, none⟩) capT B T (tbN T) w hT hB)
    have K2 : Hid (∀ W, Below w.heap.size w W → Calls Try.prog 68 #[.slice a3 G.length cap3, .int .i64 T.length] W fun e w' => e = .returned (.bool (rOk G T.length)) ∧ Below W.heap.size W w') := hidden (fun W hW => (implRanksOk_any a3 cap3 B G T.length W (hz3.below (hW.mono hB)) hG6 (by omega) (by omega)).mono fun e w' h => ⟨h.1, by first | (rw [h.2]; exact Below.refl _ _) | (rw [← h.2]; exact Below.refl _ _)⟩)
    have hM0 : (0 : Int) < (T.length : Int) := by omega
    obtain ⟨n, hn⟩ : ∃ n, tbN T = n := ⟨_, rfl⟩
    obtain ⟨M, hM⟩ : ∃ M, T.length = M := ⟨_, rfl⟩
    obtain ⟨Q, hQ⟩ : ∃ Q, G.length = Q := ⟨_, rfl⟩
    rw [hn] at hc hle K1 HDF
    rw [hM] at K1 K2 HDF h0 hM0 hT6 ⊢
    rw [hQ] at K2 hG6 ⊢
    clear hT hz3 hz0 hN hn hM hQ
    obtain ⟨r, hr⟩ : ∃ r, gdOk T G = r := ⟨_, rfl⟩
    obtain ⟨t1, ht1⟩ : ∃ t, tbOk T (n : Int) = t := ⟨_, rfl⟩
    obtain ⟨t2, ht2⟩ : ∃ t, rOk G (M : Int) = t := ⟨_, rfl⟩
    rw [hr, ht1, ht2] at HDF
    rw [ht1] at K1
    rw [ht2] at K2
    rw [hr]
    clear hr ht1 ht2
    cases t1 with
    | false =>
      have hF : r = false := by rw [HDF.out]; rfl
      subst hF
      clear HDF
      go_enter Try.func86, Try.ntmps86
      go_wp2_with fail
      refine K1.out.mono ?_
      rintro e w1 ⟨rfl, b1⟩
      go_wp2
      go_ret
      exact ⟨rfl, b1⟩
    | true =>
      have hF : r = t2 := by rw [HDF.out]; simp
      subst hF
      clear HDF
      go_enter Try.func86, Try.ntmps86
      go_wp2_with fail
      refine K1.out.mono ?_
      rintro e w1 ⟨rfl, b1⟩
      go_wp2_with fail
      refine (K2.out _ b1).mono ?_
      rintro e w2 ⟨rfl, b2⟩
      have b3 := b1.trans (b2.mono b1.size)
      go_wp2
      go_ret
      exact ⟨rfl, b3⟩
set_option maxHeartbeats 2000000 in
set_option maxRecDepth 100000 in
theorem codable_any (a at2 a3 : Option Addr) (cap capT cap3 B : Nat) (S G : List Int) (T : List (List Int)) (w : World) (hz : Ints w B a S) (hT : Tabs w B at2 T) (hz3 : Ints w B a3 G) (hB : B ≤ w.heap.size) (hS6 : S.length ≤ 1048576) (hT6 : T.length ≤ 1048576) (hG6 : G.length ≤ 1048576) :
    Calls Try.prog 80 #[.slice a S.length cap, .slice at2 T.length capT, .slice a3 G.length cap3] w fun e w' => e = .returned (.bool (cdOk S T G)) ∧ Below w.heap.size w w' := by
  have HDF := hidden (cdOk_eq S T G)
  have K1 := hidden (assigned_any at2 a3 capT cap3 B T G w hT hz3 hB hT6 hG6)
  cases hg1 : gdOk T G with
  | false =>
    have hF : cdOk S T G = false := by rw [HDF.out, hg1]; rfl
    rw [hF]
    rw [hg1] at K1
    obtain ⟨M, hM⟩ : ∃ M, T.length = M := ⟨_, rfl⟩
    obtain ⟨Q, hQ⟩ : ∃ Q, G.length = Q := ⟨_, rfl⟩
    obtain ⟨N, hN⟩ : ∃ N, S.length = N := ⟨_, rfl⟩
    rw [hM, hQ] at K1
    rw [hM, hQ, hN]
    clear hz hT hz3 HDF hF hg1 hM hQ hN hS6 hT6 hG6
    go_enter Try.func80, Try.ntmps80
    go_wp2_with fail
    refine K1.out.mono ?_
    rintro e w1 ⟨rfl, b1⟩
    go_wp2
    go_ret
    exact ⟨rfl, b1⟩
  | true =>
    obtain ⟨htb, _, _⟩ := (gdOk_iff T G).1 hg1
    obtain ⟨⟨ht1, ht4⟩, htl⟩ := (tbOk_iff _ _).1 htb
    have hl0 := lOk_range ((htl 0 (by omega)).2)
    have hnn : tbN T ≤ 260 := hl0.2.1
    obtain ⟨b, off, a2, c2, e, hb, hc, hle, hz0⟩ := hT.at (i := 0) (by omega)
    subst e
    rw [Nat.add_zero] at hc
    have hN : (T.getD 0 []).length = tbN T := rfl
    rw [hN] at hc hle
    have HC : Hid (∀ W, Below w.heap.size w W → W.cell? ⟨b, off, none⟩ = some (.slice a2 (tbN T) c2)) := hidden (fun W hW => (hW.cell (p := ⟨b, off, none⟩) (by simp; omega)).trans hc)
    have K2 : Hid (∀ W, Below w.heap.size w W → Calls Try.prog 53 #[.slice a S.length cap, .int .i64 (tbN T)] W fun e w' => e = .returned (.bool (symsB (tbN T) S)) ∧ W = w') := hidden (fun W hW => (rowOk_any a cap B (tbN T) S W (hz.below (hW.mono hB)) (by omega)).mono fun e w' h => ⟨h.1, h.2.symm⟩)
    have K3 := hidden (fun W => implGroups_any (S.length : Int) W (by omega) (by omega))
    rw [hg1] at K1 HDF
    have hM0 : (0 : Int) < (T.length : Int) := by omega
    obtain ⟨n, hn⟩ : ∃ n, tbN T = n := ⟨_, rfl⟩
    obtain ⟨M, hM⟩ : ∃ M, T.length = M := ⟨_, rfl⟩
    obtain ⟨Q, hQ⟩ : ∃ Q, G.length = Q := ⟨_, rfl⟩
    obtain ⟨N, hN2⟩ : ∃ N, S.length = N := ⟨_, rfl⟩
    obtain ⟨z, hz2⟩ : ∃ z, grpZ (S.length : Int) = z := ⟨_, rfl⟩
    rw [hz2] at K3 HDF
    rw [hn] at hle HC K2 HDF hnn
    rw [hM] at K1 hM0 ht1 ht4 ⊢
    rw [hQ] at K1 HDF hG6 ⊢
    rw [hN2] at K2 K3 hS6 ⊢
    clear hz hT hz3 hz0 hN hn hM hQ hN2 hz2 htb htl hl0 hg1 hc
    obtain ⟨r, hr⟩ : ∃ r, cdOk S T G = r := ⟨_, rfl⟩
    obtain ⟨t2, ht2⟩ : ∃ t, symsB n S = t := ⟨_, rfl⟩
    rw [hr, ht2] at HDF
    rw [ht2] at K2
    rw [hr]
    clear hr ht2
    cases t2 with
    | false =>
      have hF : r = false := by rw [HDF.out]; rfl
      subst hF
      clear HDF
      go_enter Try.func80, Try.ntmps80
      go_wp2_with fail
      refine K1.out.mono ?_
      rintro e w1 ⟨rfl, b1⟩
      have c0 := HC.out _ b1
      go_wp2_with fail
      refine (K2.out _ b1).mono ?_
      rintro e w2 ⟨rfl, rfl⟩
      go_wp2
      go_ret
      exact ⟨rfl, b1⟩
    | true =>
      have hF : Hid (r = decide ((Q : Int) = z)) := hidden (by rw [HDF.out]; simp)
      clear HDF
      go_enter Try.func80, Try.ntmps80
      go_wp2_with fail
      refine K1.out.mono ?_
      rintro e w1 ⟨rfl, b1⟩
      have c0 := HC.out _ b1
      go_wp2_with fail
      refine (K2.out _ b1).mono ?_
      rintro e w2 ⟨rfl, rfl⟩
      go_wp2_with fail
      refine (K3.out _).mono ?_
      rintro e w3 ⟨rfl, rfl⟩
      go_wp2
      go_ret
      refine ⟨ret_bool ?_, b1⟩
      rw [hF.out]
      first | rfl | (rw [Bool.eq_iff_iff]; simp)
end Go.Proofs.Ytaaahmfkdiogkaa
namespace Go.Proofs.Ytaaahmfkdiogkaa
set_option linter.unusedVariables false
set_option linter.unusedSimpArgs false
open Go.RowKit

/-- Where a row lies, if it holds anything. -/
theorem Ints.place {w : World} {B : Nat} {a : Option Addr} {S : List Int} (h : Ints w B a S) : ∃ b off, (0 < S.length → a = some ⟨b, off, none⟩) ∧ (0 < S.length → b < B) ∧ ∀ j, j < S.length → w.cell? ⟨b, off + j, none⟩ = some (.int .i64 (S.getD j 0)) := by
  rcases Nat.eq_zero_or_pos S.length with h0 | h0
  · exact ⟨0, 0, fun h => by omega, fun h => by omega, fun j hj => by omega⟩
  · obtain ⟨b, off, e, hb, hc⟩ := h.2.2 h0
    exact ⟨b, off, fun _ => e, fun _ => hb, hc⟩
/-- A row of slices that one owns: its cells. -/
theorem own_groups {w : World} {base n c b off len : Nat} {a : Option Addr} (h : w.ownsRow base 24 1 (.slice a n c) n (chVs b off len)) (hn : n = grp len) : ∀ g, g < n → ∃ gb, a = some ⟨gb, 0, none⟩ ∧ w.cell? ⟨gb, g, none⟩ = some (chV b off len g) := by
  intro g hg
  rcases h.2 with ⟨_, h0⟩ | ⟨g2, cap2, cur, hv, _, hcur, _⟩
  · omega
  · simp only [Value.slice.injEq] at hv
    obtain ⟨rfl, _, rfl⟩ := hv
    refine ⟨g2, rfl, ?_⟩
    have := h.cellAt g (by omega)
    rw [this]
    unfold chVs
    rw [List.getElem?_map, List.getElem?_range (by omega)]
    rfl
theorem bitG_part {S L : List Int} {g m : Nat} (hm : min 10 (S.length - 10 * g) = m) : bitG S L g = bitF S L (10 * g) m := by
  unfold bitG
  by_cases h : 10 * g + 10 ≤ S.length
  · have : m = 10 := by omega
    rw [this]
  · by_cases h2 : 10 * g ≤ S.length
    · have h3 := bitF_end (S := S) (l := L) (a := 10 * g) (c := m) (by omega) (10 - m)
      rw [show m + (10 - m) = 10 by omega] at h3
      exact h3
    · have h3 := bitF_end (S := S) (l := L) (a := 10 * g) (c := m) (by omega) (10 - m)
      rw [show m + (10 - m) = 10 by omega] at h3
      exact h3
set_option maxHeartbeats 4000000 in
set_option maxRecDepth 100000 in
theorem implCodedBits_any (a at2 a3 : Option Addr) (cap capT cap3 B : Nat) (S G : List Int) (T : List (List Int)) (w : World) (hz : Ints w B a S) (hT : Tabs w B at2 T) (hz3 : Ints w B a3 G) (hB : B ≤ w.heap.size) (hS1 : S.length ≤ cap) (hct : T.length ≤ capT) (hS6 : S.length ≤ 1048576) (hT6 : T.length ≤ 1048576) (hG6 : G.length ≤ 1048576) :
    Calls Try.prog 40 #[.slice a S.length cap, .slice at2 T.length capT, .slice a3 G.length cap3] w fun e w' => e = .returned (.int .i64 (cbZ S T G)) ∧ Below w.heap.size w w' := by
  have KO := hidden (codable_any a at2 a3 cap capT cap3 B S G T w hz hT hz3 hB hS6 hT6 hG6)
  by_cases hok : cdOk S T G = true
  · have hZ : Hid (cbZ S T G = cbF S T G G.length) := hidden (by unfold cbZ; rw [if_pos hok])
    obtain ⟨hTab, h1, h4, hn1, hn2, hGl, hG, _⟩ := cdOk_tab hok
    rw [hok] at KO
    have HR := hidden (fun g => cbF_range hTab hG g)
    have HTB := hidden hTab
    have HG := hidden hG
    have hSl := hTab.2.2
    have hq : G.length ≤ 200 := by rw [hGl]; unfold grp; omega
    obtain ⟨b, off, ha, hbB, hcS⟩ := hz.place
    have KG := hidden (fun W => groupsOf_any a b off S.length cap W hS6 hS1 ha)
    have HBG := hidden (fun (g m : Nat) (L : List Int) (h : min 10 (S.length - 10 * g) = m) => bitG_part (S := S) (L := L) h)
    have HST : Hid (∀ g, cbF S T G (g + 1) = cbF S T G g + bitG S (T.getD (G.getD g 0).toNat []) g) := hidden (fun g => rfl)
    obtain ⟨Q, hQ⟩ : ∃ Q, G.length = Q := ⟨_, rfl⟩
    obtain ⟨M, hM⟩ : ∃ M, T.length = M := ⟨_, rfl⟩
    obtain ⟨N, hN⟩ : ∃ N, S.length = N := ⟨_, rfl⟩
    have HN := hidden hN
    have HM := hidden hM
    have HQ := hidden hQ
    rw [hQ] at KO hZ HR HG hq hGl ⊢
    rw [hM] at KO HG h1 h4 hct ⊢
    rw [hN] at KO KG HBG hGl hbB hcS hS1 hSl ⊢
    have HQN := hidden hGl
    rw [← hGl] at KG
    obtain ⟨n, hn⟩ : ∃ n, tbN T = n := ⟨_, rfl⟩
    rw [hn] at HTB
    have HZ := hidden hz
    have HT := hidden hT
    have HZ3 := hidden hz3
    have HCS := hidden hcS
    clear hz hT hz3 hok hTab hG hGl hQ hM hN hn hn1 hn2 ha hcS hS6 hT6 hG6
    go_enter Try.func40, Try.ntmps40
    go_wp2_with fail
    refine KO.out.mono ?_
    rintro e w1 ⟨rfl, b1⟩
    go_wp2_with fail
    refine (KG.out _).mono ?_
    rintro e w2 ⟨v, rfl, o2, b2⟩
    have b3 := b1.trans (b2.mono b1.size)
    obtain ⟨av, cv, hv⟩ := own_shape o2
    subst hv
    have hcv := own_len10 o2
    have HOG := hidden (own_groups o2 HQN.out)
    clear o2 b2 KO KG
    go_wp2
    go_loop [7, 8, 9, 18] (fun sn _ _ sg => ∃ (g : Nat) (z : Int), g ≤ Q ∧ sg = .int .i64 g ∧ sn = .int .i64 z ∧ Hid (cbF S T G g = z)) (fun _ _ _ sg => Q - (intOf sg).toNat)
    case atStart => exact ⟨0, 0, by omega, rfl, rfl, hidden rfl⟩
    case round =>
      obtain ⟨g, z, hg, rfl, rfl, HZg⟩ := hrel
      by_cases hlt : g < Q
      · have hgr := HG.out g hlt
        obtain ⟨x, hx⟩ : ∃ x : Nat, G.getD g 0 = (x : Int) := ⟨(G.getD g 0).toNat, by omega⟩
        have hxM : x < M := by omega
        have hr1 := HR.out g (by omega)
        have hr2 := HR.out (g + 1) (by omega)
        have hst := HST.out g
        rw [hx, Int.toNat_natCast] at hst
        obtain ⟨b3', off3, e3, hb3, hcell3⟩ := HZ3.out.2.2 (by rw [HQ.out]; omega)
        have c3 := (b3.cell (p := ⟨b3', off3 + g, none⟩) (by simp; omega)).trans (hcell3 g (by rw [HQ.out]; exact hlt))
        rw [hx] at c3
        obtain ⟨tb, tq, at4, ct4, e4, htb, ck, hck, zk⟩ := HT.out.at (i := x) (by rw [HM.out]; exact hxM)
        have ck := (b3.cell (p := ⟨tb, tq + x, none⟩) (by simp; omega)).trans ck
        obtain ⟨l1, l2⟩ := HTB.out.1 x (by rw [HM.out]; exact hxM)
        rw [l1] at ck hck
        obtain ⟨gb, eg, cg⟩ := HOG.out g hlt
        obtain ⟨m, hm⟩ : ∃ m, min 10 (N - 10 * g) = m := ⟨_, rfl⟩
        have hb1 : 10 * g < N := grp_bound.1 (by rw [← HQN.out]; exact hlt)
        have hVg : chV b off N g = .slice (some ⟨b, off + 10 * g, none⟩) m m := by unfold chV; rw [hm]
        rw [hVg] at cg
        have K1 := bitsWith_any at4 ct4 B b (off + 10 * g) m (10 * g) n S (T.getD x []) w2 (zk.below (b3.mono hB)) l2 l1 (by omega) (by rw [HN.out]; omega) (fun j hj => by
          rw [Nat.add_assoc]
          exact (b3.cell (p := ⟨b, off + (10 * g + j), none⟩) (by have := hbB (by omega); simp; omega)).trans (HCS.out _ (by omega))) HTB.out.2.1
        rw [← HBG.out g m (T.getD x []) hm] at K1
        subst e3 e4 eg
        have K2 := hidden K1
        obtain ⟨y, hy⟩ : ∃ y, bitG S (T.getD x []) g = y := ⟨_, rfl⟩
        rw [hy] at K2 hst
        rw [HZg.out] at hst hr1
        rw [hst] at hr2
        have HS2 := hidden hst
        obtain ⟨o10, ho10⟩ : ∃ o, off + 10 * g = o := ⟨_, rfl⟩
        rw [ho10] at cg K2
        clear hcell3 hx hgr zk l1 l2 K1 hy hst hm hVg ho10 hb1
        go_wp2_with fail
        refine K2.out.mono ?_
        rintro e w3 ⟨rfl, rfl⟩
        go_wp2
        go_round
        case rel => exact ⟨g + 1, z + y, by omega, by go_num, rfl, HS2⟩
        case measure => simp [intOf]; omega
      · obtain rfl : g = Q := by omega
        go_wp2
        go_ret
        exact ⟨ret_int (by rw [hZ.out, HZg.out]), b3⟩
  · have hZ : Hid (cbZ S T G = -1) := hidden (by unfold cbZ; rw [if_neg hok])
    rw [Bool.eq_false_iff.2 hok] at KO
    obtain ⟨Q, hQ⟩ : ∃ Q, G.length = Q := ⟨_, rfl⟩
    obtain ⟨M, hM⟩ : ∃ M, T.length = M := ⟨_, rfl⟩
    obtain ⟨N, hN⟩ : ∃ N, S.length = N := ⟨_, rfl⟩
    rw [hQ, hM, hN] at KO ⊢
    clear hz hT hz3 hok hQ hM hN hct
    go_enter Try.func40, Try.ntmps40
    go_wp2_with fail
    refine KO.out.mono ?_
    rintro e w1 ⟨rfl, b1⟩
    go_wp2
    go_ret
    exact ⟨ret_int hZ.out.symm, b1⟩
end Go.Proofs.Ytaaahmfkdiogkaa
namespace Go.Proofs.Ytaaahmfkdiogkaa
set_option linter.unusedVariables false
set_option linter.unusedSimpArgs false
open Go.RowKit

/-- The codes of a table lie in a row behind block gc. -/
def CodeRow (W : World) (gc : Nat) (v : Value) (ls : List Int) : Prop := ∃ gk ck, v = .slice (some ⟨gk, 0, none⟩) ls.length ck ∧ gc < gk ∧ gk < W.heap.size ∧ ls.length ≤ ck ∧ ∀ x, x < ls.length → W.cell? ⟨gk, x, none⟩ = some (.int .i64 (cdF ls x : Int))
theorem CodeRow.keep {W W' : World} {gc : Nat} {v : Value} {ls : List Int} (h : CodeRow W gc v ls) (hs : W.heap.size ≤ W'.heap.size) (hk : ∀ b, gc < b → b < W.heap.size → W'.heap[b]? = W.heap[b]?) : CodeRow W' gc v ls := by
  obtain ⟨gk, ck, e, h1, h2, h3, h4⟩ := h
  exact ⟨gk, ck, e, h1, by omega, h3, fun x hx => (World.cell?_of_block (hk gk h1 h2)).trans (h4 x hx)⟩
/-- The codes of the first i tables. -/
def CodesAt (W : World) (gc : Nat) (T : List (List Int)) (i : Nat) : Prop := ∃ V : List Value, V.length = T.length ∧ Has W gc 24 V.toArray ∧ ∀ k, k < i → CodeRow W gc (V.getD k undef) (T.getD k [])
theorem CodesAt.below {W W' : World} {gc i : Nat} {T : List (List Int)} (h : CodesAt W gc T i) (hb : Below W.heap.size W W') : CodesAt W' gc T i := by
  obtain ⟨V, h1, h2, h3⟩ := h
  exact ⟨V, h1, h2.below hb h2.lt, fun k hk => (h3 k hk).keep hb.size (fun b _ hb2 => hb.block b hb2)⟩
theorem CodesAt.store {W : World} {gc i : Nat} {T : List (List Int)} {v : Value} (h : CodesAt W gc T i) (hi : i < T.length) (hv : CodeRow W gc v (T.getD i [])) : CodesAt (W.setCell ⟨gc, i, none⟩ v) gc T (i + 1) := by
  obtain ⟨V, h1, h2, h3⟩ := h
  have hkeep : ∀ b, gc < b → b < W.heap.size → (W.setCell ⟨gc, i, none⟩ v).heap[b]? = W.heap[b]? := fun b hb _ => Below.heap_setCell W ⟨gc, i, none⟩ v b (by simp; omega)
  have hsz : W.heap.size ≤ (W.setCell ⟨gc, i, none⟩ v).heap.size := by simp [World.setCell]
  refine ⟨V.set i v, by rw [List.length_set, h1], ?_, fun k hk => ?_⟩
  · have := h2.store i v
    rwa [List.setIfInBounds_toArray] at this
  · by_cases e : k = i
    · subst e
      have e1 : (V.set k v).getD k undef = v := by simp [List.getD_eq_getElem?_getD, h1, hi]
      rw [e1]; exact hv.keep hsz hkeep
    · have e1 : (V.set i v).getD k undef = V.getD k undef := by simp [List.getD_eq_getElem?_getD, List.getElem?_set, Ne.symm e]
      rw [e1]; exact (h3 k (by omega)).keep hsz hkeep
/-- What a symbol's code is read from. -/
theorem CodesAt.at {W : World} {gc i k : Nat} {T : List (List Int)} (h : CodesAt W gc T i) (hk : k < i) (hi : i ≤ T.length) : ∃ gk ck, W.cell? ⟨gc, k, none⟩ = some (.slice (some ⟨gk, 0, none⟩) (T.getD k []).length ck) ∧ gc < gk ∧ gk < W.heap.size ∧ (T.getD k []).length ≤ ck ∧ ∀ x, x < (T.getD k []).length → W.cell? ⟨gk, x, none⟩ = some (.int .i64 (cdF (T.getD k []) x : Int)) := by
  obtain ⟨V, h1, h2, h3⟩ := h
  obtain ⟨gk, ck, e, h4, h5, h6, h7⟩ := h3 k hk
  refine ⟨gk, ck, ?_, h4, h5, h6, h7⟩
  rw [h2.cell k, List.getElem?_toArray, ← e, List.getD_eq_getElem?_getD, List.getElem?_eq_getElem (by omega)]
  rfl
theorem made_tabs12 (n : Nat) : (madeCells #[Value.slice none 0 0] n).toList = List.replicate n (.slice none 0 0) := by
  rw [toList_madeCells_one]
theorem made_rows (n : Nat) : madeCells #[Value.slice none 0 0] n = (List.replicate n (Value.slice none 0 0)).toArray := by
  have h := made_tabs12 n
  rw [← h]
theorem mk_rows (m : Nat) (hm : m ≤ 1048576) (w : World) : (Instr.makeSlice 73 (.int .i64 (m : Int)) (.int .i64 (m : Int))).run Try.prog w = .ok (.slice (some ⟨w.heap.size, 0, none⟩) m m) (w.alloc (.cells (List.replicate m (Value.slice none 0 0)).toArray 24)) := by
  obtain ⟨i, hi, h1, h2, h3⟩ := info_parts infoS12
  have := run_make (P := Try.prog) w 73 24 i (.slice none 0 0) Try.underlying73 hi h1 .i64 .i64 m m (by omega) (Int.le_refl _) (by rw [h3]; omega) (by omega)
  have hz : (Value.slice none 0 0).cells = #[Value.slice none 0 0] := rfl
  simp only [Int.toNat_natCast, h2, Nat.mul_one, hz, made_rows] at this
  exact this
theorem cpF_step {S G : List Int} {T : List (List Int)} {g j k x : Nat} (hj : j < 10) (hg : G.getD g 0 = (k : Int)) (hx : S.getD (10 * g + j) 0 = (x : Int)) : cpF S T G (10 * g + j + 1) = cpF S T G (10 * g + j) ++ nbits (cdF (T.getD k []) x) (lnF (T.getD k []) x) := by
  show cpF S T G (10 * g + j) ++ symBits1 (tabOf T G (10 * g + j)) (S.getD (10 * g + j) 0).toNat = _
  unfold tabOf symBits1
  rw [show (10 * g + j) / 10 = g by omega, hg, hx, Int.toNat_natCast, Int.toNat_natCast]
set_option maxHeartbeats 4000000 in
set_option maxRecDepth 100000 in
theorem implPutCoded_yes (a at2 a3 : Option Addr) (cap capT cap3 B : Nat) (S G : List Int) (T : List (List Int)) (w : World) (hz : Ints w B a S) (hT : Tabs w B at2 T) (hz3 : Ints w B a3 G) (hB : B ≤ w.heap.size) (hS1 : S.length ≤ cap) (hct : T.length ≤ capT) (hok : cdOk S T G = true) :
    Calls Try.prog 38 #[.slice a S.length cap, .slice at2 T.length capT, .slice a3 G.length cap3] w fun e w' => ∃ D, Packs D (cpF S T G S.length) ∧ e = .returned (.tuple #[.agg #[.string (strOf D), .int .i64 (cpN S T G S.length : Int)], .bool true]) ∧ Below w.heap.size w w' := by
  obtain ⟨hTab, h1, h4, hn1, hn2, hGl, hG, hlk⟩ := cdOk_tab hok
  have hArg := cdOk_arg hok
  have hSl := hTab.2.2
  have hq : G.length ≤ 200 := by rw [hGl]; unfold grp; omega
  have KO := hidden (fun W (hW : Below w.heap.size w W) => codable_any a at2 a3 cap capT cap3 B S G T W (hz.below (hW.mono hB)) (hT.below (hW.mono hB)) (hz3.below (hW.mono hB)) (by have := hW.size; omega) (by omega) (by omega) (by omega))
  rw [hok] at KO
  have bb : Below w.heap.size w (w.alloc (.cells #[.string ⟨#[]⟩, .int .i64 0] 40)) := (Below.refl _ _).alloc (Nat.le_refl _) _
  have hR := Has.fresh w 40 #[.string ⟨#[]⟩, .int .i64 0]
  obtain ⟨b, off, ha, hbB, hcS⟩ := hz.place
  have KG := hidden (fun W => groupsOf_any a b off S.length cap W (by omega) hS1 ha)
  have K4 := hidden (fun (W : World) => writerOf_any ⟨#[]⟩ 0 W (by decide))
  have HTL : Hid (∀ i, i < T.length → ∃ tb tq at4 ct4, at2 = some ⟨tb, tq, none⟩ ∧ tb < B ∧ w.cell? ⟨tb, tq + i, none⟩ = some (.slice at4 (tbN T) ct4) ∧ tbN T ≤ ct4 ∧ Ints w B at4 (T.getD i []) ∧ (T.getD i []).length = tbN T ∧ lOk (T.getD i []) = true) := hidden (fun i hi => by
    obtain ⟨tb, tq, at4, ct4, e, htb, hc, hle, hzi⟩ := hT.at hi
    have hl := (hArg.tab i hi).1
    rw [hl] at hc hle
    exact ⟨tb, tq, at4, ct4, e, htb, hc, hle, hzi, hl, hlk i hi⟩)
  have HLN : Hid (∀ i, i < T.length → ∀ x, x < tbN T → (T.getD i []).getD x 0 = (lnF (T.getD i []) x : Int) ∧ 1 ≤ lnF (T.getD i []) x ∧ lnF (T.getD i []) x ≤ 20 ∧ cdF (T.getD i []) x < 2 ^ lnF (T.getD i []) x) := hidden (fun i hi x hx => by
    have hr := lOk_range (hlk i hi)
    have hx2 : x < (T.getD i []).length := by rw [(hArg.tab i hi).1]; exact hx
    exact ⟨lnF_int hr x hx2, (lRange_ln hr x hx2).1, (lRange_ln hr x hx2).2, cdF_lt (hlk i hi) x hx2⟩)
  have HCP := hidden (fun i h => cpN_le hArg i h)
  have HCL := hidden (fun i => cpF_len S T G i)
  have HSTEP := hidden (fun (g j k x : Nat) (hj : j < 10) (hg : G.getD g 0 = (k : Int)) (hx : S.getD (10 * g + j) 0 = (x : Int)) => cpF_step (T := T) hj hg hx)
  have HG := hidden hG
  have HSY := hidden hArg.sym
  have HC0 : Hid (∀ W : World, CodesAt (W.alloc (.cells (List.replicate T.length (Value.slice none 0 0)).toArray 24)) W.heap.size T 0) := hidden (fun W => ⟨List.replicate T.length (Value.slice none 0 0), by simp, Has.fresh W _ _, fun k hk => by omega⟩)
  obtain ⟨Q, hQ⟩ : ∃ Q, G.length = Q := ⟨_, rfl⟩
  obtain ⟨M, hM⟩ : ∃ M, T.length = M := ⟨_, rfl⟩
  obtain ⟨N, hN⟩ : ∃ N, S.length = N := ⟨_, rfl⟩
  have HN := hidden hN
  have HM := hidden hM
  have HQ := hidden hQ
  have HCPN : Hid (cpN S T G N = cpN S T G S.length) := hidden (by rw [hN])
  rw [hQ] at KO HG hq hGl ⊢
  rw [hM] at KO HG h1 h4 hct HTL HLN HC0 ⊢
  rw [hN] at KO KG HCP hGl hbB hcS hS1 hSl HSY ⊢
  have HQN := hidden hGl
  rw [← hGl] at KG
  obtain ⟨n, hn⟩ : ∃ n, tbN T = n := ⟨_, rfl⟩
  rw [hn] at HTL HLN HSY hn1 hn2
  have HZ3 := hidden hz3
  have HCS := hidden hcS
  clear hz hT hz3 hok hTab hG hGl hlk hArg hQ hM hN hn ha hcS
  go_enter Try.func38, Try.ntmps38
  go_wp2_with fail
  refine (KO.out _ bb).mono ?_
  rintro e w1 ⟨rfl, b1⟩
  replace bb := bel_then b1 bb.size bb
  replace hR := hR.below b1 hR.lt
  have hs1 := bb.size
  have hRl := hR.lt
  have hmk := mk_rows M (by omega) w1
  have hC0 := HC0.out w1
  obtain ⟨gc, hgc⟩ : ∃ gc, w1.heap.size = gc := ⟨_, rfl⟩
  obtain ⟨w2, hw2⟩ : ∃ w2, w1.alloc (.cells (List.replicate M (Value.slice none 0 0)).toArray 24) = w2 := ⟨_, rfl⟩
  have hR2 := hR.alloc (.cells (List.replicate M (Value.slice none 0 0)).toArray 24)
  have bb2 := bb.alloc hs1 (.cells (List.replicate M (Value.slice none 0 0)).toArray 24)
  have hs2 : w2.heap.size = gc + 1 := by rw [← hw2, ← hgc]; simp
  rw [hw2] at hmk hC0 hR2 bb2
  rw [hgc] at hmk hC0 hRl hs1
  clear b1 hR hw2 bb KO HC0
  go_wp2
  go_loopw [9, 26] (fun _ si wr => ∃ (i : Nat), i ≤ M ∧ si = .int .i64 i ∧ Hid (CodesAt wr gc T i) ∧ Hid (Has wr w.heap.size 40 #[.string ⟨#[]⟩, .int .i64 0]) ∧ Below w.heap.size w wr ∧ gc + 1 ≤ wr.heap.size) (fun _ si _ => M - (intOf si).toNat)
  case atStart => exact ⟨0, by omega, rfl, hidden hC0, hidden hR2, bb2, by omega⟩
  case round =>
    clear hC0 hR2 bb2 hmk
    obtain ⟨i, hi2, rfl, HC, HR, hbl, hgs⟩ := hrel
    by_cases hlt : i < M
    · obtain ⟨tb, tq, at4, ct4, e4, htb, ck, hck, zk, hln, hlo⟩ := HTL.out i hlt
      have hsz := hbl.size
      have ck := (hbl.cell (p := ⟨tb, tq + i, none⟩) (by simp; omega)).trans ck
      have K5 := hidden (codesOf_any at4 ct4 B (T.getD i []) wr (zk.below (hbl.mono hB)) (by omega) hlo)
      rw [hln] at K5
      have HLN2 := hidden hln
      clear zk hln hlo
      subst e4
      go_wp2_with fail
      refine K5.out.mono ?_
      rintro e w5 ⟨v, rfl, hown, b5⟩
      obtain ⟨gk, ckk, hv⟩ := Joins.ownsRow_form hown (by omega)
      subst hv
      have hgk := hown.lt gk rfl
      have hle5 := own_len10 hown
      have HC5 := HC.out.below b5
      have hrow : CodeRow w5 gc (.slice (some ⟨gk, 0, none⟩) n ckk) (T.getD i []) := by
        refine ⟨gk, ckk, by rw [HLN2.out], by omega, hgk.2, by rw [HLN2.out]; exact hle5, fun x hx => ?_⟩
        rw [HLN2.out] at hx
        rw [hown.cellAt x (by omega), nats_get _ _ x hx]
      have hC7 := hidden (HC5.store (by rw [HM.out]; exact hlt) hrow)
      obtain ⟨V5, hV5, hHas5, _⟩ := HC5
      have d0 := hHas5.cell i
      have f0 := hHas5.free i
      rw [List.getElem?_toArray, List.getElem?_eq_getElem (by rw [hV5, HM.out]; exact hlt)] at d0
      have hRb := HR.out.below b5 (by omega)
      have hR7 := hidden (hRb.storeAway (p := ⟨gc, i, none⟩) (by simp; omega) (.slice (some ⟨gk, 0, none⟩) n ckk))
      have bl5 := bel_then b5 hsz hbl
      have bl7 := bl5.setCell (p := ⟨gc, i, none⟩) (by simp; omega) (.slice (some ⟨gk, 0, none⟩) n ckk)
      have hs5 := b5.size
      clear hown b5 hbl hRb hHas5 hrow K5 bl5
      go_wp2
      go_roundw
      case rel => exact ⟨i + 1, by omega, by go_num, hC7, hR7, bl7, by simp [World.setCell]; omega⟩
      case measure => simp [intOf]; omega
    · obtain rfl : i = M := by omega
      have hC := HC.out
      have hR := HR.out
      have hs3 := hbl.size
      go_wp2_with fail
      refine (K4.out _).mono ?_
      rintro e w4 ⟨gw, rfl, hW4, hg4, b4⟩
      have bb4 := bel_then b4 hs3 hbl
      have hR4 := hR.below b4 (by omega)
      have hC4 := hC.below b4
      have hs34 := b4.size
      have hgl4 := hW4.lt
      rw [show row ⟨#[]⟩ 0 0 = cpF S T G 0 from rfl] at hW4
      obtain ⟨base, hbase⟩ : ∃ base, wr.heap.size = base := ⟨_, rfl⟩
      have hCB : Hid (∀ k, k < i → ∃ gk ck, w4.cell? ⟨gc, k, none⟩ = some (.slice (some ⟨gk, 0, none⟩) n ck) ∧ gk < base ∧ n ≤ ck ∧ ∀ x, x < n → w4.cell? ⟨gk, x, none⟩ = some (.int .i64 (cdF (T.getD k []) x : Int))) := hidden (fun k hk => by
        obtain ⟨gk, ck, e1, e2, e3, e4, e5⟩ := hC.at hk (by rw [HM.out]; exact Nat.le_refl _)
        obtain ⟨_, _, _, _, _, _, _, _, _, hln, _⟩ := HTL.out k hk
        rw [hln] at e1 e4 e5
        exact ⟨gk, ck, (b4.cell (p := ⟨gc, k, none⟩) (by simp; omega)).trans e1, by omega, e4, fun x hx => (b4.cell (p := ⟨gk, x, none⟩) (by simp; omega)).trans (e5 x hx)⟩)
      rw [hbase] at hW4 hg4 hs34 hs3 hgs
      clear hC hC4 b4 hR hbl
      go_wp2_with fail
      refine (KG.out _).mono ?_
      rintro e w5 ⟨v, rfl, o5, b5⟩
      obtain ⟨av, cv, hv⟩ := own_shape o5
      subst hv
      have hcv := own_len10 o5
      have hOG : Hid (∀ W, Keeps gw w5 W → ∀ g, g < Q → ∃ gb, av = some ⟨gb, 0, none⟩ ∧ W.cell? ⟨gb, g, none⟩ = some (chV b off N g)) := hidden (fun W hW g hg => by
        obtain ⟨gb, e1, e2⟩ := own_groups o5 HQN.out g hg
        subst e1
        refine ⟨gb, rfl, ?_⟩
        have hlt := o5.lt gb rfl
        rcases o5.2 with ⟨_, h0⟩ | ⟨g2, cap2, cur, hv2, _, hcur, _⟩
        · omega
        · simp only [Value.slice.injEq, Option.some.injEq, Addr.mk.injEq] at hv2
          obtain ⟨⟨rfl, _, _⟩, _, _⟩ := hv2
          have h1 := hW gb _ (by omega) (by intro cs fr e; cases e) hcur
          rw [World.cell?_of_block (h1.trans hcur.symm)]
          exact e2)
      have bb5 := bel_then b5 bb4.size bb4
      have hW5 := hW4.below b5
      have hR5 := hidden (hR4.below b5 (by omega))
      have hs45 := b5.size
      have hCB5 : Hid (∀ k, k < i → ∃ gk ck, w5.cell? ⟨gc, k, none⟩ = some (.slice (some ⟨gk, 0, none⟩) n ck) ∧ gk < base ∧ n ≤ ck ∧ ∀ x, x < n → w5.cell? ⟨gk, x, none⟩ = some (.int .i64 (cdF (T.getD k []) x : Int))) := hidden (fun k hk => by
        obtain ⟨gk, ck, e1, e2, e3, e4⟩ := hCB.out k hk
        exact ⟨gk, ck, (b5.cell (p := ⟨gc, k, none⟩) (by simp; omega)).trans e1, e2, e3, fun x hx => (b5.cell (p := ⟨gk, x, none⟩) (by simp; omega)).trans (e4 x hx)⟩)
      clear o5 b5 hR4 hW4 bb4 hCB KG
      have hwb : w.heap.size ≤ base := by omega
      go_wp2
      go_loopw [11, 12, 14, 44] (fun _ _ _ sg wx => ∃ (g A : Nat), g ≤ Q ∧ sg = .int .i64 g ∧ Hid (A = min (10 * g) N) ∧ Hid (Writes wx base gw (cpF S T G A)) ∧ Hid (Keeps gw w5 wx) ∧ Below base w5 wx) (fun _ _ _ sg _ => Q - (intOf sg).toNat)
      case atStart => exact ⟨0, 0, by omega, rfl, hidden (by omega), hidden hW5, hidden (Keeps.refl _ _), Below.refl _ _⟩
      case round =>
        clear hW5
        obtain ⟨g, A, hg, rfl, HA, HW, HK, hbx⟩ := hrel
        have hA := HA.out
        by_cases hltg : g < Q
        · have hb1 : 10 * g < N := grp_bound.1 (by rw [← HQN.out]; exact hltg)
          have hA2 : A = 10 * g := by omega
          subst hA2
          have hgr := HG.out g hltg
          obtain ⟨k, hk⟩ : ∃ k : Nat, G.getD g 0 = (k : Int) := ⟨(G.getD g 0).toNat, by omega⟩
          have hkM : k < i := by omega
          have HGK := hidden hk
          obtain ⟨gb, eg, cg⟩ := hOG.out wr HK.out g hltg
          obtain ⟨m, hm⟩ : ∃ m, min 10 (N - 10 * g) = m := ⟨_, rfl⟩
          have hVg : chV b off N g = .slice (some ⟨b, off + 10 * g, none⟩) m m := by unfold chV; rw [hm]
          rw [hVg] at cg
          have hm10 : m ≤ 10 := by omega
          have hmN : 10 * g + m ≤ N := by omega
          have HME : Hid (10 * g + m = min (10 * (g + 1)) N) := hidden (by omega)
          obtain ⟨o10, ho10⟩ : ∃ o, off + 10 * g = o := ⟨_, rfl⟩
          have HO10 := hidden ho10
          rw [ho10] at cg
          subst eg
          clear hgr hk hVg ho10 hm hA
          go_wp2
          go_loopw [14, 51] (fun _ sj wy => ∃ (j : Nat), j ≤ m ∧ sj = .int .i64 j ∧ Hid (Writes wy base gw (cpF S T G (10 * g + j))) ∧ Hid (Keeps gw w5 wy) ∧ Below base w5 wy) (fun _ sj _ => m - (intOf sj).toNat)
          case atStart => exact ⟨0, by omega, rfl, HW, HK, hbx⟩
          case round =>
            clear HW HK hbx cg
            obtain ⟨j, hj, rfl, HW, HK, hbx⟩ := hrel
            by_cases hltj : j < m
            · have hsx := hbx.size
              have hbw : Below w.heap.size w wr := bb5.trans (hbx.mono hwb)
              have hsy := HSY.out (10 * g + j) (by omega)
              obtain ⟨x, hx⟩ : ∃ x : Nat, S.getD (10 * g + j) 0 = (x : Int) := ⟨(S.getD (10 * g + j) 0).toNat, by omega⟩
              have hxn : x < n := by omega
              have c1 := (hbw.cell (p := ⟨b, off + (10 * g + j), none⟩) (by have := hbB (by omega); simp; omega)).trans (HCS.out _ (by omega))
              rw [hx, ← Nat.add_assoc, HO10.out] at c1
              obtain ⟨b3', off3, e3, hb3, hcell3⟩ := HZ3.out.2.2 (by rw [HQ.out]; omega)
              have c3 := (hbw.cell (p := ⟨b3', off3 + g, none⟩) (by simp; omega)).trans (hcell3 g (by rw [HQ.out]; exact hltg))
              rw [HGK.out] at c3
              obtain ⟨tb, tq, at4, ct4, e4, htb, ck, hck, zk, hln, hlo⟩ := HTL.out k hkM
              have ck := (hbw.cell (p := ⟨tb, tq + k, none⟩) (by simp; omega)).trans ck
              obtain ⟨b4, off4, e5, hb4, hcell4⟩ := zk.2.2 (by rw [hln]; omega)
              have c4 := (hbw.cell (p := ⟨b4, off4 + x, none⟩) (by simp; omega)).trans (hcell4 x (by rw [hln]; exact hxn))
              obtain ⟨l1, l2, l3, l4⟩ := HLN.out k hkM x hxn
              rw [l1] at c4
              obtain ⟨gk, cck, d1, hgk, hnck, d2⟩ := hCB5.out k hkM
              have d1 := (hbx.cell (p := ⟨gc, k, none⟩) (by simp; omega)).trans d1
              have d2 := (hbx.cell (p := ⟨gk, x, none⟩) (by simp; omega)).trans (d2 x hxn)
              have HST := hidden (HSTEP.out g j k x (by omega) HGK.out hx)
              have hlen := HCL.out (10 * g + j)
              have hcp := HCP.out (10 * g + j) (by omega)
              obtain ⟨y, hy⟩ : ∃ y, lnF (T.getD k []) x = y := ⟨_, rfl⟩
              obtain ⟨c, hcy⟩ : ∃ c, cdF (T.getD k []) x = c := ⟨_, rfl⟩
              rw [hy] at c4 l2 l3 l4 HST
              rw [hcy] at d2 l4 HST
              have HP := hidden (fun (W : World) (h : Writes W base gw (cpF S T G (10 * g + j))) (h2 : base ≤ W.heap.size) => put_any gw base (cpF S T G (10 * g + j)) c y W h hg4 h2 (by omega) l4 (by rw [hlen]; omega))
              rw [← HST.out] at HP
              subst e3 e4 e5
              have q1 : b3' < base := by omega
              have q2 : tb < base := by omega
              have q3 : b4 < base := by omega
              have q4 : gc < base := by omega
              have m1 : (x : Int) < (n : Int) := by omega
              have m2 : (k : Int) < (i : Int) := by omega
              have m3 : (g : Int) < (Q : Int) := by omega
              have m4 : (j : Int) < (m : Int) := by omega
              have HW1 := HW.out
              have hbs : base ≤ wr.heap.size := by omega
              clear hx hy hcy hcell3 hcell4 zk hln hlo l1 l4 hlen hcp HST hsy
              go_wp2
              go_region_held3 (fun w' => w'.cell? ⟨b3', off3 + g, none⟩ = some (.int .i64 (k : Int)) ∧ w'.cell? ⟨gc, k, none⟩ = some (.slice (some ⟨gk, 0, none⟩) n cck) ∧ w'.cell? ⟨gk, x, none⟩ = some (.int .i64 (c : Int)) ∧ w'.cell? ⟨tb, tq + k, none⟩ = some (.slice (some ⟨b4, off4, none⟩) n ct4) ∧ w'.cell? ⟨b4, off4 + x, none⟩ = some (.int .i64 (y : Int))) (go_keep) (first | (go_at_call 71; (with_reducible refine (HP.out _ ?hW ?hb).mono ?_); (case hW => exact HW1); (case hb => exact (by omega : base ≤ wr.heap.size)); rintro e wp ⟨rfl, hWp, Bp, Kp⟩; have g1 := (Bp.cell (p := ⟨b3', off3 + g, none⟩) q1).trans c3; have g2 := (Bp.cell (p := ⟨gc, k, none⟩) q4).trans d1; have g3 := (Bp.cell (p := ⟨gk, x, none⟩) hgk).trans d2; have g4 := (Bp.cell (p := ⟨tb, tq + k, none⟩) q2).trans ck; have g5 := (Bp.cell (p := ⟨b4, off4 + x, none⟩) q3).trans c4))
              all_goals
                have bN : Below base w5 wp := hbx.drew.trans Bp
                have kN : Keeps gw w5 wp := (HK.out.drewN 1).trans Kp
                clear g1 g2 g3 g4 g5 Bp Kp
                go_wp2
                exact ⟨⟨j + 1, by omega, by go_num, hidden hWp, hidden kN, bN⟩, by simp [intOf]; omega⟩
            · obtain rfl : j = m := by omega
              have HW2 : Hid (Writes wr base gw (cpF S T G (10 * g + j))) := HW
              clear HW
              go_wp2
              go_roundw
              case rel => exact ⟨g + 1, 10 * g + j, by omega, by go_num, HME, HW2, HK, hbx⟩
              case measure => simp [intOf]; omega
        · obtain rfl : g = Q := by omega
          have hAN : A = N := by
            have h1 := HQN.out
            have h2 : ¬ 10 * g < N := fun h => by have := grp_bound.2 h; omega
            omega
          subst hAN
          have K5 := hidden (bits_any gw base _ wr HW.out)
          rw [HCL.out] at K5
          have hR := hR5.out.below hbx (by omega)
          have hbw5 : Below w.heap.size w wr := bb5.trans (hbx.mono hwb)
          clear HW HK HCPN HCL HCP HSTEP HTL HLN HCS HZ3 HSY HG HN HM HQ HQN hOG hCB5 HA hA
          obtain ⟨P, hP⟩ : ∃ P, cpN S T G A = P := ⟨_, rfl⟩
          have HPP := hidden hP
          rw [hP] at K5
          clear hP
          go_wp2_with fail
          refine K5.out.mono ?_
          rintro e w6 ⟨D, hD, rfl, b6⟩
          have bb := bel_then b6 (by have := hbw5.size; omega) hbw5
          replace hR := hR.below b6 hR.lt
          have e0 := hR.cell 0
          have e1 := hR.cell 1
          have g0 := hR.free 0
          have g1 := hR.free 1
          simp at e0 e1
          have hs6 := bb.size
          clear b6 hR hbw5 hbx
          go_wp2
          refine bodyPost_ret (v := .tuple #[.agg #[.string (strOf D), .int .i64 (P : Int)], .bool true]) (by simp [results, Try.results38, go_sem, e0, e1, g0, g1]) rfl ⟨D, hD, by rw [HPP.out], ?_⟩
          repeat (first | exact Below.refl _ _ | assumption | refine Below.alloc ?_ (by (try simp); (try omega)) _ | refine Below.setCell ?_ (by (try simp); (try omega)) _ | refine Below.drew ?_ | refine bel_then (by assumption) (by (try simp); (try omega)) ?_)
set_option maxHeartbeats 2000000 in
set_option maxRecDepth 100000 in
theorem implPutCoded_no (a at2 a3 : Option Addr) (cap capT cap3 B : Nat) (S G : List Int) (T : List (List Int)) (w : World) (hz : Ints w B a S) (hT : Tabs w B at2 T) (hz3 : Ints w B a3 G) (hB : B ≤ w.heap.size) (hS6 : S.length ≤ 1048576) (hT6 : T.length ≤ 1048576) (hG6 : G.length ≤ 1048576) (hok : cdOk S T G = false) :
    Calls Try.prog 38 #[.slice a S.length cap, .slice at2 T.length capT, .slice a3 G.length cap3] w fun e w' => e = .returned (.tuple #[.agg #[.string ⟨#[]⟩, .int .i64 0], .bool false]) ∧ Below w.heap.size w w' := by
  have KO := hidden (fun W (hW : Below w.heap.size w W) => codable_any a at2 a3 cap capT cap3 B S G T W (hz.below (hW.mono hB)) (hT.below (hW.mono hB)) (hz3.below (hW.mono hB)) (by have := hW.size; omega) hS6 hT6 hG6)
  rw [hok] at KO
  have bb : Below w.heap.size w (w.alloc (.cells #[.string ⟨#[]⟩, .int .i64 0] 40)) := (Below.refl _ _).alloc (Nat.le_refl _) _
  have hR := Has.fresh w 40 #[.string ⟨#[]⟩, .int .i64 0]
  obtain ⟨Q, hQ⟩ : ∃ Q, G.length = Q := ⟨_, rfl⟩
  obtain ⟨M, hM⟩ : ∃ M, T.length = M := ⟨_, rfl⟩
  obtain ⟨N, hN⟩ : ∃ N, S.length = N := ⟨_, rfl⟩
  rw [hQ, hM, hN] at KO ⊢
  clear hz hT hz3 hok hS6 hT6 hG6 hQ hM hN
  go_enter Try.func38, Try.ntmps38
  go_wp2_with fail
  refine (KO.out _ bb).mono ?_
  rintro e w1 ⟨rfl, b1⟩
  replace bb := bel_then b1 bb.size bb
  replace hR := hR.below b1 hR.lt
  have e0 := hR.cell 0
  have e1 := hR.cell 1
  have g0 := hR.free 0
  have g1 := hR.free 1
  simp at e0 e1
  have hs1 := bb.size
  clear b1 hR
  go_wp2
  refine bodyPost_ret (v := .tuple #[.agg #[.string ⟨#[]⟩, .int .i64 0], .bool false]) (by simp [results, Try.results38, go_sem, e0, e1, g0, g1]) rfl ⟨rfl, ?_⟩
  repeat (first | exact Below.refl _ _ | assumption | refine Below.alloc ?_ (by (try simp); (try omega)) _ | refine Below.setCell ?_ (by (try simp); (try omega)) _ | refine Below.drew ?_ | refine bel_then (by assumption) (by (try simp); (try omega)) ?_)
end Go.Proofs.Ytaaahmfkdiogkaa
namespace Go.Proofs.Ytaaahmfkdiogkaa
set_option linter.unusedVariables false
set_option linter.unusedSimpArgs false
open Go.RowKit Go.Maps

/-- The maps of the first i tables, in blocks between gc and hi. -/
def MapsAt (W : World) (gc hi : Nat) (T : List (List Int)) (i : Nat) : Prop := ∃ V : List Value, V.length = T.length ∧ Has W gc 107 V.toArray ∧ ∀ k, k < i → ∃ mb, V.getD k undef = .map (some mb) ∧ gc < mb ∧ mb < hi ∧ MapAt W mb (T.getD k [])
theorem MapAt.grownK {W W' : World} {b : Nat} {ls : List Int} {r : Option Nat} (h : MapAt W b ls) (hg : W.grownBy W' r) (hne : some b ≠ r) : MapAt W' b ls := by
  obtain ⟨q, hq⟩ := h
  exact ⟨q, hq.kept hg hne⟩
theorem MapsAt.kept {W W' : World} {gc hi i : Nat} {T : List (List Int)} {r : Option Nat} (h : MapsAt W gc hi T i) (hg : W.grownBy W' r) (hc : gc < hi) (hne : ∀ q, r = some q → hi ≤ q) : MapsAt W' gc hi T i := by
  obtain ⟨V, h1, h2, h3⟩ := h
  refine ⟨V, h1, h2.grown hg (fun e => by have := hne gc e.symm; omega), fun k hk => ?_⟩
  obtain ⟨mb, e, h4, h5, h6⟩ := h3 k hk
  exact ⟨mb, e, h4, h5, h6.grownK hg (fun e => by have := hne mb e.symm; omega)⟩
theorem MapsAt.alloc {W : World} {gc hi i : Nat} {T : List (List Int)} (h : MapsAt W gc hi T i) (o : Obj) : MapsAt (W.alloc o) gc hi T i := by
  obtain ⟨V, h1, h2, h3⟩ := h
  refine ⟨V, h1, h2.alloc o, fun k hk => ?_⟩
  obtain ⟨mb, e, h4, h5, h6⟩ := h3 k hk
  exact ⟨mb, e, h4, h5, h6.alloc o⟩
theorem MapsAt.below {W W' : World} {gc hi hi2 i : Nat} {T : List (List Int)} (h : MapsAt W gc hi T i) (hb : Below W.heap.size W W') (hh : hi ≤ hi2) : MapsAt W' gc hi2 T i := by
  obtain ⟨V, h1, h2, h3⟩ := h
  refine ⟨V, h1, h2.below hb h2.lt, fun k hk => ?_⟩
  obtain ⟨mb, e, h4, h5, h6⟩ := h3 k hk
  exact ⟨mb, e, h4, by omega, h6.below hb⟩
theorem MapsAt.store {W : World} {gc hi i mb : Nat} {T : List (List Int)} (h : MapsAt W gc hi T i) (hi2 : i < T.length) (h1 : gc < mb) (h2 : mb < hi) (hv : MapAt W mb (T.getD i [])) : MapsAt (W.setCell ⟨gc, i, none⟩ (.map (some mb))) gc hi T (i + 1) := by
  obtain ⟨V, v1, v2, v3⟩ := h
  refine ⟨V.set i (.map (some mb)), by rw [List.length_set, v1], ?_, fun k hk => ?_⟩
  · have := v2.store i (.map (some mb))
    rwa [List.setIfInBounds_toArray] at this
  · by_cases e : k = i
    · subst e
      have e1 : (V.set k (.map (some mb))).getD k undef = .map (some mb) := by simp [List.getD_eq_getElem?_getD, v1, hi2]
      exact ⟨mb, e1, h1, h2, hv.setCell (p := ⟨gc, k, none⟩) (by simp; omega) _⟩
    · have e1 : (V.set i (.map (some mb))).getD k undef = V.getD k undef := by simp [List.getD_eq_getElem?_getD, List.getElem?_set, Ne.symm e]
      obtain ⟨m2, e2, h4, h5, h6⟩ := v3 k (by omega)
      exact ⟨m2, by rw [e1, e2], h4, h5, h6.setCell (p := ⟨gc, i, none⟩) (by simp; omega) _⟩
theorem MapsAt.at {W : World} {gc hi i k : Nat} {T : List (List Int)} (h : MapsAt W gc hi T i) (hk : k < i) (hi2 : i ≤ T.length) : ∃ mb, W.cell? ⟨gc, k, none⟩ = some (.map (some mb)) ∧ gc < mb ∧ mb < hi ∧ MapAt W mb (T.getD k []) := by
  obtain ⟨V, h1, h2, h3⟩ := h
  obtain ⟨mb, e, h4, h5, h6⟩ := h3 k hk
  refine ⟨mb, ?_, h4, h5, h6⟩
  rw [h2.cell k, List.getElem?_toArray, ← e, List.getD_eq_getElem?_getD, List.getElem?_eq_getElem (by omega)]
  rfl
theorem infoM12 : (Try.prog.info? 107).map (fun i => (i.zero, i.size, i.bytes)) = some (some (.map none), 1, 8) := by kernel_rfl
theorem made_maps (n : Nat) : madeCells #[Value.map none] n = (List.replicate n (Value.map none)).toArray := by
  have h : (madeCells #[Value.map none] n).toList = List.replicate n (Value.map none) := by rw [toList_madeCells_one]
  rw [← h]
theorem mk_maps (m : Nat) (hm : m ≤ 1048576) (w : World) : (Instr.makeSlice 105 (.int .i64 (m : Int)) (.int .i64 (m : Int))).run Try.prog w = .ok (.slice (some ⟨w.heap.size, 0, none⟩) m m) (w.alloc (.cells (List.replicate m (Value.map none)).toArray 107)) := by
  obtain ⟨i, hi, h1, h2, h3⟩ := info_parts infoM12
  have := run_make (P := Try.prog) w 105 107 i (.map none) Try.underlying105 hi h1 .i64 .i64 m m (by omega) (Int.le_refl _) (by rw [h3]; omega) (by omega)
  have hz : (Value.map none).cells = #[Value.map none] := rfl
  simp only [Int.toNat_natCast, h2, Nat.mul_one, hz, made_maps] at this
  exact this
set_option maxHeartbeats 4000000 in
set_option maxRecDepth 100000 in
theorem implGetCoded_any (at2 a3 : Option Addr) (capT cap3 B at0 : Nat) (G : List Int) (T : List (List Int)) (s : ByteArray) (e0 : Int) (w : World) (hT : Tabs w B at2 T) (hz3 : Ints w B a3 G) (hB : B ≤ w.heap.size) (hct : T.length ≤ capT) (hc3 : G.length ≤ cap3) (hok : gdOk T G = true) (hs : s.size ≤ 1048576) (ha : at0 ≤ 8 * s.size) (hr1 : -9223372036854775808 ≤ e0) (hr2 : e0 ≤ 9223372036854775807) :
    Calls Try.prog 42 #[.agg #[.string s, .int .i64 at0], .slice at2 T.length capT, .slice a3 G.length cap3, .int .i64 e0] w (GC12 s at0 T G e0 w) := by
  obtain ⟨i0, hi, hz0, hz1, hz2⟩ := info_parts Try.infoInt
  obtain ⟨hA, hM1, hM4, hn1, hn2, hQ6⟩ := gdOk_arg hok
  have K2 := hidden (fun W => implRdOk_yes s at0 W hs ha)
  have KO := hidden (fun W (hW : Below w.heap.size w W) => assigned_any at2 a3 capT cap3 B T G W (hT.below (hW.mono hB)) (hz3.below (hW.mono hB)) (by have := hW.size; omega) (by omega) (by omega))
  rw [hok] at KO
  have KN := hidden (fun (W : World) (c mb g : Nat) (ls : List Int) (hls : lOk ls = true) (hc : c ≤ 8 * s.size) (hM : MapAt W mb ls) (hR : Has W g 96 #[.string s, .int .i64 c]) (hne : mb ≠ g) => next_any s c mb g 96 ls W hls hs hc hM hR hne)
  have KGR := hidden (fun (i : Nat) (h : i + 1 ≤ 2000) (W : World) => (implGroups_any ((i : Int) + 1) W (by omega) (by omega)))
  have HGZ : Hid (∀ i : Nat, i + 1 ≤ 2000 → grpZ ((i : Int) + 1) = (grp (i + 1) : Int)) := hidden (fun i h => by
    unfold grpZ
    rw [if_pos (by omega), show ((i : Int) + 1).toNat = i + 1 by omega])
  have HTL : Hid (∀ i, i < T.length → ∃ tb tq at4 ct4, at2 = some ⟨tb, tq, none⟩ ∧ tb < B ∧ w.cell? ⟨tb, tq + i, none⟩ = some (.slice at4 (tbN T) ct4) ∧ tbN T ≤ ct4 ∧ Ints w B at4 (T.getD i []) ∧ (T.getD i []).length = tbN T ∧ lOk (T.getD i []) = true) := hidden (fun i hi => by
    obtain ⟨tb, tq, at4, ct4, e, htb, hc, hle, hzi⟩ := hT.at hi
    have hl := (hA.tab i hi).1
    rw [hl] at hc hle
    exact ⟨tb, tq, at4, ct4, e, htb, hc, hle, hzi, hl, (hA.tab i hi).2⟩)
  have HAR := hidden hA
  have HC0 : Hid (∀ W : World, MapsAt (W.alloc (.cells (List.replicate T.length (Value.map none)).toArray 107)) W.heap.size (W.heap.size + 1) T 0) := hidden (fun W => ⟨List.replicate T.length (Value.map none), by simp, Has.fresh W _ _, fun k hk => by omega⟩)
  have hR := (Has.fresh w 48 #[.string s, .int .i64 at0]).alloc (.cells #[.string ⟨#[]⟩, .int .i64 0] 48)
  have bb : Below w.heap.size w ((w.alloc (.cells #[.string s, .int .i64 at0] 48)).alloc (.cells #[.string ⟨#[]⟩, .int .i64 0] 48)) := ((Below.refl _ _).alloc (Nat.le_refl _) _).alloc (by simp) _
  have hS := Has.freshAt (w := w.alloc (.cells #[.string s, .int .i64 at0] 48)) (g := w.heap.size + 1) (by simp) 48 #[.string ⟨#[]⟩, .int .i64 0]
  have HZ3 := hidden hz3
  obtain ⟨Q, hQ⟩ : ∃ Q, G.length = Q := ⟨_, rfl⟩
  obtain ⟨M, hM⟩ : ∃ M, T.length = M := ⟨_, rfl⟩
  have HM := hidden hM
  have HQ := hidden hQ
  rw [hQ] at KO hQ6 hc3 ⊢
  rw [hM] at KO hM1 hM4 hct HTL HC0 ⊢
  obtain ⟨n, hn⟩ : ∃ n, tbN T = n := ⟨_, rfl⟩
  rw [hn] at HTL hn1 hn2 HAR
  obtain ⟨Rm, hRm⟩ : ∃ R, min 2000 (10 * Q) = R := ⟨_, rfl⟩
  have HRm := hidden hRm
  have hmin : min (2000 : Int) (10 * (Q : Int)) = (Rm : Int) := by omega
  clear hT hz3 hok hQ hM hn hA hRm
  go_enter Try.func42, Try.ntmps42
  have c0 := hR.cell 0
  have c1 := hR.cell 1
  simp at c0 c1
  have hs1 := bb.size
  go_wp2_with fail
  refine (K2.out _).mono ?_
  rintro e w2 ⟨rfl, b2⟩
  replace bb := bel_then b2 hs1 bb
  replace hR := hR.below b2 hR.lt
  replace hS := hS.below b2 hS.lt
  have hs2 := bb.size
  clear c0 c1 b2
  go_wp2_with fail
  refine (KO.out _ bb).mono ?_
  rintro e w3 ⟨rfl, b3⟩
  replace bb := bel_then b3 hs2 bb
  replace hR := hR.below b3 hR.lt
  replace hS := hS.below b3 hS.lt
  have hs3 := bb.size
  have hRl := hR.lt
  have hSl := hS.lt
  have hmk := mk_maps M (by omega) w3
  have hC0 := HC0.out w3
  obtain ⟨gc, hgc⟩ : ∃ gc, w3.heap.size = gc := ⟨_, rfl⟩
  obtain ⟨w4, hw4⟩ : ∃ w4, w3.alloc (.cells (List.replicate M (Value.map none)).toArray 107) = w4 := ⟨_, rfl⟩
  have hR4 := hR.alloc (.cells (List.replicate M (Value.map none)).toArray 107)
  have hS4 := hS.alloc (.cells (List.replicate M (Value.map none)).toArray 107)
  have bb4 := bb.alloc hs3 (.cells (List.replicate M (Value.map none)).toArray 107)
  have hs4 : w4.heap.size = gc + 1 := by rw [← hw4, ← hgc]; simp
  rw [hw4] at hmk hC0 hR4 hS4 bb4
  rw [hgc] at hmk hC0 hRl hSl hs3
  clear b3 hR hS hw4 bb KO HC0 K2 hs1
  go_wp2
  go_loopw [12, 32] (fun _ si wr => ∃ (i hi : Nat), i ≤ M ∧ si = .int .i64 i ∧ Hid (MapsAt wr gc hi T i) ∧ Hid (Has wr w.heap.size 48 #[.string s, .int .i64 (at0 : Int)]) ∧ Hid (Has wr (w.heap.size + 1) 48 #[.string ⟨#[]⟩, .int .i64 0]) ∧ Below w.heap.size w wr ∧ gc + 1 ≤ hi ∧ hi ≤ wr.heap.size) (fun _ si _ => M - (intOf si).toNat)
  case atStart => exact ⟨0, gc + 1, by omega, rfl, hidden hC0, hidden hR4, hidden hS4, bb4, by omega, by omega⟩
  case round =>
    clear hC0 hR4 hS4 bb4 hmk
    obtain ⟨i, h, hi2, rfl, HC, HR, HS, hbl, hgh, hgs⟩ := hrel
    by_cases hlt : i < M
    · obtain ⟨tb, tq, at4, ct4, e4, htb, ck, hck, zk, hln, hlo⟩ := HTL.out i hlt
      have hsz := hbl.size
      have ck := (hbl.cell (p := ⟨tb, tq + i, none⟩) (by simp; omega)).trans ck
      have K5 := hidden (codeMapOf_any at4 ct4 B (T.getD i []) wr (zk.below (hbl.mono hB)) (by omega) hlo)
      rw [hln] at K5
      clear zk hln hlo
      subst e4
      go_wp2_with fail
      refine K5.out.mono ?_
      rintro e w5 ⟨mb, rfl, hmb, hM5, b5⟩
      have hml := hM5.lt
      have HC5 := HC.out.below (hi2 := w5.heap.size) b5 (by have := b5.size; omega)
      have hC7 := hidden (HC5.store (by rw [HM.out]; exact hlt) (by omega) hml hM5)
      obtain ⟨V5, hV5, hHas5, _⟩ := HC5
      have d0 := hHas5.cell i
      have f0 := hHas5.free i
      rw [List.getElem?_toArray, List.getElem?_eq_getElem (by rw [hV5, HM.out]; exact hlt)] at d0
      have hR7 := hidden ((HR.out.below b5 (by omega)).storeAway (p := ⟨gc, i, none⟩) (by simp; omega) (.map (some mb)))
      have hS7 := hidden ((HS.out.below b5 (by omega)).storeAway (p := ⟨gc, i, none⟩) (by simp; omega) (.map (some mb)))
      have bl5 := bel_then b5 hsz hbl
      have bl7 := bl5.setCell (p := ⟨gc, i, none⟩) (by simp; omega) (.map (some mb))
      have hs5 := b5.size
      clear b5 hbl hHas5 K5 bl5 hM5
      go_wp2
      go_roundw
      case rel => exact ⟨i + 1, w5.heap.size, by omega, by go_num, hC7, hR7, hS7, bl7, by omega, by simp [World.setCell]⟩
      case measure => simp [intOf]; omega
    · obtain rfl : i = M := by omega
      have hR := HR.out
      have d0 := hR.cell 0
      have d1 := hR.cell 1
      simp at d0 d1
      have hsz := hbl.size
      obtain ⟨g, hg⟩ : ∃ g, wr.heap.size = g := ⟨_, rfl⟩
      have hG := Has.fresh wr 96 #[.string s, .int .i64 at0]
      have hS5 := hidden (HS.out.alloc (.cells #[.string s, .int .i64 at0] 96))
      have hC5 := hidden ((HC.out.below (Below.refl _ _) (by omega : h ≤ g)).alloc (.cells #[.string s, .int .i64 at0] 96))
      have bb5 : Below w.heap.size w (wr.alloc (.cells #[.string s, .int .i64 at0] 96)) := hbl.alloc hsz _
      have hsg : (wr.alloc (.cells #[.string s, .int .i64 at0] 96)).heap.size = g + 1 := by simp [hg]
      rw [hg] at hG hgs
      have HG5 := hidden hG
      clear hR hG HS HC HR hbl
      go_wp2
      go_loopg [14, 15, 16] 2001 (fun gk v _ _ wy => ∃ (j c : Nat) (D : List Nat), j + gk = 2001 ∧ j ≤ Rm ∧ c ≤ 8 * s.size ∧ Hid (D.length = j) ∧ Hid (∀ xs b, Fin12 s T G e0 at0 0 xs b ↔ ∃ zs, xs = D ++ zs ∧ Fin12 s T G e0 c j zs b) ∧ wy.ownsRow (g + 1) 3 1 v j (natsL D) ∧ Hid (Has wy g 96 #[.string s, .int .i64 (c : Int)]) ∧ Hid (Has wy (w.heap.size + 1) 48 #[.string ⟨#[]⟩, .int .i64 0]) ∧ Hid (MapsAt wy gc g T i) ∧ Below w.heap.size w wy ∧ g + 1 ≤ wy.heap.size)
      case atStart => exact ⟨0, at0, [], rfl, Nat.zero_le _, ha, hidden rfl, hidden (fin_start _ _ _ _ _), World.ownsRow_nil _ _ _ _, HG5, hS5, hC5, bb5, by omega⟩
      case round =>
        clear HG5 hS5 hC5 bb5
        obtain ⟨j, c, D, hjg, hjR, hc8, HL, HF, hown, HG, HS, HC, hbl, hgs2⟩ := hrel
        have hlen : ∀ W : World, (Builtin.len_ #[24] 3 #[u14]).run Try.prog W = .ok (.int .i64 (j : Int)) W := fun W => by
          obtain ⟨a5, c5, rfl⟩ := own_shape hown
          simp [go_sem, Builtin.len_]
        have hR2 := HRm.out
        have hRm2 : Rm ≤ 2000 := by omega
        by_cases hlt : j < Rm
        · have hjI : (j : Int) < (Rm : Int) := by omega
          have hq : (j : Int).tdiv 10 = ((j / 10 : Nat) : Int) := by rw [Int.tdiv_eq_ediv_of_nonneg (by omega)]; omega
          have hq2 : (j : Int) / 10 = ((j / 10 : Nat) : Int) := by omega
          have hdQ : j / 10 < Q := by omega
          obtain ⟨k, hkM, hgk, htk⟩ := HAR.out.of (i := j) (by rw [HQ.out]; exact hdQ)
          rw [HM.out] at hkM
          have hlo := HAR.out.ok (i := j) (by rw [HQ.out]; exact hdQ)
          obtain ⟨mb, cmb, hgm, hmg, hMb⟩ := HC.out.at hkM (by rw [HM.out]; exact Nat.le_refl _)
          rw [← htk] at hMb
          have HLO := hidden hlo
          have K5 := hidden (KN.out wr c mb g (tabOf T G j) hlo hc8 hMb HG.out (by omega))
          obtain ⟨b3', off3, e3, hb3, hcell3⟩ := HZ3.out.2.2 (by rw [HQ.out]; omega)
          have c3 := (hbl.cell (p := ⟨b3', off3 + j / 10, none⟩) (by simp; omega)).trans (hcell3 (j / 10) (by rw [HQ.out]; exact hdQ))
          rw [hgk] at c3
          have hj10 : j + 1 ≤ 10 * Q := by omega
          obtain ⟨d, hd⟩ : ∃ d, j / 10 = d := ⟨_, rfl⟩
          rw [hd] at hq hq2 hdQ c3
          subst e3
          have HFM := hidden (fun (n x : Nat) (hh : hit (tabOf T G j) s c n x) (hx : (x : Int) ≠ e0) => fin_more HLO.out HF.out (by omega : j < 2000) hh hx)
          have HFL := hidden (fun (n x : Nat) (hh : hit (tabOf T G j) s c n x) (hx : (x : Int) = e0) (hg : grp (j + 1) = G.length) => fin_last HF.out (by omega : j < 2000) hh hx hg)
          have HFO := hidden (fun (n x : Nat) (hh : hit (tabOf T G j) s c n x) (hx : (x : Int) = e0) (hg : grp (j + 1) ≠ G.length) => fin_other HLO.out HF.out hh hx hg)
          have HFN := hidden (fun (hh : ∀ n x, ¬ hit (tabOf T G j) s c n x) => fin_none HF.out hh)
          clear hgk htk hlo hMb hcell3 hd HF HG hc8
          go_wp2_with fail
          refine K5.out.mono ?_
          rintro e w5 ⟨hO5, hcase⟩
          have hsz5 := hO5.size
          have hS6 := hO5.has HS.out (by omega)
          have hC6 := HC.out.kept hO5 (by omega) (fun q e => by cases e; exact Nat.le_refl _)
          have hbl6 : Below w.heap.size w w5 := only_then hO5 (by omega) hbl.size hbl
          have hown6 : w5.ownsRow (g + 1) 3 1 u14 j (natsL D) := hown.kept hO5 (.inr fun e => by have := (hown.lt g e).1; omega)
          have hgs6 : g + 1 ≤ w5.heap.size := by omega
          clear hown hbl hO5 K5 HS HC
          rcases hcase with ⟨q, x, hh, rfl, hG6⟩ | ⟨hno, rfl⟩
          · have HH := hidden hh
            have hce : c + q ≤ 8 * s.size := hh.2.2.1
            clear hh
            go_wp2_with (at_builtin; refine wpList_append_own_at _ rfl _ _ 24 rfl (g + 1) 3 i0 (.int .i64 0) 1 8 Try.underlying24 hi hz0 hz1 hz2 rfl (by decide) _ _ _ rfl (hown6.alloc _) ⟨w5.heap.size, 0, none⟩ 1 1 [.int .i64 (x : Int)] rfl rfl ?ca2 ?ca3 ?ca4 ?ca5 ?ca6 ?_)
            case ca2 => exact cell_one _ _ _
            case ca3 => exact fun u hu => by simp at hu; subst hu; rfl
            case ca4 => unfold maxLen; omega
            case ca5 => omega
            case ca6 => simp; omega
            intro v6 w6 hown7 hgrow _ _
            have hne : ∀ x, x < g + 1 → some x ≠ u14.ownBlock := fun x hx e => by have := (hown6.lt x e.symm).1; omega
            have hbl7 : Below w.heap.size w w6 := (hbl6.alloc (by omega) _).grown hgrow (by simp; omega) (fun b hb => by have := (hown6.lt b hb).1; omega)
            have hG7 := hidden ((hG6.alloc (.cells #[.int .i64 (x : Int)] 3)).grown hgrow (hne g (by omega)))
            have hS7 := hidden ((hS6.alloc (.cells #[.int .i64 (x : Int)] 3)).grown hgrow (hne _ (by omega)))
            have hC7 := hidden ((hC6.alloc (.cells #[.int .i64 (x : Int)] 3)).kept hgrow (by omega) (fun q e => by have := (hown6.lt q e).1; omega))
            have hgs7 : g + 1 ≤ w6.heap.size := by have := hgrow.size; simp at this; omega
            have hown8 : w6.ownsRow (g + 1) 3 1 v6 (j + 1) (natsL (D ++ [x])) := by rw [natsL_append]; exact hown7
            have hlen8 : ∀ W : World, (Builtin.len_ #[24] 3 #[v6]).run Try.prog W = .ok (.int .i64 ((j : Int) + 1)) W := fun W => by
              obtain ⟨a5, c5, rfl⟩ := own_shape hown8
              simp [go_sem, Builtin.len_]
            clear hne hbl6 hG6 hS6 hC6 hgrow hown7 hown6 hlen
            by_cases hxe : (x : Int) = e0
            · have hxI : ((x : Int) == e0) = true := by simpa using hxe
              have hgz := HGZ.out j (by omega)
              have K6 := hidden (KGR.out j (by omega))
              rw [hgz] at K6
              have hgle : grp (j + 1) ≤ Q := by unfold grp; omega
              by_cases hgq : grp (j + 1) = Q
              · have HP := hidden (HFL.out q x HH.out hxe (by rw [hgq, HQ.out]))
                rw [hgq] at K6
                have d0 := hG7.out.cell 0
                have d1 := hG7.out.cell 1
                simp at d0 d1
                have z0 := hS7.out.cell 0
                have z1 := hS7.out.cell 1
                have f0 := hS7.out.free 0
                have f1 := hS7.out.free 1
                simp at z0 z1
                have hsb := hbl7.size
                have HOW := hidden hown8
                have HLX : Hid ((D ++ [x]).length = j + 1) := hidden (by rw [List.length_append, HL.out]; rfl)
                clear hown8 hG7 hS7 hC7 hgz hgq hgle
                go_wp2_with fail
                refine (K6.out _).mono ?_
                rintro e w8 ⟨rfl, hw8⟩
                subst hw8
                go_wp2
                go_region
                all_goals (try go_wp2)
                all_goals
                  refine bodyPost_ret (v := .tuple #[v6, .agg #[.string s, .int .i64 ((c + q : Nat) : Int)], .bool true]) (by simp [results, Try.results42, go_sem, d0, d1, z0, z1, f0, f1]) rfl ⟨.inl ⟨D ++ [x], c + q, v6, HP.out, rfl, ?_⟩, ?_⟩
                  · rw [HLX.out]
                    exact Joins.ownsRow_le (own_away (own_away HOW.out (p := ⟨w.heap.size + 1, 0, none⟩) (by simp; omega) _) (p := ⟨w.heap.size + 1, 1, none⟩) (by simp; omega) _).drew (show w.heap.size ≤ g + 1 by omega)
                  · repeat (first | exact Below.refl _ _ | assumption | refine Below.alloc ?_ (by (try simp); (try omega)) _ | refine Below.setCell ?_ (by (try simp); (try omega)) _ | refine Below.drew ?_ | refine bel_then (by assumption) (by (try simp); (try omega)) ?_)
              · have HP := hidden (HFO.out q x HH.out hxe (by rw [HQ.out]; exact hgq))
                obtain ⟨gq, hgqe⟩ : ∃ q, grp (j + 1) = q := ⟨_, rfl⟩
                rw [hgqe] at K6 hgle hgq
                have z0 := hS7.out.cell 0
                have z1 := hS7.out.cell 1
                have f0 := hS7.out.free 0
                have f1 := hS7.out.free 1
                simp at z0 z1
                have hsb := hbl7.size
                clear hown8 hG7 hS7 hC7 hgz hgqe
                have hgI : (gq : Int) < (Q : Int) := by omega
                go_wp2_with fail
                refine (K6.out _).mono ?_
                rintro e w8 ⟨rfl, hw8⟩
                subst hw8
                go_wp2
                refine bodyPost_ret (v := .tuple #[.slice none 0 0, .agg #[.string ⟨#[]⟩, .int .i64 0], .bool false]) (by simp [results, Try.results42, go_sem, z0, z1, f0, f1]) rfl ⟨.inr ⟨HP.out, rfl⟩, ?_⟩
                repeat (first | exact Below.refl _ _ | assumption | refine Below.alloc ?_ (by (try simp); (try omega)) _ | refine Below.setCell ?_ (by (try simp); (try omega)) _ | refine Below.drew ?_ | refine bel_then (by assumption) (by (try simp); (try omega)) ?_)
            · have hxI : ((x : Int) == e0) = false := by simpa using hxe
              have HF2 := hidden (HFM.out q x HH.out hxe)
              go_wp2
              go_roundg (gk - 1)
              case rel => exact ⟨j + 1, c + q, D ++ [x], by omega, by omega, hce, hidden (by rw [List.length_append, HL.out]; rfl), HF2, hown8, hG7, hS7, hC7, hbl7, hgs7⟩
              case measure => omega
          · have HP := hidden (HFN.out hno)
            have z0 := hS6.cell 0
            have z1 := hS6.cell 1
            have f0 := hS6.free 0
            have f1 := hS6.free 1
            simp at z0 z1
            have hsb := hbl6.size
            clear hno hS6 hC6 hown6
            go_wp2
            refine bodyPost_ret (v := .tuple #[.slice none 0 0, .agg #[.string ⟨#[]⟩, .int .i64 0], .bool false]) (by simp [results, Try.results42, go_sem, z0, z1, f0, f1]) rfl ⟨.inr ⟨HP.out, rfl⟩, ?_⟩
            repeat (first | exact Below.refl _ _ | assumption | refine Below.alloc ?_ (by (try simp); (try omega)) _ | refine Below.setCell ?_ (by (try simp); (try omega)) _ | refine Below.drew ?_ | refine bel_then (by assumption) (by (try simp); (try omega)) ?_)
        · have HP := hidden (fin_full HF.out (by rw [HQ.out]; omega))
          have hjI : ¬ (j : Int) < (Rm : Int) := by omega
          have hS6 := HS.out
          have z0 := hS6.cell 0
          have z1 := hS6.cell 1
          have f0 := hS6.free 0
          have f1 := hS6.free 1
          simp at z0 z1
          have hsb := hbl.size
          clear hS6 hown HG HS HC HF
          go_wp2
          refine bodyPost_ret (v := .tuple #[.slice none 0 0, .agg #[.string ⟨#[]⟩, .int .i64 0], .bool false]) (by simp [results, Try.results42, go_sem, z0, z1, f0, f1]) rfl ⟨.inr ⟨HP.out, rfl⟩, ?_⟩
          repeat (first | exact Below.refl _ _ | assumption | refine Below.alloc ?_ (by (try simp); (try omega)) _ | refine Below.setCell ?_ (by (try simp); (try omega)) _ | refine Below.drew ?_ | refine bel_then (by assumption) (by (try simp); (try omega)) ?_)
set_option maxHeartbeats 2000000 in
set_option maxRecDepth 100000 in
theorem implGetCoded_no (at2 a3 : Option Addr) (capT cap3 B : Nat) (at0 : Int) (G : List Int) (T : List (List Int)) (s : ByteArray) (e0 : Int) (w : World) (hT : Tabs w B at2 T) (hz3 : Ints w B a3 G) (hB : B ≤ w.heap.size) (hT6 : T.length ≤ 1048576) (hG6 : G.length ≤ 1048576) (hs : s.size ≤ 1048576) (b1 : -9223372036854775808 ≤ at0) (b2 : at0 ≤ 9223372036854775807) (h : ¬ (0 ≤ at0 ∧ at0 ≤ 8 * s.size ∧ gdOk T G = true)) :
    Calls Try.prog 42 #[.agg #[.string s, .int .i64 at0], .slice at2 T.length capT, .slice a3 G.length cap3, .int .i64 e0] w fun e w' => e = .returned (.tuple #[.slice none 0 0, .agg #[.string ⟨#[]⟩, .int .i64 0], .bool false]) ∧ Below w.heap.size w w' := by
  have hR := (Has.fresh w 48 #[.string s, .int .i64 at0]).alloc (.cells #[.string ⟨#[]⟩, .int .i64 0] 48)
  have bb : Below w.heap.size w ((w.alloc (.cells #[.string s, .int .i64 at0] 48)).alloc (.cells #[.string ⟨#[]⟩, .int .i64 0] 48)) := ((Below.refl _ _).alloc (Nat.le_refl _) _).alloc (by simp) _
  have hS := Has.freshAt (w := w.alloc (.cells #[.string s, .int .i64 at0] 48)) (g := w.heap.size + 1) (by simp) 48 #[.string ⟨#[]⟩, .int .i64 0]
  have c0 := hR.cell 0
  have c1 := hR.cell 1
  simp at c0 c1
  have KO := hidden (fun W (hW : Below w.heap.size w W) => assigned_any at2 a3 capT cap3 B T G W (hT.below (hW.mono hB)) (hz3.below (hW.mono hB)) (by have := hW.size; omega) hT6 hG6)
  obtain ⟨Q, hQ⟩ : ∃ Q, G.length = Q := ⟨_, rfl⟩
  obtain ⟨M, hM⟩ : ∃ M, T.length = M := ⟨_, rfl⟩
  rw [hQ, hM] at KO ⊢
  by_cases hat : 0 ≤ at0 ∧ at0 ≤ 8 * s.size
  · obtain ⟨q, rfl⟩ : ∃ q : Nat, at0 = q := ⟨at0.toNat, by omega⟩
    have hq : q ≤ 8 * s.size := by omega
    have hg : gdOk T G = false := by
      rw [Bool.eq_false_iff]
      intro hg
      exact h ⟨hat.1, hat.2, hg⟩
    rw [hg] at KO
    have K2 := hidden (fun W => implRdOk_yes s q W hs hq)
    clear h hat hR hT hz3 hT6 hG6 hQ hM hg
    go_enter Try.func42, Try.ntmps42
    go_wp2_with fail
    refine (K2.out _).mono ?_
    rintro e w2 ⟨rfl, b2⟩
    replace bb := bel_then b2 bb.size bb
    replace hS := hS.below b2 hS.lt
    have hs2 := bb.size
    clear b2 c0 c1
    go_wp2_with fail
    refine (KO.out _ bb).mono ?_
    rintro e w3 ⟨rfl, b3⟩
    replace bb := bel_then b3 hs2 bb
    replace hS := hS.below b3 hS.lt
    have hs3 := bb.size
    have z0 := hS.cell 0
    have z1 := hS.cell 1
    have f0 := hS.free 0
    have f1 := hS.free 1
    simp at z0 z1
    clear b3 hS
    go_wp2
    refine bodyPost_ret (v := .tuple #[.slice none 0 0, .agg #[.string ⟨#[]⟩, .int .i64 0], .bool false]) (by simp [results, Try.results42, go_sem, z0, z1, f0, f1]) rfl ⟨rfl, ?_⟩
    repeat (first | exact Below.refl _ _ | assumption | refine Below.alloc ?_ (by (try simp); (try omega)) _ | refine Below.setCell ?_ (by (try simp); (try omega)) _ | refine Below.drew ?_ | refine bel_then (by assumption) (by (try simp); (try omega)) ?_)
  · have K2 := hidden (fun W => implRdOk_no s at0 W hs b1 b2 hat)
    clear h hat hR hT hz3 hT6 hG6 hQ hM KO
    go_enter Try.func42, Try.ntmps42
    go_wp2_with fail
    refine (K2.out _).mono ?_
    rintro e w2 ⟨rfl, b2⟩
    replace bb := bel_then b2 bb.size bb
    replace hS := hS.below b2 hS.lt
    have hs2 := bb.size
    have z0 := hS.cell 0
    have z1 := hS.cell 1
    have f0 := hS.free 0
    have f1 := hS.free 1
    simp at z0 z1
    clear b2 hS
    go_wp2
    refine bodyPost_ret (v := .tuple #[.slice none 0 0, .agg #[.string ⟨#[]⟩, .int .i64 0], .bool false]) (by simp [results, Try.results42, go_sem, z0, z1, f0, f1]) rfl ⟨rfl, ?_⟩
    repeat (first | exact Below.refl _ _ | assumption | refine Below.alloc ?_ (by (try simp); (try omega)) _ | refine Below.setCell ?_ (by (try simp); (try omega)) _ | refine Below.drew ?_ | refine bel_then (by assumption) (by (try simp); (try omega)) ?_)
end Go.Proofs.Ytaaahmfkdiogkaa
