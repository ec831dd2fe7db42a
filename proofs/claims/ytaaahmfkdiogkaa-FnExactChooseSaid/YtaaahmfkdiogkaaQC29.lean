/- Merged: I12C, I12D. -/
import Derived.Test.YtaaahmfkdiogkaaQC20
import Derived.Test.YtaaahmfkdiogkaaQC23
import Derived.Test.YtaaahmfkdiogkaaQC22
import Derived.Test.YtaaahmfkdiogkaaQC27
namespace Go.Proofs.Ytaaahmfkdiogkaa
set_option linter.unusedVariables false
set_option linter.unusedSimpArgs false
open Go.RowKit

theorem gdOk_eq (T : List (List Int)) (G : List Int) : gdOk T G = (tbOk T (tbN T) && rOk G T.length) := by
  rw [Bool.eq_iff_iff, gdOk_iff, Bool.and_eq_true, rOk_iff, symsB_iff, tbOk_iff]
  constructor
  · rintro ⟨⟨⟨h1, h2⟩, h3⟩, h4, h5, h6⟩
    refine ⟨⟨⟨h1, h2⟩, h3⟩, by omega, by omega, h4, fun x hx => ?_⟩
    obtain ⟨k, hk, e⟩ := List.getElem_of_mem hx
    have := h6 k hk
    rw [List.getD_eq_getElem?_getD, List.getElem?_eq_getElem hk, Option.getD_some, e] at this
    exact this
  · rintro ⟨⟨⟨h1, h2⟩, h3⟩, _, _, h4, h5⟩
    exact ⟨⟨⟨h1, h2⟩, h3⟩, h4, by omega, fun k hk => h5 _ (getD_mem hk)⟩
theorem cdOk_eq (S : List Int) (T : List (List Int)) (G : List Int) : cdOk S T G = (gdOk T G && (symsB (tbN T) S && decide ((G.length : Int) = grpZ (S.length : Int)))) := by
  rw [Bool.eq_iff_iff, cdOk_iff, Bool.and_eq_true, Bool.and_eq_true, gdOk_iff, decide_eq_true_eq, rowB_iff, symsB_iff (tbN T) S]
  constructor
  · rintro ⟨h1, ⟨h2, h3, h4⟩, h5, h6⟩
    have hg : grpZ (S.length : Int) = (grp S.length : Int) := by unfold grpZ; rw [if_pos (by omega), Int.toNat_natCast]
    refine ⟨⟨h1, ?_, h6⟩, ⟨h3, h4⟩, by rw [hg, h5]⟩
    rw [h5]; unfold grp; omega
  · rintro ⟨⟨h1, h2, h3⟩, ⟨h4, h5⟩, h6⟩
    have hg : grpZ (S.length : Int) = (grp S.length : Int) := by unfold grpZ; rw [if_pos (by omega), Int.toNat_natCast]
    rw [hg] at h6
    obtain ⟨⟨h7, h8⟩, h9⟩ := (tbOk_iff _ _).1 h1
    have hl := lOk_range ((h9 0 (by omega)).2)
    have e : tbN T = (T.getD 0 []).length := rfl
    exact ⟨h1, ⟨⟨by rw [e]; have := hl.1; omega, by rw [e]; have := hl.2.1; omega⟩, h4, h5⟩, by omega, h3⟩
set_option maxHeartbeats 2000000 in
set_option maxRecDepth 100000 in
theorem assigned_any (at2 a3 : Option Addr) (capT cap3 B : Nat) (T : List (List Int)) (G : List Int) (w : World) (hT : Tabs w B at2 T) (hz3 : Ints w B a3 G) (hB : B ≤ w.heap.size) (hT6 : T.length ≤ 1048576) (hG6 : G.length ≤ 1048576) :
    Calls Try.prog 86 #[.slice at2 T.length capT, .slice a3 G.length cap3] w fun e w' => e = .returned (.bool (gdOk T G)) ∧ Below w.heap.size w w' := by
  have HDF := hidden (gdOk_eq T G)
  by_cases h0 : T.length = 0
  · have hF : gdOk T G = false := by
      rw [HDF.out]
      have : tbOk T (tbN T) = false := by rw [Bool.eq_false_iff, Ne, tbOk_iff]; omega
      rw [this]; rfl
    rw [h0, hF]
    clear hz3 HDF hF hG6
    go_enter Try.func86, Try.ntmps86
    go_wp2
    go_ret
    exact ⟨rfl, Below.refl _ _⟩
  · obtain ⟨b, off, a2, c2, e, hb, hc, hle, hz0⟩ := hT.at (i := 0) (by omega)
    subst e
    rw [Nat.add_zero] at hc
    have hN : (T.getD 0 []).length = tbN T := rfl
    rw [hN] at hc hle
    have K1 := hidden (implTablesOk_any (some ⟨b, off, none⟩) capT B T (tbN T) w hT hB)
    have K2 : Hid (∀ W, Below w.heap.size w W → Calls Try.prog 68 #[.slice a3 G.length cap3, .int .i64 T.length] W fun e w' => e = .returned (.bool (rOk G T.length)) ∧ Below W.heap.size W w') := hidden (fun W hW => (implRanksOk_any a3 cap3 B G T.length W (hz3.below (hW.mono hB)) hG6 (by omega) (by omega)).mono fun e w' h => ⟨h.1, by first | (rw [h.2]; exact Below.refl _ _) | (rw [← h.2]; exact Below.refl _ _)⟩)
    have hM0 : (0 : Int) < (T.length : Int) := by omega
    obtain ⟨n, hn⟩ : ∃ n, tbN T = n := ⟨_, rfl⟩
    obtain ⟨M, hM⟩ : ∃ M, T.length = M := ⟨_, rfl⟩
    obtain ⟨Q, hQ⟩ : ∃ Q, G.length = Q := ⟨_, rfl⟩
    rw [hn] at hc hle K1 HDF
    rw [hM] at K1 K2 HDF h0 hM0 hT6 ⊢
    rw [hQ] at K2 hG6 ⊢
    clear hT hz3 hz0 hN hn hM hQ
    obtain ⟨r, hr⟩ : ∃ r, gdOk T G = r := ⟨_, rfl⟩
    obtain ⟨t1, ht1⟩ : ∃ t, tbOk T (n : Int) = t := ⟨_, rfl⟩
    obtain ⟨t2, ht2⟩ : ∃ t, rOk G (M : Int) = t := ⟨_, rfl⟩
    rw [hr, ht1, ht2] at HDF
    rw [ht1] at K1
    rw [ht2] at K2
    rw [hr]
    clear hr ht1 ht2
    cases t1 with
    | false =>
      have hF : r = false := by rw [HDF.out]; rfl
      subst hF
      clear HDF
      go_enter Try.func86, Try.ntmps86
      go_wp2_with fail
      refine K1.out.mono ?_
      rintro e w1 ⟨rfl, b1⟩
      go_wp2
      go_ret
      exact ⟨rfl, b1⟩
    | true =>
      have hF : r = t2 := by rw [HDF.out]; simp
      subst hF
      clear HDF
      go_enter Try.func86, Try.ntmps86
      go_wp2_with fail
      refine K1.out.mono ?_
      rintro e w1 ⟨rfl, b1⟩
      go_wp2_with fail
      refine (K2.out _ b1).mono ?_
      rintro e w2 ⟨rfl, b2⟩
      have b3 := b1.trans (b2.mono b1.size)
      go_wp2
      go_ret
      exact ⟨rfl, b3⟩
set_option maxHeartbeats 2000000 in
set_option maxRecDepth 100000 in
theorem codable_any (a at2 a3 : Option Addr) (cap capT cap3 B : Nat) (S G : List Int) (T : List (List Int)) (w : World) (hz : Ints w B a S) (hT : Tabs w B at2 T) (hz3 : Ints w B a3 G) (hB : B ≤ w.heap.size) (hS6 : S.length ≤ 1048576) (hT6 : T.length ≤ 1048576) (hG6 : G.length ≤ 1048576) :
    Calls Try.prog 80 #[.slice a S.length cap, .slice at2 T.length capT, .slice a3 G.length cap3] w fun e w' => e = .returned (.bool (cdOk S T G)) ∧ Below w.heap.size w w' := by
  have HDF := hidden (cdOk_eq S T G)
  have K1 := hidden (assigned_any at2 a3 capT cap3 B T G w hT hz3 hB hT6 hG6)
  cases hg1 : gdOk T G with
  | false =>
    have hF : cdOk S T G = false := by rw [HDF.out, hg1]; rfl
    rw [hF]
    rw [hg1] at K1
    obtain ⟨M, hM⟩ : ∃ M, T.length = M := ⟨_, rfl⟩
    obtain ⟨Q, hQ⟩ : ∃ Q, G.length = Q := ⟨_, rfl⟩
    obtain ⟨N, hN⟩ : ∃ N, S.length = N := ⟨_, rfl⟩
    rw [hM, hQ] at K1
    rw [hM, hQ, hN]
    clear hz hT hz3 HDF hF hg1 hM hQ hN hS6 hT6 hG6
    go_enter Try.func80, Try.ntmps80
    go_wp2_with fail
    refine K1.out.mono ?_
    rintro e w1 ⟨rfl, b1⟩
    go_wp2
    go_ret
    exact ⟨rfl, b1⟩
  | true =>
    obtain ⟨htb, _, _⟩ := (gdOk_iff T G).1 hg1
    obtain ⟨⟨ht1, ht4⟩, htl⟩ := (tbOk_iff _ _).1 htb
    have hl0 := lOk_range ((htl 0 (by omega)).2)
    have hnn : tbN T ≤ 260 := hl0.2.1
    obtain ⟨b, off, a2, c2, e, hb, hc, hle, hz0⟩ := hT.at (i := 0) (by omega)
    subst e
    rw [Nat.add_zero] at hc
    have hN : (T.getD 0 []).length = tbN T := rfl
    rw [hN] at hc hle
    have HC : Hid (∀ W, Below w.heap.size w W → W.cell? ⟨b, off, none⟩ = some (.slice a2 (tbN T) c2)) := hidden (fun W hW => (hW.cell (p := ⟨b, off, none⟩) (by simp; omega)).trans hc)
    have K2 : Hid (∀ W, Below w.heap.size w W → Calls Try.prog 53 #[.slice a S.length cap, .int .i64 (tbN T)] W fun e w' => e = .returned (.bool (symsB (tbN T) S)) ∧ W = w') := hidden (fun W hW => (rowOk_any a cap B (tbN T) S W (hz.below (hW.mono hB)) (by omega)).mono fun e w' h => ⟨h.1, h.2.symm⟩)
    have K3 := hidden (fun W => implGroups_any (S.length : Int) W (by omega) (by omega))
    rw [hg1] at K1 HDF
    have hM0 : (0 : Int) < (T.length : Int) := by omega
    obtain ⟨n, hn⟩ : ∃ n, tbN T = n := ⟨_, rfl⟩
    obtain ⟨M, hM⟩ : ∃ M, T.length = M := ⟨_, rfl⟩
    obtain ⟨Q, hQ⟩ : ∃ Q, G.length = Q := ⟨_, rfl⟩
    obtain ⟨N, hN2⟩ : ∃ N, S.length = N := ⟨_, rfl⟩
    obtain ⟨z, hz2⟩ : ∃ z, grpZ (S.length : Int) = z := ⟨_, rfl⟩
    rw [hz2] at K3 HDF
    rw [hn] at hle HC K2 HDF hnn
    rw [hM] at K1 hM0 ht1 ht4 ⊢
    rw [hQ] at K1 HDF hG6 ⊢
    rw [hN2] at K2 K3 hS6 ⊢
    clear hz hT hz3 hz0 hN hn hM hQ hN2 hz2 htb htl hl0 hg1 hc
    obtain ⟨r, hr⟩ : ∃ r, cdOk S T G = r := ⟨_, rfl⟩
    obtain ⟨t2, ht2⟩ : ∃ t, symsB n S = t := ⟨_, rfl⟩
    rw [hr, ht2] at HDF
    rw [ht2] at K2
    rw [hr]
    clear hr ht2
    cases t2 with
    | false =>
      have hF : r = false := by rw [HDF.out]; rfl
      subst hF
      clear HDF
      go_enter Try.func80, Try.ntmps80
      go_wp2_with fail
      refine K1.out.mono ?_
      rintro e w1 ⟨rfl, b1⟩
      have c0 := HC.out _ b1
      go_wp2_with fail
      refine (K2.out _ b1).mono ?_
      rintro e w2 ⟨rfl, rfl⟩
      go_wp2
      go_ret
      exact ⟨rfl, b1⟩
    | true =>
      have hF : Hid (r = decide ((Q : Int) = z)) := hidden (by rw [HDF.out]; simp)
      clear HDF
      go_enter Try.func80, Try.ntmps80
      go_wp2_with fail
      refine K1.out.mono ?_
      rintro e w1 ⟨rfl, b1⟩
      have c0 := HC.out _ b1
      go_wp2_with fail
      refine (K2.out _ b1).mono ?_
      rintro e w2 ⟨rfl, rfl⟩
      go_wp2_with fail
      refine (K3.out _).mono ?_
      rintro e w3 ⟨rfl, rfl⟩
      go_wp2
      go_ret
      refine ⟨ret_bool ?_, b1⟩
      rw [hF.out]
      first | rfl | (rw [Bool.eq_iff_iff]; simp)
end Go.Proofs.Ytaaahmfkdiogkaa
namespace Go.Proofs.Ytaaahmfkdiogkaa
set_option linter.unusedVariables false
set_option linter.unusedSimpArgs false
open Go.RowKit

/-- Where a row lies, if it holds anything. -/
theorem Ints.place {w : World} {B : Nat} {a : Option Addr} {S : List Int} (h : Ints w B a S) : ∃ b off, (0 < S.length → a = some ⟨b, off, none⟩) ∧ (0 < S.length → b < B) ∧ ∀ j, j < S.length → w.cell? ⟨b, off + j, none⟩ = some (.int .i64 (S.getD j 0)) := by
  rcases Nat.eq_zero_or_pos S.length with h0 | h0
  · exact ⟨0, 0, fun h => by omega, fun h => by omega, fun j hj => by omega⟩
  · obtain ⟨b, off, e, hb, hc⟩ := h.2.2 h0
    exact ⟨b, off, fun _ => e, fun _ => hb, hc⟩
/-- A row of slices that one owns: its cells. -/
theorem own_groups {w : World} {base n c b off len : Nat} {a : Option Addr} (h : w.ownsRow base 24 1 (.slice a n c) n (chVs b off len)) (hn : n = grp len) : ∀ g, g < n → ∃ gb, a = some ⟨gb, 0, none⟩ ∧ w.cell? ⟨gb, g, none⟩ = some (chV b off len g) := by
  intro g hg
  rcases h.2 with ⟨_, h0⟩ | ⟨g2, cap2, cur, hv, _, hcur, _⟩
  · omega
  · simp only [Value.slice.injEq] at hv
    obtain ⟨rfl, _, rfl⟩ := hv
    refine ⟨g2, rfl, ?_⟩
    have := h.cellAt g (by omega)
    rw [this]
    unfold chVs
    rw [List.getElem?_map, List.getElem?_range (by omega)]
    rfl
theorem bitG_part {S L : List Int} {g m : Nat} (hm : min 10 (S.length - 10 * g) = m) : bitG S L g = bitF S L (10 * g) m := by
  unfold bitG
  by_cases h : 10 * g + 10 ≤ S.length
  · have : m = 10 := by omega
    rw [this]
  · by_cases h2 : 10 * g ≤ S.length
    · have h3 := bitF_end (S := S) (l := L) (a := 10 * g) (c := m) (by omega) (10 - m)
      rw [show m + (10 - m) = 10 by omega] at h3
      exact h3
    · have h3 := bitF_end (S := S) (l := L) (a := 10 * g) (c := m) (by omega) (10 - m)
      rw [show m + (10 - m) = 10 by omega] at h3
      exact h3
set_option maxHeartbeats 4000000 in
set_option maxRecDepth 100000 in
theorem implCodedBits_any (a at2 a3 : Option Addr) (cap capT cap3 B : Nat) (S G : List Int) (T : List (List Int)) (w : World) (hz : Ints w B a S) (hT : Tabs w B at2 T) (hz3 : Ints w B a3 G) (hB : B ≤ w.heap.size) (hS1 : S.length ≤ cap) (hct : T.length ≤ capT) (hS6 : S.length ≤ 1048576) (hT6 : T.length ≤ 1048576) (hG6 : G.length ≤ 1048576) :
    Calls Try.prog 40 #[.slice a S.length cap, .slice at2 T.length capT, .slice a3 G.length cap3] w fun e w' => e = .returned (.int .i64 (cbZ S T G)) ∧ Below w.heap.size w w' := by
  have KO := hidden (codable_any a at2 a3 cap capT cap3 B S G T w hz hT hz3 hB hS6 hT6 hG6)
  by_cases hok : cdOk S T G = true
  · have hZ : Hid (cbZ S T G = cbF S T G G.length) := hidden (by unfold cbZ; rw [if_pos hok])
    obtain ⟨hTab, h1, h4, hn1, hn2, hGl, hG, _⟩ := cdOk_tab hok
    rw [hok] at KO
    have HR := hidden (fun g => cbF_range hTab hG g)
    have HTB := hidden hTab
    have HG := hidden hG
    have hSl := hTab.2.2
    have hq : G.length ≤ 200 := by rw [hGl]; unfold grp; omega
    obtain ⟨b, off, ha, hbB, hcS⟩ := hz.place
    have KG := hidden (fun W => groupsOf_any a b off S.length cap W hS6 hS1 ha)
    have HBG := hidden (fun (g m : Nat) (L : List Int) (h : min 10 (S.length - 10 * g) = m) => bitG_part (S := S) (L := L) h)
    have HST : Hid (∀ g, cbF S T G (g + 1) = cbF S T G g + bitG S (T.getD (G.getD g 0).toNat []) g) := hidden (fun g => rfl)
    obtain ⟨Q, hQ⟩ : ∃ Q, G.length = Q := ⟨_, rfl⟩
    obtain ⟨M, hM⟩ : ∃ M, T.length = M := ⟨_, rfl⟩
    obtain ⟨N, hN⟩ : ∃ N, S.length = N := ⟨_, rfl⟩
    have HN := hidden hN
    have HM := hidden hM
    have HQ := hidden hQ
    rw [hQ] at KO hZ HR HG hq hGl ⊢
    rw [hM] at KO HG h1 h4 hct ⊢
    rw [hN] at KO KG HBG hGl hbB hcS hS1 hSl ⊢
    have HQN := hidden hGl
    rw [← hGl] at KG
    obtain ⟨n, hn⟩ : ∃ n, tbN T = n := ⟨_, rfl⟩
    rw [hn] at HTB
    have HZ := hidden hz
    have HT := hidden hT
    have HZ3 := hidden hz3
    have HCS := hidden hcS
    clear hz hT hz3 hok hTab hG hGl hQ hM hN hn hn1 hn2 ha hcS hS6 hT6 hG6
    go_enter Try.func40, Try.ntmps40
    go_wp2_with fail
    refine KO.out.mono ?_
    rintro e w1 ⟨rfl, b1⟩
    go_wp2_with fail
    refine (KG.out _).mono ?_
    rintro e w2 ⟨v, rfl, o2, b2⟩
    have b3 := b1.trans (b2.mono b1.size)
    obtain ⟨av, cv, hv⟩ := own_shape o2
    subst hv
    have hcv := own_len10 o2
    have HOG := hidden (own_groups o2 HQN.out)
    clear o2 b2 KO KG
    go_wp2
    go_loop [7, 8, 9, 18] (fun sn _ _ sg => ∃ (g : Nat) (z : Int), g ≤ Q ∧ sg = .int .i64 g ∧ sn = .int .i64 z ∧ Hid (cbF S T G g = z)) (fun _ _ _ sg => Q - (intOf sg).toNat)
    case atStart => exact ⟨0, 0, by omega, rfl, rfl, hidden rfl⟩
    case round =>
      obtain ⟨g, z, hg, rfl, rfl, HZg⟩ := hrel
      by_cases hlt : g < Q
      · have hgr := HG.out g hlt
        obtain ⟨x, hx⟩ : ∃ x : Nat, G.getD g 0 = (x : Int) := ⟨(G.getD g 0).toNat, by omega⟩
        have hxM : x < M := by omega
        have hr1 := HR.out g (by omega)
        have hr2 := HR.out (g + 1) (by omega)
        have hst := HST.out g
        rw [hx, Int.toNat_natCast] at hst
        obtain ⟨b3', off3, e3, hb3, hcell3⟩ := HZ3.out.2.2 (by rw [HQ.out]; omega)
        have c3 := (b3.cell (p := ⟨b3', off3 + g, none⟩) (by simp; omega)).trans (hcell3 g (by rw [HQ.out]; exact hlt))
        rw [hx] at c3
        obtain ⟨tb, tq, at4, ct4, e4, htb, ck, hck, zk⟩ := HT.out.at (i := x) (by rw [HM.out]; exact hxM)
        have ck := (b3.cell (p := ⟨tb, tq + x, none⟩) (by simp; omega)).trans ck
        obtain ⟨l1, l2⟩ := HTB.out.1 x (by rw [HM.out]; exact hxM)
        rw [l1] at ck hck
        obtain ⟨gb, eg, cg⟩ := HOG.out g hlt
        obtain ⟨m, hm⟩ : ∃ m, min 10 (N - 10 * g) = m := ⟨_, rfl⟩
        have hb1 : 10 * g < N := grp_bound.1 (by rw [← HQN.out]; exact hlt)
        have hVg : chV b off N g = .slice (some ⟨b, off + 10 * g, none⟩) m m := by unfold chV; rw [hm]
        rw [hVg] at cg
        have K1 := bitsWith_any at4 ct4 B b (off + 10 * g) m (10 * g) n S (T.getD x []) w2 (zk.below (b3.mono hB)) l2 l1 (by omega) (by rw [HN.out]; omega) (fun j hj => by
          rw [Nat.add_assoc]
          exact (b3.cell (p := ⟨b, off + (10 * g + j), none⟩) (by have := hbB (by omega); simp; omega)).trans (HCS.out _ (by omega))) HTB.out.2.1
        rw [← HBG.out g m (T.getD x []) hm] at K1
        subst e3 e4 eg
        have K2 := hidden K1
        obtain ⟨y, hy⟩ : ∃ y, bitG S (T.getD x []) g = y := ⟨_, rfl⟩
        rw [hy] at K2 hst
        rw [HZg.out] at hst hr1
        rw [hst] at hr2
        have HS2 := hidden hst
        obtain ⟨o10, ho10⟩ : ∃ o, off + 10 * g = o := ⟨_, rfl⟩
        rw [ho10] at cg K2
        clear hcell3 hx hgr zk l1 l2 K1 hy hst hm hVg ho10 hb1
        go_wp2_with fail
        refine K2.out.mono ?_
        rintro e w3 ⟨rfl, rfl⟩
        go_wp2
        go_round
        case rel => exact ⟨g + 1, z + y, by omega, by go_num, rfl, HS2⟩
        case measure => simp [intOf]; omega
      · obtain rfl : g = Q := by omega
        go_wp2
        go_ret
        exact ⟨ret_int (by rw [hZ.out, HZg.out]), b3⟩
  · have hZ : Hid (cbZ S T G = -1) := hidden (by unfold cbZ; rw [if_neg hok])
    rw [Bool.eq_false_iff.2 hok] at KO
    obtain ⟨Q, hQ⟩ : ∃ Q, G.length = Q := ⟨_, rfl⟩
    obtain ⟨M, hM⟩ : ∃ M, T.length = M := ⟨_, rfl⟩
    obtain ⟨N, hN⟩ : ∃ N, S.length = N := ⟨_, rfl⟩
    rw [hQ, hM, hN] at KO ⊢
    clear hz hT hz3 hok hQ hM hN hct
    go_enter Try.func40, Try.ntmps40
    go_wp2_with fail
    refine KO.out.mono ?_
    rintro e w1 ⟨rfl, b1⟩
    go_wp2
    go_ret
    exact ⟨ret_int hZ.out.symm, b1⟩
end Go.Proofs.Ytaaahmfkdiogkaa
