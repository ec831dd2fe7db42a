/- The walk of the law that holds Join against its model. -/
import Derived.Test.YtbfkbiembbbbpaaWJoins
import Derived.Deep.Cut
import Derived.Deep.DeepCutAuto
namespace Go.Proofs.Ytbfkbiembbbbpaa
set_option linter.unusedVariables false
set_option linter.unusedSimpArgs false
open Go.RowKit

theorem toBitsJ_any (s : ByteArray) (n : Int) (w : World) :
    Calls Try.prog 35 #[.agg #[.string s, .int .i64 n]] w fun e w' => e = .returned (.agg #[.string s, .int .i64 n]) ∧ Below w.heap.size w w' := by
  go_enter Try.func35, Try.ntmps35
  go_wp2
  refine bodyPost_ret (v := .agg #[.string s, .int .i64 n]) (by simp [results, Try.results35, go_sem]) rfl ⟨rfl, ?_⟩
  repeat (first | exact Below.refl _ _ | refine Below.alloc ?_ (by (try simp); (try omega)) _ | refine Below.setCell ?_ (by (try simp); (try omega)) _ | refine Below.drew ?_)
theorem szBitsJ_ok (s : ByteArray) (n : Int) (l : Nat) (w : World) (hs : s.size ≤ l) (hl : l ≤ 1048576) :
    Calls Try.prog 34 #[.agg #[.string s, .int .i64 n], .int .i64 l] w fun e w' => e = .returned (.int .i64 ((l - s.size : Nat) : Int)) ∧ Below w.heap.size w w' := by
  have e1 : ((l - s.size : Nat) : Int) = (l : Int) - (s.size : Int) := by omega
  rw [e1]
  go_enter Try.func34, Try.ntmps34
  go_wp2
  go_ret
  exact ⟨rfl, (Below.refl _ _).alloc (Nat.le_refl _) _⟩
theorem szBitsJ_no (s : ByteArray) (n : Int) (l : Nat) (w : World) (hs : l < s.size) (hm : s.size ≤ maxLen) (hl : l ≤ 1048576) :
    Calls Try.prog 34 #[.agg #[.string s, .int .i64 n], .int .i64 l] w fun e w' => e = .returned (.int .i64 (-1)) ∧ Below w.heap.size w w' := by
  unfold maxLen at hm
  go_enter Try.func34, Try.ntmps34
  go_wp2
  go_ret
  exact ⟨rfl, (Below.refl _ _).alloc (Nat.le_refl _) _⟩
theorem eqBitsJ_same (s : ByteArray) (n : Int) (w : World) :
    Calls Try.prog 36 #[.agg #[.string s, .int .i64 n], .agg #[.string s, .int .i64 n]] w fun e w' => e = .returned (.bool true) ∧ Below w.heap.size w w' := by
  go_enter Try.func36, Try.ntmps36
  go_wp2
  go_ret
  refine ⟨rfl, ?_⟩
  repeat (first | exact Below.refl _ _ | refine Below.alloc ?_ (by (try simp); (try omega)) _ | refine Below.setCell ?_ (by (try simp); (try omega)) _ | refine Below.drew ?_)
theorem joins_same (s : ByteArray) (n : Int) (t : ByteArray) (m : Int) (w : World) (hs : s.size ≤ maxLen) (ht : t.size ≤ maxLen) (b1 : -9223372036854775808 ≤ n) (b2 : n ≤ 9223372036854775807) (c1 : -9223372036854775808 ≤ m) (c2 : m ≤ 9223372036854775807) :
    ∃ (X : ByteArray) (N : Int) (ok : Bool), (∀ W, Calls Try.prog 21 #[.agg #[.string s, .int .i64 n], .agg #[.string t, .int .i64 m]] W fun e w' => e = .returned (.tuple #[.agg #[.string X, .int .i64 N], .bool ok]) ∧ Below W.heap.size W w') ∧
      ∀ W, Calls Try.prog 20 #[.agg #[.string s, .int .i64 n], .agg #[.string t, .int .i64 m]] W fun e w' => e = .returned (.tuple #[.agg #[.string X, .int .i64 N], .bool ok]) ∧ Below W.heap.size W w' := by
  by_cases hg : okB s n = true ∧ okB t m = true ∧ n + m ≤ 400000
  · obtain ⟨n, rfl⟩ : ∃ q : Nat, n = q := ⟨n.toNat, by have := (okB_iff _ _).1 hg.1; omega⟩
    obtain ⟨m, rfl⟩ : ∃ q : Nat, m = q := ⟨m.toNat, by have := (okB_iff _ _).1 hg.2.1; omega⟩
    have hr : n + m ≤ 400000 := by omega
    obtain ⟨D, hD⟩ : ∃ D, Packs D (row s 0 n ++ row t 0 m) := by
      obtain ⟨_, _, _, ⟨D, hD, _⟩, _⟩ := specJoin_yes s n t m w hs ht hg.1 hg.2.1 hr []
      exact ⟨D, hD⟩
    refine ⟨strOf D, ((n + m : Nat) : Int), true, fun W => (specJoin_yes s n t m W hs ht hg.1 hg.2.1 hr).mono ?_, fun W => (implJoin_yes s n t m W hs ht hg.1 hg.2.1 hr).mono ?_⟩
    · rintro e w' ⟨D2, hD2, he, hb⟩
      rw [hD2.unique hD] at he
      exact ⟨he, hb⟩
    · rintro e w' ⟨D2, hD2, he, hb⟩
      rw [hD2.unique hD] at he
      exact ⟨he, hb⟩
  · exact ⟨⟨#[]⟩, 0, false, fun W => specJoin_no s n t m W hs ht b1 b2 c1 c2 hg, fun W => implJoin_no s n t m W hs ht b1 b2 c1 c2 hg⟩

attribute [local go_sem ↓] Go.wp_at_zero Go.wp_at_succ
set_option maxRecDepth 100000 in
set_option maxHeartbeats 4000000 in
theorem walk_FnExactJoin (w : World) (s : ByteArray) (n : Int) (hs : s.size ≤ maxLen) (b1 : -9223372036854775808 ≤ n) (b2 : n ≤ 9223372036854775807) (t : ByteArray) (m : Int) (ht : t.size ≤ maxLen) (c1 : -9223372036854775808 ≤ m) (c2 : m ≤ 9223372036854775807) :
    Calls Try.prog 8 #[.agg #[.string s, .int .i64 n], .agg #[.string t, .int .i64 m]] w fun e w' => e = .returned (.bool true) ∧ Below w.heap.size w w' := by
  obtain ⟨X, N, ok, HS, HI⟩ := joins_same s n t m w hs ht b1 b2 c1 c2
  have HS := hidden HS
  have HI := hidden HI
  have hA := (Has.fresh w 49 #[.string s, .int .i64 n]).alloc (.cells #[.string t, .int .i64 m] 49)
  have hB := Has.freshAt (w := w.alloc (.cells #[.string s, .int .i64 n] 49)) (g := w.heap.size + 1) (by simp) 49 #[.string t, .int .i64 m]
  have bb : Below w.heap.size w ((w.alloc (.cells #[.string s, .int .i64 n] 49)).alloc (.cells #[.string t, .int .i64 m] 49)) := ((Below.refl _ _).alloc (Nat.le_refl _) _).alloc (by simp) _
  by_cases h1 : s.size ≤ 1048576
  · by_cases h2 : t.size ≤ 1048576 - s.size
    · go_enter Try.func8, Try.ntmps8
      go_wp2_with fail
      refine (szBitsJ_ok s n 1048576 _ h1 (Nat.le_refl _)).mono ?_
      rintro e wa ⟨rfl, Ba⟩
      replace hA := hA.below Ba (by (try simp); (try omega))
      replace hB := hB.below Ba (by (try simp); (try omega))
      replace bb := bel_then Ba (by (try simp); (try omega)) bb
      have x0 := hA.cell 0
      have x1 := hA.cell 1
      have y0 := hB.cell 0
      have y1 := hB.cell 1
      simp at x0 x1 y0 y1
      clear Ba
      go_wp2_with fail
      refine (szBitsJ_ok t m (1048576 - s.size) _ h2 (by omega)).mono ?_
      rintro e wb ⟨rfl, Bb⟩
      replace hA := hA.below Bb hA.lt
      replace hB := hB.below Bb hB.lt
      replace bb := bel_then Bb bb.size bb
      clear x0 x1 y0 y1 Bb
      have x0 := hA.cell 0
      have x1 := hA.cell 1
      have y0 := hB.cell 0
      have y1 := hB.cell 1
      simp at x0 x1 y0 y1
      go_upto_region 8 with fail
      have lA := hA.lt
      have lB := hB.lt
      have n01 : ¬ w.heap.size = wb.heap.size := by omega
      have n02 : ¬ wb.heap.size = w.heap.size := by omega
      have n03 : ¬ w.heap.size + 1 = wb.heap.size := by omega
      have n04 : ¬ wb.heap.size = w.heap.size + 1 := by omega
      have bc : Below wb.heap.size wb wb := Below.refl _ _
      go_cut [6, 7] (fun s6 s7 wx => ∃ g, s6 = .pointer (some ⟨g, 0, none⟩) ∧ s7 = .bool ok ∧ Has wx g 24 #[.string X, .int .i64 N] ∧ Has wx w.heap.size 49 #[.string s, .int .i64 n] ∧ Has wx (w.heap.size + 1) 49 #[.string t, .int .i64 m] ∧ Below w.heap.size w wx ∧ Below wb.heap.size wb wx)
      case first =>
        go_region_held3 (fun w' => w'.cell? ⟨w.heap.size, 0, none⟩ = some (.string s) ∧ w'.cell? ⟨w.heap.size, 1, none⟩ = some (.int .i64 n) ∧ w'.cell? ⟨w.heap.size + 1, 0, none⟩ = some (.string t) ∧ w'.cell? ⟨w.heap.size + 1, 1, none⟩ = some (.int .i64 m)) (go_keep) (first | (go_at_call 35; first | ((with_reducible refine (toBitsJ_any s n _).mono ?_); rintro e wp ⟨rfl, Bwp⟩; have ywp := Bwp.size; (try simp at ywp); (first | (have hG := (Bwp.block _ hG.lt).trans hG) | (have hG := (Bwp.block _ (Has.fresh wb 24 #[.string ⟨#[]⟩, .int .i64 0]).lt).trans (Has.fresh wb 24 #[.string ⟨#[]⟩, .int .i64 0])) | skip); (try (replace hG : Has wp _ _ _ := hG; have hq0 := hG.cell 0; have hq1 := hG.cell 1; have hr0 := hG.free 0; have hr1 := hG.free 1; simp at hq0 hq1; have hGl := hG.lt)); (first | (replace hA : Has wp _ _ _ := (Bwp.block _ hA.lt).trans hA) | (replace hA : Has wp _ _ _ := (Bwp.block _ (hA.alloc (.cells #[.string ⟨#[]⟩, .int .i64 0] 24)).lt).trans (hA.alloc (.cells #[.string ⟨#[]⟩, .int .i64 0] 24)))); (first | (replace hB : Has wp _ _ _ := (Bwp.block _ hB.lt).trans hB) | (replace hB : Has wp _ _ _ := (Bwp.block _ (hB.alloc (.cells #[.string ⟨#[]⟩, .int .i64 0] 24)).lt).trans (hB.alloc (.cells #[.string ⟨#[]⟩, .int .i64 0] 24)))); (first | (replace bb : Below w.heap.size w wp := bel_then Bwp bb.size ⟨bb.os, bb.tape, bb.output, bb.size, bb.block⟩) | (replace bb : Below w.heap.size w wp := bel_then Bwp (bb.alloc bb.size (.cells #[.string ⟨#[]⟩, .int .i64 0] 24)).size ⟨(bb.alloc bb.size (.cells #[.string ⟨#[]⟩, .int .i64 0] 24)).os, (bb.alloc bb.size (.cells #[.string ⟨#[]⟩, .int .i64 0] 24)).tape, (bb.alloc bb.size (.cells #[.string ⟨#[]⟩, .int .i64 0] 24)).output, (bb.alloc bb.size (.cells #[.string ⟨#[]⟩, .int .i64 0] 24)).size, (bb.alloc bb.size (.cells #[.string ⟨#[]⟩, .int .i64 0] 24)).block⟩)); (first | (replace bc : Below wb.heap.size wb wp := bel_then Bwp bc.size ⟨bc.os, bc.tape, bc.output, bc.size, bc.block⟩) | (replace bc : Below wb.heap.size wb wp := bel_then Bwp (bc.alloc bc.size (.cells #[.string ⟨#[]⟩, .int .i64 0] 24)).size ⟨(bc.alloc bc.size (.cells #[.string ⟨#[]⟩, .int .i64 0] 24)).os, (bc.alloc bc.size (.cells #[.string ⟨#[]⟩, .int .i64 0] 24)).tape, (bc.alloc bc.size (.cells #[.string ⟨#[]⟩, .int .i64 0] 24)).output, (bc.alloc bc.size (.cells #[.string ⟨#[]⟩, .int .i64 0] 24)).size, (bc.alloc bc.size (.cells #[.string ⟨#[]⟩, .int .i64 0] 24)).block⟩)); have x0 := hA.cell 0; have x1 := hA.cell 1; have y0 := hB.cell 0; have y1 := hB.cell 1; simp at x0 x1 y0 y1; have lA := hA.lt; have lB := hB.lt; have nwp1 : ¬ w.heap.size = wp.heap.size := (by omega); have nwp2 : ¬ wp.heap.size = w.heap.size := (by omega); have nwp3 : ¬ w.heap.size + 1 = wp.heap.size := (by omega); have nwp4 : ¬ wp.heap.size = w.heap.size + 1 := (by omega); clear Bwp) | ((with_reducible refine (toBitsJ_any t m _).mono ?_); rintro e wq ⟨rfl, Bwq⟩; have ywq := Bwq.size; (try simp at ywq); (first | (have hG := (Bwq.block _ hG.lt).trans hG) | (have hG := (Bwq.block _ (Has.fresh wp 24 #[.string ⟨#[]⟩, .int .i64 0]).lt).trans (Has.fresh wp 24 #[.string ⟨#[]⟩, .int .i64 0])) | skip); (try (replace hG : Has wq _ _ _ := hG; have hq0 := hG.cell 0; have hq1 := hG.cell 1; have hr0 := hG.free 0; have hr1 := hG.free 1; simp at hq0 hq1; have hGl := hG.lt)); (first | (replace hA : Has wq _ _ _ := (Bwq.block _ hA.lt).trans hA) | (replace hA : Has wq _ _ _ := (Bwq.block _ (hA.alloc (.cells #[.string ⟨#[]⟩, .int .i64 0] 24)).lt).trans (hA.alloc (.cells #[.string ⟨#[]⟩, .int .i64 0] 24)))); (first | (replace hB : Has wq _ _ _ := (Bwq.block _ hB.lt).trans hB) | (replace hB : Has wq _ _ _ := (Bwq.block _ (hB.alloc (.cells #[.string ⟨#[]⟩, .int .i64 0] 24)).lt).trans (hB.alloc (.cells #[.string ⟨#[]⟩, .int .i64 0] 24)))); (first | (replace bb : Below w.heap.size w wq := bel_then Bwq bb.size ⟨bb.os, bb.tape, bb.output, bb.size, bb.block⟩) | (replace bb : Below w.heap.size w wq := bel_then Bwq (bb.alloc bb.size (.cells #[.string ⟨#[]⟩, .int .i64 0] 24)).size ⟨(bb.alloc bb.size (.cells #[.string ⟨#[]⟩, .int .i64 0] 24)).os, (bb.alloc bb.size (.cells #[.string ⟨#[]⟩, .int .i64 0] 24)).tape, (bb.alloc bb.size (.cells #[.string ⟨#[]⟩, .int .i64 0] 24)).output, (bb.alloc bb.size (.cells #[.string ⟨#[]⟩, .int .i64 0] 24)).size, (bb.alloc bb.size (.cells #[.string ⟨#[]⟩, .int .i64 0] 24)).block⟩)); (first | (replace bc : Below wb.heap.size wb wq := bel_then Bwq bc.size ⟨bc.os, bc.tape, bc.output, bc.size, bc.block⟩) | (replace bc : Below wb.heap.size wb wq := bel_then Bwq (bc.alloc bc.size (.cells #[.string ⟨#[]⟩, .int .i64 0] 24)).size ⟨(bc.alloc bc.size (.cells #[.string ⟨#[]⟩, .int .i64 0] 24)).os, (bc.alloc bc.size (.cells #[.string ⟨#[]⟩, .int .i64 0] 24)).tape, (bc.alloc bc.size (.cells #[.string ⟨#[]⟩, .int .i64 0] 24)).output, (bc.alloc bc.size (.cells #[.string ⟨#[]⟩, .int .i64 0] 24)).size, (bc.alloc bc.size (.cells #[.string ⟨#[]⟩, .int .i64 0] 24)).block⟩)); have x0 := hA.cell 0; have x1 := hA.cell 1; have y0 := hB.cell 0; have y1 := hB.cell 1; simp at x0 x1 y0 y1; have lA := hA.lt; have lB := hB.lt; have nwq1 : ¬ w.heap.size = wq.heap.size := (by omega); have nwq2 : ¬ wq.heap.size = w.heap.size := (by omega); have nwq3 : ¬ w.heap.size + 1 = wq.heap.size := (by omega); have nwq4 : ¬ wq.heap.size = w.heap.size + 1 := (by omega); clear Bwq)) | (go_at_call 21; (with_reducible refine (HS.out _).mono ?_); rintro e wr ⟨rfl, Bwr⟩; have ywr := Bwr.size; (try simp at ywr); (first | (have hG := (Bwr.block _ hG.lt).trans hG) | (have hG := (Bwr.block _ (Has.fresh wq 24 #[.string ⟨#[]⟩, .int .i64 0]).lt).trans (Has.fresh wq 24 #[.string ⟨#[]⟩, .int .i64 0])) | skip); (try (replace hG : Has wr _ _ _ := hG; have hq0 := hG.cell 0; have hq1 := hG.cell 1; have hr0 := hG.free 0; have hr1 := hG.free 1; simp at hq0 hq1; have hGl := hG.lt)); (first | (replace hA : Has wr _ _ _ := (Bwr.block _ hA.lt).trans hA) | (replace hA : Has wr _ _ _ := (Bwr.block _ (hA.alloc (.cells #[.string ⟨#[]⟩, .int .i64 0] 24)).lt).trans (hA.alloc (.cells #[.string ⟨#[]⟩, .int .i64 0] 24)))); (first | (replace hB : Has wr _ _ _ := (Bwr.block _ hB.lt).trans hB) | (replace hB : Has wr _ _ _ := (Bwr.block _ (hB.alloc (.cells #[.string ⟨#[]⟩, .int .i64 0] 24)).lt).trans (hB.alloc (.cells #[.string ⟨#[]⟩, .int .i64 0] 24)))); (first | (replace bb : Below w.heap.size w wr := bel_then Bwr bb.size ⟨bb.os, bb.tape, bb.output, bb.size, bb.block⟩) | (replace bb : Below w.heap.size w wr := bel_then Bwr (bb.alloc bb.size (.cells #[.string ⟨#[]⟩, .int .i64 0] 24)).size ⟨(bb.alloc bb.size (.cells #[.string ⟨#[]⟩, .int .i64 0] 24)).os, (bb.alloc bb.size (.cells #[.string ⟨#[]⟩, .int .i64 0] 24)).tape, (bb.alloc bb.size (.cells #[.string ⟨#[]⟩, .int .i64 0] 24)).output, (bb.alloc bb.size (.cells #[.string ⟨#[]⟩, .int .i64 0] 24)).size, (bb.alloc bb.size (.cells #[.string ⟨#[]⟩, .int .i64 0] 24)).block⟩)); (first | (replace bc : Below wb.heap.size wb wr := bel_then Bwr bc.size ⟨bc.os, bc.tape, bc.output, bc.size, bc.block⟩) | (replace bc : Below wb.heap.size wb wr := bel_then Bwr (bc.alloc bc.size (.cells #[.string ⟨#[]⟩, .int .i64 0] 24)).size ⟨(bc.alloc bc.size (.cells #[.string ⟨#[]⟩, .int .i64 0] 24)).os, (bc.alloc bc.size (.cells #[.string ⟨#[]⟩, .int .i64 0] 24)).tape, (bc.alloc bc.size (.cells #[.string ⟨#[]⟩, .int .i64 0] 24)).output, (bc.alloc bc.size (.cells #[.string ⟨#[]⟩, .int .i64 0] 24)).size, (bc.alloc bc.size (.cells #[.string ⟨#[]⟩, .int .i64 0] 24)).block⟩)); have x0 := hA.cell 0; have x1 := hA.cell 1; have y0 := hB.cell 0; have y1 := hB.cell 1; simp at x0 x1 y0 y1; have lA := hA.lt; have lB := hB.lt; have nwr1 : ¬ w.heap.size = wr.heap.size := (by omega); have nwr2 : ¬ wr.heap.size = w.heap.size := (by omega); have nwr3 : ¬ w.heap.size + 1 = wr.heap.size := (by omega); have nwr4 : ¬ wr.heap.size = w.heap.size + 1 := (by omega); clear Bwr))
        all_goals
          go_wp2
          go_meet
          first
          | exact ⟨_, rfl, rfl, Has.fresh _ _ _, hA.alloc _, hB.alloc _, bb.alloc bb.size _, bc.alloc bc.size _⟩
          | exact ⟨_, rfl, rfl, by simpa using (hG.store 0 (.string X)).store 1 (.int .i64 N), (hA.storeAway (p := ⟨_, 0, none⟩) (by assumption) _).storeAway (p := ⟨_, 1, none⟩) (by assumption) _, (hB.storeAway (p := ⟨_, 0, none⟩) (by assumption) _).storeAway (p := ⟨_, 1, none⟩) (by assumption) _, (bb.setCell (p := ⟨_, 0, none⟩) (by (try simp); (try omega)) _).setCell (p := ⟨_, 1, none⟩) (by (try simp); (try omega)) _, (bc.setCell (p := ⟨_, 0, none⟩) (by (try simp); (try omega)) _).setCell (p := ⟨_, 1, none⟩) (by (try simp); (try omega)) _⟩
      case rest =>
        obtain ⟨g, rfl, rfl, hG1, hA, hB, bb, _⟩ := hcut
        obtain ⟨wd, hwd⟩ : ∃ wd, wd = wc := ⟨_, rfl⟩
        rw [← hwd] at hG1 hA hB bb ⊢
        clear hwd x0 x1 y0 y1 bc n01 n02 n03 n04 lA lB
        have x0 := hA.cell 0
        have x1 := hA.cell 1
        have y0 := hB.cell 0
        have y1 := hB.cell 1
        simp at x0 x1 y0 y1
        go_upto_region 9 with fail
        have lA := hA.lt
        have lB := hB.lt
        have n01 : ¬ w.heap.size = wd.heap.size := by omega
        have n02 : ¬ wd.heap.size = w.heap.size := by omega
        have n03 : ¬ w.heap.size + 1 = wd.heap.size := by omega
        have n04 : ¬ wd.heap.size = w.heap.size + 1 := by omega
        have bc : Below wd.heap.size wd wd := Below.refl _ _
        go_cut [8, 9] (fun s8 s9 wx => ∃ g2, s8 = .pointer (some ⟨g2, 0, none⟩) ∧ s9 = .bool ok ∧ Has wx g2 24 #[.string X, .int .i64 N] ∧ Has wx w.heap.size 49 #[.string s, .int .i64 n] ∧ Has wx (w.heap.size + 1) 49 #[.string t, .int .i64 m] ∧ Below w.heap.size w wx ∧ Below wd.heap.size wd wx)
        case first =>
          go_region_held3 (fun w' => w'.cell? ⟨w.heap.size, 0, none⟩ = some (.string s) ∧ w'.cell? ⟨w.heap.size, 1, none⟩ = some (.int .i64 n) ∧ w'.cell? ⟨w.heap.size + 1, 0, none⟩ = some (.string t) ∧ w'.cell? ⟨w.heap.size + 1, 1, none⟩ = some (.int .i64 m)) (go_keep) (first | (go_at_call 35; first | ((with_reducible refine (toBitsJ_any s n _).mono ?_); rintro e wp ⟨rfl, Bwp⟩; have ywp := Bwp.size; (try simp at ywp); (first | (have hG := (Bwp.block _ hG.lt).trans hG) | (have hG := (Bwp.block _ (Has.fresh wd 24 #[.string ⟨#[]⟩, .int .i64 0]).lt).trans (Has.fresh wd 24 #[.string ⟨#[]⟩, .int .i64 0])) | skip); (try (replace hG : Has wp _ _ _ := hG; have hq0 := hG.cell 0; have hq1 := hG.cell 1; have hr0 := hG.free 0; have hr1 := hG.free 1; simp at hq0 hq1; have hGl := hG.lt)); (first | (replace hA : Has wp _ _ _ := (Bwp.block _ hA.lt).trans hA) | (replace hA : Has wp _ _ _ := (Bwp.block _ (hA.alloc (.cells #[.string ⟨#[]⟩, .int .i64 0] 24)).lt).trans (hA.alloc (.cells #[.string ⟨#[]⟩, .int .i64 0] 24)))); (first | (replace hB : Has wp _ _ _ := (Bwp.block _ hB.lt).trans hB) | (replace hB : Has wp _ _ _ := (Bwp.block _ (hB.alloc (.cells #[.string ⟨#[]⟩, .int .i64 0] 24)).lt).trans (hB.alloc (.cells #[.string ⟨#[]⟩, .int .i64 0] 24)))); (first | (replace bb : Below w.heap.size w wp := bel_then Bwp bb.size ⟨bb.os, bb.tape, bb.output, bb.size, bb.block⟩) | (replace bb : Below w.heap.size w wp := bel_then Bwp (bb.alloc bb.size (.cells #[.string ⟨#[]⟩, .int .i64 0] 24)).size ⟨(bb.alloc bb.size (.cells #[.string ⟨#[]⟩, .int .i64 0] 24)).os, (bb.alloc bb.size (.cells #[.string ⟨#[]⟩, .int .i64 0] 24)).tape, (bb.alloc bb.size (.cells #[.string ⟨#[]⟩, .int .i64 0] 24)).output, (bb.alloc bb.size (.cells #[.string ⟨#[]⟩, .int .i64 0] 24)).size, (bb.alloc bb.size (.cells #[.string ⟨#[]⟩, .int .i64 0] 24)).block⟩)); (first | (replace bc : Below wd.heap.size wd wp := bel_then Bwp bc.size ⟨bc.os, bc.tape, bc.output, bc.size, bc.block⟩) | (replace bc : Below wd.heap.size wd wp := bel_then Bwp (bc.alloc bc.size (.cells #[.string ⟨#[]⟩, .int .i64 0] 24)).size ⟨(bc.alloc bc.size (.cells #[.string ⟨#[]⟩, .int .i64 0] 24)).os, (bc.alloc bc.size (.cells #[.string ⟨#[]⟩, .int .i64 0] 24)).tape, (bc.alloc bc.size (.cells #[.string ⟨#[]⟩, .int .i64 0] 24)).output, (bc.alloc bc.size (.cells #[.string ⟨#[]⟩, .int .i64 0] 24)).size, (bc.alloc bc.size (.cells #[.string ⟨#[]⟩, .int .i64 0] 24)).block⟩)); have x0 := hA.cell 0; have x1 := hA.cell 1; have y0 := hB.cell 0; have y1 := hB.cell 1; simp at x0 x1 y0 y1; have lA := hA.lt; have lB := hB.lt; have nwp1 : ¬ w.heap.size = wp.heap.size := (by omega); have nwp2 : ¬ wp.heap.size = w.heap.size := (by omega); have nwp3 : ¬ w.heap.size + 1 = wp.heap.size := (by omega); have nwp4 : ¬ wp.heap.size = w.heap.size + 1 := (by omega); clear Bwp) | ((with_reducible refine (toBitsJ_any t m _).mono ?_); rintro e wq ⟨rfl, Bwq⟩; have ywq := Bwq.size; (try simp at ywq); (first | (have hG := (Bwq.block _ hG.lt).trans hG) | (have hG := (Bwq.block _ (Has.fresh wp 24 #[.string ⟨#[]⟩, .int .i64 0]).lt).trans (Has.fresh wp 24 #[.string ⟨#[]⟩, .int .i64 0])) | skip); (try (replace hG : Has wq _ _ _ := hG; have hq0 := hG.cell 0; have hq1 := hG.cell 1; have hr0 := hG.free 0; have hr1 := hG.free 1; simp at hq0 hq1; have hGl := hG.lt)); (first | (replace hA : Has wq _ _ _ := (Bwq.block _ hA.lt).trans hA) | (replace hA : Has wq _ _ _ := (Bwq.block _ (hA.alloc (.cells #[.string ⟨#[]⟩, .int .i64 0] 24)).lt).trans (hA.alloc (.cells #[.string ⟨#[]⟩, .int .i64 0] 24)))); (first | (replace hB : Has wq _ _ _ := (Bwq.block _ hB.lt).trans hB) | (replace hB : Has wq _ _ _ := (Bwq.block _ (hB.alloc (.cells #[.string ⟨#[]⟩, .int .i64 0] 24)).lt).trans (hB.alloc (.cells #[.string ⟨#[]⟩, .int .i64 0] 24)))); (first | (replace bb : Below w.heap.size w wq := bel_then Bwq bb.size ⟨bb.os, bb.tape, bb.output, bb.size, bb.block⟩) | (replace bb : Below w.heap.size w wq := bel_then Bwq (bb.alloc bb.size (.cells #[.string ⟨#[]⟩, .int .i64 0] 24)).size ⟨(bb.alloc bb.size (.cells #[.string ⟨#[]⟩, .int .i64 0] 24)).os, (bb.alloc bb.size (.cells #[.string ⟨#[]⟩, .int .i64 0] 24)).tape, (bb.alloc bb.size (.cells #[.string ⟨#[]⟩, .int .i64 0] 24)).output, (bb.alloc bb.size (.cells #[.string ⟨#[]⟩, .int .i64 0] 24)).size, (bb.alloc bb.size (.cells #[.string ⟨#[]⟩, .int .i64 0] 24)).block⟩)); (first | (replace bc : Below wd.heap.size wd wq := bel_then Bwq bc.size ⟨bc.os, bc.tape, bc.output, bc.size, bc.block⟩) | (replace bc : Below wd.heap.size wd wq := bel_then Bwq (bc.alloc bc.size (.cells #[.string ⟨#[]⟩, .int .i64 0] 24)).size ⟨(bc.alloc bc.size (.cells #[.string ⟨#[]⟩, .int .i64 0] 24)).os, (bc.alloc bc.size (.cells #[.string ⟨#[]⟩, .int .i64 0] 24)).tape, (bc.alloc bc.size (.cells #[.string ⟨#[]⟩, .int .i64 0] 24)).output, (bc.alloc bc.size (.cells #[.string ⟨#[]⟩, .int .i64 0] 24)).size, (bc.alloc bc.size (.cells #[.string ⟨#[]⟩, .int .i64 0] 24)).block⟩)); have x0 := hA.cell 0; have x1 := hA.cell 1; have y0 := hB.cell 0; have y1 := hB.cell 1; simp at x0 x1 y0 y1; have lA := hA.lt; have lB := hB.lt; have nwq1 : ¬ w.heap.size = wq.heap.size := (by omega); have nwq2 : ¬ wq.heap.size = w.heap.size := (by omega); have nwq3 : ¬ w.heap.size + 1 = wq.heap.size := (by omega); have nwq4 : ¬ wq.heap.size = w.heap.size + 1 := (by omega); clear Bwq)) | (go_at_call 20; (with_reducible refine (HI.out _).mono ?_); rintro e wr ⟨rfl, Bwr⟩; have ywr := Bwr.size; (try simp at ywr); (first | (have hG := (Bwr.block _ hG.lt).trans hG) | (have hG := (Bwr.block _ (Has.fresh wq 24 #[.string ⟨#[]⟩, .int .i64 0]).lt).trans (Has.fresh wq 24 #[.string ⟨#[]⟩, .int .i64 0])) | skip); (try (replace hG : Has wr _ _ _ := hG; have hq0 := hG.cell 0; have hq1 := hG.cell 1; have hr0 := hG.free 0; have hr1 := hG.free 1; simp at hq0 hq1; have hGl := hG.lt)); (first | (replace hA : Has wr _ _ _ := (Bwr.block _ hA.lt).trans hA) | (replace hA : Has wr _ _ _ := (Bwr.block _ (hA.alloc (.cells #[.string ⟨#[]⟩, .int .i64 0] 24)).lt).trans (hA.alloc (.cells #[.string ⟨#[]⟩, .int .i64 0] 24)))); (first | (replace hB : Has wr _ _ _ := (Bwr.block _ hB.lt).trans hB) | (replace hB : Has wr _ _ _ := (Bwr.block _ (hB.alloc (.cells #[.string ⟨#[]⟩, .int .i64 0] 24)).lt).trans (hB.alloc (.cells #[.string ⟨#[]⟩, .int .i64 0] 24)))); (first | (replace bb : Below w.heap.size w wr := bel_then Bwr bb.size ⟨bb.os, bb.tape, bb.output, bb.size, bb.block⟩) | (replace bb : Below w.heap.size w wr := bel_then Bwr (bb.alloc bb.size (.cells #[.string ⟨#[]⟩, .int .i64 0] 24)).size ⟨(bb.alloc bb.size (.cells #[.string ⟨#[]⟩, .int .i64 0] 24)).os, (bb.alloc bb.size (.cells #[.string ⟨#[]⟩, .int .i64 0] 24)).tape, (bb.alloc bb.size (.cells #[.string ⟨#[]⟩, .int .i64 0] 24)).output, (bb.alloc bb.size (.cells #[.string ⟨#[]⟩, .int .i64 0] 24)).size, (bb.alloc bb.size (.cells #[.string ⟨#[]⟩, .int .i64 0] 24)).block⟩)); (first | (replace bc : Below wd.heap.size wd wr := bel_then Bwr bc.size ⟨bc.os, bc.tape, bc.output, bc.size, bc.block⟩) | (replace bc : Below wd.heap.size wd wr := bel_then Bwr (bc.alloc bc.size (.cells #[.string ⟨#[]⟩, .int .i64 0] 24)).size ⟨(bc.alloc bc.size (.cells #[.string ⟨#[]⟩, .int .i64 0] 24)).os, (bc.alloc bc.size (.cells #[.string ⟨#[]⟩, .int .i64 0] 24)).tape, (bc.alloc bc.size (.cells #[.string ⟨#[]⟩, .int .i64 0] 24)).output, (bc.alloc bc.size (.cells #[.string ⟨#[]⟩, .int .i64 0] 24)).size, (bc.alloc bc.size (.cells #[.string ⟨#[]⟩, .int .i64 0] 24)).block⟩)); have x0 := hA.cell 0; have x1 := hA.cell 1; have y0 := hB.cell 0; have y1 := hB.cell 1; simp at x0 x1 y0 y1; have lA := hA.lt; have lB := hB.lt; have nwr1 : ¬ w.heap.size = wr.heap.size := (by omega); have nwr2 : ¬ wr.heap.size = w.heap.size := (by omega); have nwr3 : ¬ w.heap.size + 1 = wr.heap.size := (by omega); have nwr4 : ¬ wr.heap.size = w.heap.size + 1 := (by omega); clear Bwr))
          all_goals
            go_wp2
            go_meet
            first
            | exact ⟨_, rfl, rfl, Has.fresh _ _ _, hA.alloc _, hB.alloc _, bb.alloc bb.size _, bc.alloc bc.size _⟩
            | exact ⟨_, rfl, rfl, by simpa using (hG.store 0 (.string X)).store 1 (.int .i64 N), (hA.storeAway (p := ⟨_, 0, none⟩) (by assumption) _).storeAway (p := ⟨_, 1, none⟩) (by assumption) _, (hB.storeAway (p := ⟨_, 0, none⟩) (by assumption) _).storeAway (p := ⟨_, 1, none⟩) (by assumption) _, (bb.setCell (p := ⟨_, 0, none⟩) (by (try simp); (try omega)) _).setCell (p := ⟨_, 1, none⟩) (by (try simp); (try omega)) _, (bc.setCell (p := ⟨_, 0, none⟩) (by (try simp); (try omega)) _).setCell (p := ⟨_, 1, none⟩) (by (try simp); (try omega)) _⟩
        case rest =>
          obtain ⟨g2, rfl, rfl, hG2, _, _, bb2, bc2⟩ := hcut
          replace hG1 := hG1.below bc2 hG1.lt
          have d0 := hG1.cell 0
          have d1 := hG1.cell 1
          have e0 := hG2.cell 0
          have e1 := hG2.cell 1
          simp at d0 d1 e0 e1
          go_wp2_with fail
          refine (eqBitsJ_same X N _).mono ?_
          rintro e we ⟨rfl, Be⟩
          go_wp2
          go_ret
          exact ⟨rfl, bel_then Be bb2.size bb2⟩
    · go_enter Try.func8, Try.ntmps8
      go_wp2_with fail
      refine (szBitsJ_ok s n 1048576 _ h1 (Nat.le_refl _)).mono ?_
      rintro e wa ⟨rfl, Ba⟩
      replace hB := hB.below Ba (by (try simp); (try omega))
      replace bb := bel_then Ba (by (try simp); (try omega)) bb
      have y0 := hB.cell 0
      have y1 := hB.cell 1
      simp at y0 y1
      go_wp2_with fail
      refine (szBitsJ_no t m (1048576 - s.size) _ (by omega) ht (by omega)).mono ?_
      rintro e wb ⟨rfl, Bb⟩
      replace bb := bel_then Bb bb.size bb
      go_wp2
      go_ret
      exact ⟨rfl, bb⟩
  · go_enter Try.func8, Try.ntmps8
    go_wp2_with fail
    refine (szBitsJ_no s n 1048576 _ (by omega) hs (Nat.le_refl _)).mono ?_
    rintro e wa ⟨rfl, Ba⟩
    replace bb := bel_then Ba (by (try simp); (try omega)) bb
    go_wp2
    go_ret
    exact ⟨rfl, bb⟩
end Go.Proofs.Ytbfkbiembbbbpaa
