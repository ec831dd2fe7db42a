/- Merged: I8U. -/
import Derived.Test.YtpdicijoohahaaaWW21
import Derived.Test.YtpdicijoohahaaaWW20
import Derived.Deep.RegionHeld3
namespace Go.Proofs.Ytpdicijoohahaaa
set_option linter.unusedVariables false
set_option linter.unusedSimpArgs false
open Go.RowKit

theorem sbr_meth (v : Value) (w : World) : (Go.method 224 60 v "loop.example/g00674/impl.encode").run Try.prog w = .ok (101, v) w := by kernel_rfl
theorem cf_toRankOf (args : Array Value) (W : World) : (callFunc 104 args).run Try.prog W = .ok (.enter 104 args) W := by kernel_rfl
theorem cf_toSymbolAt (args : Array Value) (W : World) : (callFunc 103 args).run Try.prog W = .ok (.enter 103 args) W := by kernel_rfl
set_option maxHeartbeats 1000000 in
set_option maxRecDepth 100000 in
theorem sbrEncode_any (r0 : Value) (a : Option Addr) (cap B m : Nat) (L : List Nat) (w : World) (hr0 : r0 = .agg #[]) (hz : Ints w B a (ints L)) (hB : B ≤ w.heap.size) (hm1 : 1 ≤ m) (hm2 : m ≤ 256) (hL6 : L.length ≤ 600) (hLm : ∀ x ∈ L, x < m) :
    Calls Try.prog 101 #[r0, .slice a L.length cap, .int .i64 m] w fun e w' => ∃ g, e = .returned (.agg #[.slice none 0 0, .slice (some ⟨g, 0, none⟩) L.length L.length]) ∧ w'.ownsRow w.heap.size 3 1 (.slice (some ⟨g, 0, none⟩) L.length L.length) L.length (natsL (runF (sbrF m) sb0 L)) ∧ Below w.heap.size w w' := by
  subst hr0
  have bb : Below w.heap.size w ((w.alloc (.cells #[] 60)).alloc (.cells #[.slice none 0 0, .slice none 0 0] 54)) := ((Below.refl _ _).alloc (Nat.le_refl _) _).alloc (by simp) _
  have hR := Has.freshAt (w := w.alloc (.cells #[] 60)) (g := w.heap.size + 1) (by simp) 54 #[.slice none 0 0, .slice none 0 0]
  have hX : ((w.alloc (.cells #[] 60)).alloc (.cells #[.slice none 0 0, .slice none 0 0] 54)).heap.size = w.heap.size + 2 := by simp
  have HZ := hidden hz
  have KF := hidden (fun (W : World) (g : Nat) (hg : W.heap.size = g) => timedOrderOf_any m W hm1 hm2 g hg)
  obtain ⟨n, hn⟩ : ∃ n, L.length = n := ⟨_, rfl⟩
  have KE := hidden (fun (h base E : Nat) (W : World) hz' hB' hbE hE h0 => eachK_any 104 (.pointer (some ⟨h, 0, none⟩)) (fun k W s => TO W base E h m k s) (sbrF m) base E B a cap L W sb0 hz' hB' hbE hE hL6 h0 cf_toRankOf
    (fun W W' s k hs hk => hs.keep hk) (fun W s x k hk hs hx => toRankOf_any base E h m k x s W hs (hLm x hx) hm2 (by omega)))
  rw [hn] at KE ⊢
  clear hz hn
  go_enter Try.func101, Try.ntmps101
  go_wp2_with fail
  refine (KF.out _ (w.heap.size + 2) hX).mono ?_
  rintro e w1 ⟨ob, rfl, hF1, b1⟩
  have s1 : w.heap.size + 2 ≤ w1.heap.size := by rw [← hX]; exact b1.size
  replace bb := bb.trans (b1.mono (by omega))
  replace hR := hR.below b1 (by omega)
  have hz1 := HZ.out.below (bb.mono hB)
  have K2 := hidden (KE.out ob (w.heap.size + 2) w1.heap.size w1 hz1 (by omega) s1 (Nat.le_refl _) hF1)
  clear hF1 b1 hz1 hX
  go_wp2_with fail
  refine K2.out.mono ?_
  rintro e w2 ⟨g, rfl, hown, b2⟩
  have hs1 : w.heap.size ≤ w1.heap.size := bb.size
  replace bb := bb.trans (b2.mono (by omega))
  replace hR := hR.below b2 (by omega)
  have HO := hidden (Joins.ownsRow_le hown hs1)
  have hgw := (hown.lt g rfl).1
  have e0 := hR.cell 0
  have e1 := hR.cell 1
  have g0 := hR.free 0
  have g1 := hR.free 1
  simp at e0 e1
  have hs2 := bb.size
  clear b2 hown
  go_wp2
  refine bodyPost_ret (v := .agg #[.slice none 0 0, .slice (some ⟨g, 0, none⟩) n n]) (by simp [results, Try.results101, go_sem, e0, e1, g0, g1]) rfl ⟨g, rfl, ?_, ?_⟩
  · exact ownsRow_setCell_other (ownsRow_setCell_other HO.out (by simp [Value.ownBlock]; omega) _) (by simp [Value.ownBlock]; omega) _
  · exact (bb.setCell (by simp) _).setCell (by simp) _
set_option maxHeartbeats 1000000 in
set_option maxRecDepth 100000 in
theorem sbrDecode_no (r0 : Value) (a : Option Addr) (cap B : Nat) (z : List Int) (m : Int) (w : World) (hr0 : r0 = .agg #[]) (hz : Ints w B a z) (hB : B ≤ w.heap.size) (hl : z.length ≤ 1048576) (n1 : -9223372036854775808 ≤ m) (n2 : m ≤ 9223372036854775807) (hno : rOk z m = false) :
    Calls Try.prog 100 #[r0, .agg #[.slice none 0 0, .slice a z.length cap], .int .i64 m] w fun e w' => e = .returned (.tuple #[.slice none 0 0, .bool false]) ∧ Below w.heap.size w w' := by
  subst hr0
  have bb : Below w.heap.size w ((w.alloc (.cells #[] 60)).alloc (.cells #[.slice none 0 0, .slice a z.length cap] 54)) := ((Below.refl _ _).alloc (Nat.le_refl _) _).alloc (by simp) _
  have KR := hidden (fun W hz' => implRanksOk_any a cap B z m W hz' hl n1 n2)
  rw [hno] at KR
  have HZ := hidden (hz.below (bb.mono hB))
  obtain ⟨n, hn⟩ : ∃ n, z.length = n := ⟨_, rfl⟩
  rw [hn] at KR HZ bb ⊢
  clear hz hn hno
  go_enter Try.func100, Try.ntmps100
  go_wp2_with fail
  refine (KR.out _ HZ.out).mono ?_
  rintro e w1 ⟨rfl, rfl⟩
  go_wp2
  go_ret2
  exact ⟨rfl, bb⟩
set_option maxHeartbeats 1000000 in
set_option maxRecDepth 100000 in
theorem sbrDecode_yes (r0 : Value) (a : Option Addr) (cap B m : Nat) (L : List Nat) (w : World) (hr0 : r0 = .agg #[]) (hz : Ints w B a (ints L)) (hB : B ≤ w.heap.size) (hok : rOk (ints L) m = true) (hm1 : 1 ≤ m) (hm2 : m ≤ 256) (hL6 : L.length ≤ 600) (hLm : ∀ x ∈ L, x < m) :
    Calls Try.prog 100 #[r0, .agg #[.slice none 0 0, .slice a L.length cap], .int .i64 m] w fun e w' => ∃ g, e = .returned (.tuple #[.slice (some ⟨g, 0, none⟩) L.length L.length, .bool true]) ∧ w'.ownsRow w.heap.size 3 1 (.slice (some ⟨g, 0, none⟩) L.length L.length) L.length (natsL (runF (usbF m) sb0 L)) ∧ Below w.heap.size w w' := by
  subst hr0
  have bb : Below w.heap.size w ((w.alloc (.cells #[] 60)).alloc (.cells #[.slice none 0 0, .slice a L.length cap] 54)) := ((Below.refl _ _).alloc (Nat.le_refl _) _).alloc (by simp) _
  have hX : ((w.alloc (.cells #[] 60)).alloc (.cells #[.slice none 0 0, .slice a L.length cap] 54)).drew.heap.size = w.heap.size + 2 := by simp
  have KR := hidden (fun W hz' => implRanksOk_any a cap B (ints L) m W hz' (by rw [ints_len]; omega) (by omega) (by omega))
  rw [hok, ints_len] at KR
  have HZ := hidden hz
  have HZ0 := hidden (hz.below (bb.mono hB))
  have KF := hidden (fun (W : World) (g : Nat) (hg : W.heap.size = g) => timedOrderOf_any m W hm1 hm2 g hg)
  obtain ⟨n, hn⟩ : ∃ n, L.length = n := ⟨_, rfl⟩
  have KE := hidden (fun (h base E : Nat) (W : World) hz' hB' hbE hE h0 => eachK_any 103 (.pointer (some ⟨h, 0, none⟩)) (fun k W s => TO W base E h m k s) (usbF m) base E B a cap L W sb0 hz' hB' hbE hE hL6 h0 cf_toSymbolAt
    (fun W W' s k hs hk => hs.keep hk) (fun W s x k hk hs hx => toSymbolAt_any base E h m k x s W hs (hLm x hx) hm2 (by omega)))
  rw [hn] at KE KR HZ0 bb hX ⊢
  clear hz hn hok
  go_enter Try.func100, Try.ntmps100
  go_wp2_with fail
  refine (KR.out _ HZ0.out).mono ?_
  rintro e w1 ⟨rfl, rfl⟩
  have hc1 : ((w.alloc (.cells #[] 60)).alloc (.cells #[.slice none 0 0, .slice a n cap] 54)).cell? ⟨w.heap.size + 1, 1, none⟩ = some (.slice a n cap) := (Has.freshAt (w := w.alloc (.cells #[] 60)) (g := w.heap.size + 1) (by simp) _ _).cell 1
  clear HZ0
  go_wp2
  have hle2 : w.heap.size ≤ w.heap.size + 2 := Nat.le_add_right _ _
  have hlt2 : w.heap.size + 1 < w.heap.size + 2 := Nat.lt_succ_self _
  go_region_held3 (fun w' => w'.cell? ⟨w.heap.size + 1, 1, none⟩ = some (.slice a n cap)) (go_keep) (first | (go_at_call 102; refine (KF.out _ (w.heap.size + 2) ?hg).mono ?_; (case hg => first | exact hX | simp); rintro e w2 ⟨ob, rfl, hF1, b1⟩; have s1 : w.heap.size + 2 ≤ w2.heap.size := Nat.le_trans (Nat.le_of_eq hX.symm) b1.size; have ec2 : w2.cell? ⟨w.heap.size + 1, 1, none⟩ = some (.slice a n cap) := (b1.cell (p := ⟨w.heap.size + 1, 1, none⟩) hlt2).trans hc1; have bm := b1.mono hle2; replace bb : Below w.heap.size w w2 := ⟨bm.os.trans bb.os, bm.tape.trans bb.tape, bm.output.trans bb.output, Nat.le_trans bb.size bm.size, fun i hi => (bm.block i hi).trans (bb.block i hi)⟩; have hz1 := HZ.out.below (bb.mono hB); have K2 := hidden (KE.out ob (w.heap.size + 2) w2.heap.size w2 hz1 (Nat.le_trans hB hle2) s1 (Nat.le_refl _) hF1); clear hF1 b1 hz1 hX bm) | (go_at_call 95; refine K2.out.mono ?_; rintro e w3 ⟨g, rfl, hown, b2⟩; have hs1 : w.heap.size ≤ w2.heap.size := bb.size; have ec3 : w3.cell? ⟨w.heap.size + 1, 1, none⟩ = some (.slice a n cap) := (b2.cell (p := ⟨w.heap.size + 1, 1, none⟩) hlt2).trans ec2; have bm2 := b2.mono hle2; replace bb := bb.trans bm2; have HO := hidden (Joins.ownsRow_le hown hs1); clear b2 hown bm2))
  all_goals
    go_wp2
    go_ret2
    exact ⟨g, rfl, HO.out, bb⟩
set_option maxHeartbeats 1000000 in
set_option maxRecDepth 100000 in
theorem encodedSbr_yes (a : Option Addr) (cap B m : Nat) (L : List Nat) (w : World) (hz : Ints w B a (ints L)) (hB : B ≤ w.heap.size) (hok : rOk (ints L) m = true) (hm1 : 1 ≤ m) (hm2 : m ≤ 256) (hL6 : L.length ≤ 600) (hLm : ∀ x ∈ L, x < m) :
    Calls Try.prog 48 #[.iface 60 (.agg #[]), .slice a L.length cap, .int .i64 m] w fun e w' => ∃ g, e = .returned (.agg #[.slice none 0 0, .slice (some ⟨g, 0, none⟩) L.length L.length]) ∧ w'.ownsRow w.heap.size 3 1 (.slice (some ⟨g, 0, none⟩) L.length L.length) L.length (natsL (runF (sbrF m) sb0 L)) ∧ Below w.heap.size w w' := by
  have bb : Below w.heap.size w (w.alloc (.cells #[.slice none 0 0, .slice none 0 0] 54)) := (Below.refl _ _).alloc (Nat.le_refl _) _
  have hR := Has.fresh w 54 #[.slice none 0 0, .slice none 0 0]
  have hz0 := hz.below (bb.mono hB)
  have hX : (w.alloc (.cells #[.slice none 0 0, .slice none 0 0] 54)).heap.size = w.heap.size + 1 := by simp
  have KR := hidden (implRanksOk_any a cap B (ints L) m _ hz0 (by rw [ints_len]; omega) (by omega) (by omega))
  rw [hok, ints_len] at KR
  have KE := hidden (sbrEncode_any (.agg #[]) a cap B m L _ rfl hz0 (by rw [hX]; omega) hm1 hm2 hL6 hLm)
  rw [hX] at KE
  have hme := sbr_meth (.agg #[])
  obtain ⟨n, hn⟩ : ∃ n, L.length = n := ⟨_, rfl⟩
  rw [hn] at KE KR ⊢
  clear hz hn hok hz0 hX
  go_enter Try.func48, Try.ntmps48
  go_wp2_with fail
  refine KR.out.mono ?_
  rintro e w1 ⟨rfl, rfl⟩
  go_wp2_with fail
  refine KE.out.mono ?_
  rintro e w2 ⟨g, rfl, hown, b2⟩
  have hgw := (hown.lt g rfl).1
  replace hR := hR.below b2 (by omega)
  replace bb := bb.trans (b2.mono (by omega))
  have HO := hidden (Joins.ownsRow_le hown (Nat.le_succ _))
  have e0 := hR.cell 0
  have e1 := hR.cell 1
  have g0 := hR.free 0
  have g1 := hR.free 1
  simp at e0 e1
  have hs2 := bb.size
  clear b2 hown
  go_wp2
  refine bodyPost_ret (v := .agg #[.slice none 0 0, .slice (some ⟨g, 0, none⟩) n n]) (by simp [results, Try.results48, go_sem, e0, e1, g0, g1]) rfl ⟨g, rfl, ?_, ?_⟩
  · exact ownsRow_setCell_other (ownsRow_setCell_other HO.out (by simp [Value.ownBlock]; omega) _) (by simp [Value.ownBlock]; omega) _
  · exact (bb.setCell (by simp) _).setCell (by simp) _
theorem sbr_dmeth (v : Value) (w : World) : (Go.method 224 60 v "loop.example/g00674/impl.decode").run Try.prog w = .ok (100, v) w := by kernel_rfl
set_option maxHeartbeats 1000000 in
set_option maxRecDepth 100000 in
theorem decodedSbr_yes (a : Option Addr) (cap B m : Nat) (L : List Nat) (w : World) (hz : Ints w B a (ints L)) (hB : B ≤ w.heap.size) (hok : rOk (ints L) m = true) (hm1 : 1 ≤ m) (hm2 : m ≤ 256) (hL6 : L.length ≤ 600) (hLm : ∀ x ∈ L, x < m) :
    Calls Try.prog 45 #[.iface 60 (.agg #[]), .agg #[.slice none 0 0, .slice a L.length cap], .int .i64 m] w fun e w' => ∃ g, e = .returned (.tuple #[.slice (some ⟨g, 0, none⟩) L.length L.length, .bool true]) ∧ w'.ownsRow w.heap.size 3 1 (.slice (some ⟨g, 0, none⟩) L.length L.length) L.length (natsL (runF (usbF m) sb0 L)) ∧ Below w.heap.size w w' := by
  have bb : Below w.heap.size w (w.alloc (.cells #[.slice none 0 0, .slice a L.length cap] 54)) := (Below.refl _ _).alloc (Nat.le_refl _) _
  have hR := Has.fresh w 54 #[.slice none 0 0, .slice a L.length cap]
  have hX : (w.alloc (.cells #[.slice none 0 0, .slice a L.length cap] 54)).heap.size = w.heap.size + 1 := by simp
  have KE := hidden (sbrDecode_yes (.agg #[]) a cap B m L _ rfl (hz.below (bb.mono hB)) (by rw [hX]; omega) hok hm1 hm2 hL6 hLm)
  rw [hX] at KE
  have hme := sbr_dmeth (.agg #[])
  obtain ⟨n, hn⟩ : ∃ n, L.length = n := ⟨_, rfl⟩
  rw [hn] at KE hR bb ⊢
  have e0 := hR.cell 0
  have e1 := hR.cell 1
  simp at e0 e1
  clear hz hn hok hX hR
  go_enter Try.func45, Try.ntmps45
  go_wp2_with fail
  refine KE.out.mono ?_
  rintro e w2 ⟨g, rfl, hown, b2⟩
  have HO := hidden (Joins.ownsRow_le hown (Nat.le_succ _))
  replace bb := bb.trans (b2.mono (by omega))
  clear b2 hown
  go_wp2
  go_ret2
  exact ⟨g, rfl, HO.out, bb⟩
set_option maxHeartbeats 1000000 in
set_option maxRecDepth 100000 in
theorem decodedSbr_no (a : Option Addr) (cap B : Nat) (z : List Int) (m : Int) (w : World) (hz : Ints w B a z) (hB : B ≤ w.heap.size) (hl : z.length ≤ 1048576) (n1 : -9223372036854775808 ≤ m) (n2 : m ≤ 9223372036854775807) (hno : rOk z m = false) :
    Calls Try.prog 45 #[.iface 60 (.agg #[]), .agg #[.slice none 0 0, .slice a z.length cap], .int .i64 m] w fun e w' => e = .returned (.tuple #[.slice none 0 0, .bool false]) ∧ Below w.heap.size w w' := by
  have bb : Below w.heap.size w (w.alloc (.cells #[.slice none 0 0, .slice a z.length cap] 54)) := (Below.refl _ _).alloc (Nat.le_refl _) _
  have hR := Has.fresh w 54 #[.slice none 0 0, .slice a z.length cap]
  have hX : (w.alloc (.cells #[.slice none 0 0, .slice a z.length cap] 54)).heap.size = w.heap.size + 1 := by simp
  have KE := hidden (sbrDecode_no (.agg #[]) a cap B z m _ rfl (hz.below (bb.mono hB)) (by rw [hX]; omega) hl n1 n2 hno)
  rw [hX] at KE
  have hme := sbr_dmeth (.agg #[])
  obtain ⟨n, hn⟩ : ∃ n, z.length = n := ⟨_, rfl⟩
  rw [hn] at KE hR bb ⊢
  have e0 := hR.cell 0
  have e1 := hR.cell 1
  simp at e0 e1
  clear hz hn hno hX hR
  go_enter Try.func45, Try.ntmps45
  go_wp2_with fail
  refine KE.out.mono ?_
  rintro e w2 ⟨rfl, b2⟩
  replace bb := bb.trans (b2.mono (by omega))
  clear b2
  go_wp2
  go_ret2
  exact ⟨rfl, bb⟩
set_option maxHeartbeats 1000000 in
set_option maxRecDepth 100000 in
theorem implSbr_any (a : Option Addr) (cap B : Nat) (z : List Int) (n : Int) (w : World) (hz : Ints w B a z) (hB : B ≤ w.heap.size) (hl : z.length ≤ 1048576) (n1 : -9223372036854775808 ≤ n) (n2 : n ≤ 9223372036854775807) :
    Calls Try.prog 35 #[.slice a z.length cap, .int .i64 n] w fun e w' => ∃ v, e = .returned v ∧ w'.ownsRow w.heap.size 3 1 v (sbrZ z n).length (intsV (sbrZ z n)) ∧ Below w.heap.size w w' := by
  by_cases hok : rOk z n = true
  · obtain ⟨L, m, rfl, rfl, hm1, hm2, hL6, hLm⟩ := rOk_nats hok
    rw [sbrZ_yes hok, intsV_ints, ints_len, ints_len, runF_len]
    have KE := hidden (encodedSbr_yes a cap B m L w hz hB hok hm1 hm2 hL6 hLm)
    obtain ⟨q, hq⟩ : ∃ q, L.length = q := ⟨_, rfl⟩
    rw [hq] at KE ⊢
    clear hz hok hq
    have hfd := field8_1
    go_enter Try.func35, Try.ntmps35
    go_wp2_with fail
    refine KE.out.mono ?_
    rintro e w2 ⟨g, rfl, hown, b2⟩
    go_wp2
    go_ret
    exact ⟨_, rfl, hown, b2⟩
  · have hno := bool_false hok
    have KE := hidden (encodedMtf_no (.iface 60 (.agg #[])) a cap B z n w hz hB hl n1 n2 hno)
    rw [sbrZ_no hno]
    clear hz hok hno
    have hfd := field8_1
    go_enter Try.func35, Try.ntmps35
    go_wp2_with fail
    refine KE.out.mono ?_
    rintro e w2 ⟨rfl, b2⟩
    go_wp2
    go_ret
    exact ⟨_, rfl, World.ownsRow_nil _ _ _ _, b2⟩
set_option maxHeartbeats 1000000 in
set_option maxRecDepth 100000 in
theorem implUnSbr_any (a : Option Addr) (cap B : Nat) (z : List Int) (n : Int) (w : World) (hz : Ints w B a z) (hB : B ≤ w.heap.size) (hl : z.length ≤ 1048576) (n1 : -9223372036854775808 ≤ n) (n2 : n ≤ 9223372036854775807) :
    Calls Try.prog 36 #[.slice a z.length cap, .int .i64 n] w fun e w' => ∃ v, e = .returned v ∧ w'.ownsRow w.heap.size 3 1 v (usbZ z n).length (intsV (usbZ z n)) ∧ Below w.heap.size w w' := by
  by_cases hok : rOk z n = true
  · obtain ⟨L, m, rfl, rfl, hm1, hm2, hL6, hLm⟩ := rOk_nats hok
    rw [usbZ_yes hok, intsV_ints, ints_len, ints_len, runF_len]
    have KE := hidden (decodedSbr_yes a cap B m L w hz hB hok hm1 hm2 hL6 hLm)
    obtain ⟨q, hq⟩ : ∃ q, L.length = q := ⟨_, rfl⟩
    rw [hq] at KE ⊢
    clear hz hok hq
    go_enter Try.func36, Try.ntmps36
    go_wp2_with fail
    refine KE.out.mono ?_
    rintro e w2 ⟨g, rfl, hown, b2⟩
    go_wp2
    go_ret
    exact ⟨_, rfl, hown, b2⟩
  · have hno := bool_false hok
    have KE := hidden (decodedSbr_no a cap B z n w hz hB hl n1 n2 hno)
    rw [usbZ_no hno]
    clear hz hok hno
    go_enter Try.func36, Try.ntmps36
    go_wp2_with fail
    refine KE.out.mono ?_
    rintro e w2 ⟨rfl, b2⟩
    go_wp2
    go_ret
    exact ⟨_, rfl, World.ownsRow_nil _ _ _ _, b2⟩
end Go.Proofs.Ytpdicijoohahaaa
