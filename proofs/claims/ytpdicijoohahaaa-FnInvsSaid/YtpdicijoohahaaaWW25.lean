/- Merged: I8W. -/
import Derived.Test.YtpdicijoohahaaaWW18
import Derived.Test.YtpdicijoohahaaaWW20
namespace Go.Proofs.Ytpdicijoohahaaa
set_option linter.unusedVariables false
set_option linter.unusedSimpArgs false
open Go.RowKit

theorem inv_meth (v : Value) (w : World) : (Go.method 224 52 v "loop.example/g00674/impl.encode").run Try.prog w = .ok (80, v) w := by kernel_rfl
set_option maxHeartbeats 1000000 in
set_option maxRecDepth 100000 in
theorem encodedInv_yes (a : Option Addr) (cap B m : Nat) (L : List Nat) (w : World) (hz : Ints w B a (ints L)) (hB : B ≤ w.heap.size) (hok : rOk (ints L) m = true) (hm1 : 1 ≤ m) (hm2 : m ≤ 256) (hL6 : L.length ≤ 600) (hLm : ∀ x ∈ L, x < m) :
    Calls Try.prog 48 #[.iface 52 (.agg #[]), .slice a L.length cap, .int .i64 m] w fun e w' => ∃ cb aG nG cG, e = .returned (.agg #[.slice (some ⟨cb, 0, none⟩) m m, .slice aG nG cG]) ∧ w'.ownsRow w.heap.size 3 1 (.slice (some ⟨cb, 0, none⟩) m m) m (natsL ((List.range m).map fun x => L.count x)) ∧ w'.ownsRow w.heap.size 3 1 (.slice aG nG cG) (gapsTo L (m - 1)).length (natsL (gapsTo L (m - 1))) ∧ Hid ((Value.slice aG nG cG).ownBlock ≠ some cb) ∧ Below w.heap.size w w' := by
  have bb : Below w.heap.size w (w.alloc (.cells #[.slice none 0 0, .slice none 0 0] 54)) := (Below.refl _ _).alloc (Nat.le_refl _) _
  have hR := Has.fresh w 54 #[.slice none 0 0, .slice none 0 0]
  have hz0 := hz.below (bb.mono hB)
  have hX : (w.alloc (.cells #[.slice none 0 0, .slice none 0 0] 54)).heap.size = w.heap.size + 1 := by simp
  have KR := hidden (implRanksOk_any a cap B (ints L) m _ hz0 (by rw [ints_len]; omega) (by omega) (by omega))
  rw [hok, ints_len] at KR
  have KE := hidden (invEncode_any (.agg #[]) a cap B m L _ rfl hz0 (by rw [hX]; omega) hm1 hm2 hL6 hLm)
  rw [hX] at KE
  have hme := inv_meth (.agg #[])
  obtain ⟨n, hn⟩ : ∃ n, L.length = n := ⟨_, rfl⟩
  rw [hn] at KE KR ⊢
  clear hz hn hok hz0 hX
  go_enter Try.func48, Try.ntmps48
  go_wp2_with fail
  refine KR.out.mono ?_
  rintro e w1 ⟨rfl, rfl⟩
  go_wp2_with fail
  refine KE.out.mono ?_
  rintro e w2 ⟨cb, aG, nG, cG, rfl, hown, hownG, HAp, b2⟩
  replace hR := hR.below b2 (by omega)
  replace bb := bb.trans (b2.mono (by omega))
  have HO := hidden hown
  have HOG := hidden hownG
  have e0 := hR.cell 0
  have e1 := hR.cell 1
  have g0 := hR.free 0
  have g1 := hR.free 1
  simp at e0 e1
  have hs2 := bb.size
  clear b2 hown hownG
  go_wp2
  refine bodyPost_ret (v := .agg #[.slice (some ⟨cb, 0, none⟩) m m, .slice aG nG cG]) (by simp [results, Try.results48, go_sem, e0, e1, g0, g1]) rfl ⟨cb, aG, nG, cG, rfl, ?_, ?_, HAp, ?_⟩
  · exact Joins.ownsRow_le (own_away (own_away HO.out (p := ⟨w.heap.size, 0, none⟩) (Nat.lt_succ_self _) _) (p := ⟨w.heap.size, 1, none⟩) (Nat.lt_succ_self _) _) (Nat.le_succ _)
  · exact Joins.ownsRow_le (own_away (own_away HOG.out (p := ⟨w.heap.size, 0, none⟩) (Nat.lt_succ_self _) _) (p := ⟨w.heap.size, 1, none⟩) (Nat.lt_succ_self _) _) (Nat.le_succ _)
  · exact (bb.setCell (by simp) _).setCell (by simp) _
set_option maxHeartbeats 1000000 in
set_option maxRecDepth 100000 in
theorem implInv_any (a : Option Addr) (cap B : Nat) (z : List Int) (n : Int) (w : World) (hz : Ints w B a z) (hB : B ≤ w.heap.size) (hl : z.length ≤ 1048576) (n1 : -9223372036854775808 ≤ n) (n2 : n ≤ 9223372036854775807) :
    Calls Try.prog 38 #[.slice a z.length cap, .int .i64 n] w fun e w' => ∃ v0 v1, e = .returned (.tuple #[v0, v1]) ∧ w'.ownsRow w.heap.size 3 1 v0 (invC z n).length (intsV (invC z n)) ∧ w'.ownsRow w.heap.size 3 1 v1 (invG z n).length (intsV (invG z n)) ∧ Hid (∀ k, v0.ownBlock = some k → v1.ownBlock ≠ some k) ∧ Below w.heap.size w w' := by
  by_cases hok : rOk z n = true
  · obtain ⟨L, m, rfl, rfl, hm1, hm2, hL6, hLm⟩ := rOk_nats hok
    rw [invC_yes hok, invG_yes hok, intsV_ints, intsV_ints, ints_len, ints_len, ints_len, List.length_map, List.length_range]
    have KE := hidden (encodedInv_yes a cap B m L w hz hB hok hm1 hm2 hL6 hLm)
    obtain ⟨q, hq⟩ : ∃ q, L.length = q := ⟨_, rfl⟩
    rw [hq] at KE ⊢
    have hfd := field8_1
    have hfe := field8_0
    clear hz hok hq
    go_enter Try.func38, Try.ntmps38
    go_wp2_with fail
    refine KE.out.mono ?_
    rintro e w2 ⟨cb, aG, nG, cG, rfl, hown, hownG, HAp, b2⟩
    have hb3 : Below w.heap.size w (w2.alloc (.cells #[.slice (some ⟨cb, 0, none⟩) m m, .slice aG nG cG] 54)) := b2.alloc b2.size _
    have hO3 := hown.alloc (.cells #[.slice (some ⟨cb, 0, none⟩) m m, .slice aG nG cG] 54)
    have hG3 := hownG.alloc (.cells #[.slice (some ⟨cb, 0, none⟩) m m, .slice aG nG cG] 54)
    obtain ⟨W3, hW3⟩ : ∃ W, W = w2.alloc (.cells #[.slice (some ⟨cb, 0, none⟩) m m, .slice aG nG cG] 54) := ⟨_, rfl⟩
    have hc : Has W3 w2.heap.size 54 #[.slice (some ⟨cb, 0, none⟩) m m, .slice aG nG cG] := by rw [hW3]; exact Has.fresh _ _ _
    have c0 := hc.cell 0
    have c1 := hc.cell 1
    simp at c0 c1
    clear hc
    go_wp2
    rw [← hW3] at hb3 hO3 hG3 ⊢
    have HO3 := hidden hO3
    have HG3 := hidden hG3
    have HB3 := hidden hb3
    clear hW3 hown hownG b2 hO3 hG3 hb3
    go_big_quiet (fail)
    go_wp2
    go_ret2
    exact ⟨_, _, rfl, HO3.out, HG3.out, hidden (fun k hk => by
      simp [Value.ownBlock] at hk
      rw [← hk]
      exact HAp.out), bel_drewN HB3.out nq⟩
  · have hno := bool_false hok
    have KE := hidden (encodedMtf_no (.iface 52 (.agg #[])) a cap B z n w hz hB hl n1 n2 hno)
    rw [invC_no hno, invG_no hno]
    clear hz hok hno
    go_enter Try.func38, Try.ntmps38
    go_wp2_with fail
    refine KE.out.mono ?_
    rintro e w2 ⟨rfl, b2⟩
    have hb3 : Below w.heap.size w (w2.alloc (.cells #[.slice none 0 0, .slice none 0 0] 54)) := b2.alloc b2.size _
    obtain ⟨W3, hW3⟩ : ∃ W, W = w2.alloc (.cells #[.slice none 0 0, .slice none 0 0] 54) := ⟨_, rfl⟩
    have hc : Has W3 w2.heap.size 54 #[.slice none 0 0, .slice none 0 0] := by rw [hW3]; exact Has.fresh _ _ _
    have c0 := hc.cell 0
    have c1 := hc.cell 1
    simp at c0 c1
    clear hc
    go_wp2
    rw [← hW3] at hb3 ⊢
    have HB3 := hidden hb3
    clear hW3 b2 hb3
    go_big_quiet (fail)
    go_wp2
    go_ret2
    exact ⟨_, _, rfl, World.ownsRow_nil _ _ _ _, World.ownsRow_nil _ _ _ _, hidden (fun k hk => by simp [Value.ownBlock] at hk), bel_drewN HB3.out nq⟩
end Go.Proofs.Ytpdicijoohahaaa
