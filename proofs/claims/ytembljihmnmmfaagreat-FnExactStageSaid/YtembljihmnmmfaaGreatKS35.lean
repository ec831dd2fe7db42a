/- Texts of the proof, merged. -/
import Derived.Stop.Asserts
import Derived.Test.YtembljihmnmmfaaGreatKS27
import Derived.Test.YtembljihmnmmfaaGreatKS25
namespace Go.Proofs.YtembljihmnmmfaaGreat
set_option linter.unusedVariables false
set_option linter.unusedSimpArgs false
open Go.RowKit

set_option maxHeartbeats 1000000 in
set_option maxRecDepth 100000 in
theorem encodedMtf_yes (a : Option Addr) (cap B m : Nat) (L : List Nat) (w : World) (hz : Ints w B a (ints L)) (hB : B ≤ w.heap.size) (hok : rOk (ints L) m = true) (hm2 : m ≤ 256) (hL6 : L.length ≤ 600) (hLm : ∀ x ∈ L, x < m) :
    Calls Tryz.prog 96 #[.iface 83 (.agg #[]), .slice a L.length cap, .int .i64 m] w fun e w' => ∃ g, e = .returned (.agg #[.slice none 0 0, .slice (some ⟨g, 0, none⟩) L.length L.length]) ∧ w'.ownsRow w.heap.size 3 1 (.slice (some ⟨g, 0, none⟩) L.length L.length) L.length (natsL (runF mtfF (List.range m) L)) ∧ Below w.heap.size w w' := by
  have bb : Below w.heap.size w (w.alloc (.cells #[.slice none 0 0, .slice none 0 0] 87)) := (Below.refl _ _).alloc (Nat.le_refl _) _
  have hR := Has.fresh w 87 #[.slice none 0 0, .slice none 0 0]
  have hz0 := hz.below (bb.mono hB)
  have hX : (w.alloc (.cells #[.slice none 0 0, .slice none 0 0] 87)).heap.size = w.heap.size + 1 := by simp
  have KR := hidden (implRanksOk_any a cap B (ints L) m _ hz0 (by rw [ints_len]; omega) (by omega) (by omega))
  rw [hok, ints_len] at KR
  have KE := hidden (mtfEncode_any (.agg #[]) a cap B m L _ rfl hz0 (by rw [hX]; omega) hm2 hL6 hLm)
  rw [hX] at KE
  have hme := mtf_meth (.agg #[])
  obtain ⟨n, hn⟩ : ∃ n, L.length = n := ⟨_, rfl⟩
  rw [hn] at KE KR ⊢
  clear hz hn hok hz0 hX
  go_enter Tryz.func96, Tryz.ntmps96
  go_wp2_with fail
  refine KR.out.mono ?_
  rintro e w1 ⟨rfl, rfl⟩
  go_wp2_with fail
  refine KE.out.mono ?_
  rintro e w2 ⟨g, rfl, hown, b2⟩
  have hgw := (hown.lt g rfl).1
  replace hR := hR.below b2 (by omega)
  replace bb := bb.trans (b2.mono (by omega))
  have HO := hidden (Joins.ownsRow_le hown (Nat.le_succ _))
  have e0 := hR.cell 0
  have e1 := hR.cell 1
  have g0 := hR.free 0
  have g1 := hR.free 1
  simp at e0 e1
  have hs2 := bb.size
  clear b2 hown
  go_wp2
  refine bodyPost_ret (v := .agg #[.slice none 0 0, .slice (some ⟨g, 0, none⟩) n n]) (by simp [results, Tryz.results96, go_sem, e0, e1, g0, g1]) rfl ⟨g, rfl, ?_, ?_⟩
  · exact ownsRow_setCell_other (ownsRow_setCell_other HO.out (by simp [Value.ownBlock]; omega) _) (by simp [Value.ownBlock]; omega) _
  · exact (bb.setCell (by simp) _).setCell (by simp) _
theorem field8_1 (u v : Value) (W : World) : (Instr.field 87 (.agg #[u, v]) 1).run Tryz.prog W = .ok v W := by kernel_rfl
end Go.Proofs.YtembljihmnmmfaaGreat
namespace Go.Proofs.YtembljihmnmmfaaGreat
set_option linter.unusedVariables false
set_option linter.unusedSimpArgs false
open Go.RowKit

/-- The transform of a way, as an interface value. -/
def recV (m : Nat) : Value := if m = 1 then .iface 83 (.agg #[]) else if m = 2 then .iface 84 (.agg #[]) else .iface 85 (.agg #[])
def methV (m : Nat) (b : Bool) (t : Int) : Value :=
  if m = 0 then .iface 70 (.agg #[]) else if m = 3 then .iface 59 (.agg #[recV 3, .bool b]) else .iface 53 (.agg #[recV m, .bool b, .int .i64 t])
set_option maxHeartbeats 1000000 in
set_option maxRecDepth 100000 in
theorem methodOf_any (m : Nat) (t : Int) (b : Bool) (w : World) (hm : m ≤ 3) :
    Calls Tryz.prog 28 #[.agg #[.int .i64 m, .bool b, .int .i64 t]] w fun e w' => e = .returned (methV m b t) ∧ Below w.heap.size w w' := by
  rcases (by omega : m = 0 ∨ m = 1 ∨ m = 2 ∨ m = 3) with rfl | rfl | rfl | rfl
  all_goals
    go_enter Tryz.func28, Tryz.ntmps28
    go_wp2
    go_ret
    exact ⟨rfl, (Below.refl _ _).alloc (Nat.le_refl _) _⟩
theorem as_tabled_tabled (v : Value) (W : World) : (Instr.typeAssert (.iface 53 v) 20 53 true).run Tryz.prog W = .ok (.tuple #[v, .bool true]) W := by kernel_rfl
theorem as_counted_tabled (v : Value) (W : World) : (Instr.typeAssert (.iface 59 v) 20 53 true).run Tryz.prog W = .ok (.tuple #[.agg #[.nilIface, .bool false, .int .i64 0], .bool false]) W := by kernel_rfl
theorem as_counted_counted (v : Value) (W : World) : (Instr.typeAssert (.iface 59 v) 20 59 true).run Tryz.prog W = .ok (.tuple #[v, .bool true]) W := by kernel_rfl
theorem as_stored_tabled (v : Value) (W : World) : (Instr.typeAssert (.iface 70 v) 20 53 true).run Tryz.prog W = .ok (.tuple #[.agg #[.nilIface, .bool false, .int .i64 0], .bool false]) W := by kernel_rfl
theorem as_stored_counted (v : Value) (W : World) : (Instr.typeAssert (.iface 70 v) 20 59 true).run Tryz.prog W = .ok (.tuple #[.agg #[.nilIface, .bool false], .bool false]) W := by kernel_rfl
end Go.Proofs.YtembljihmnmmfaaGreat
