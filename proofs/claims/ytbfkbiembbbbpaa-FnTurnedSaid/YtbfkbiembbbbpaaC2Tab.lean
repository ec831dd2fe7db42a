/- Chapter 2: the table of 256 entries, and a string by the table. -/
import Derived.Test.YtbfkbiembbbbpaaC2Step
import Derived.Test.YtbfkbiembbbbpaaMem
import Derived.Deep.WholeRow
import Derived.Deep.LoopGhost
import Derived.Laws.CopyOwn
import Derived.Laws.ResultCell
namespace Go.Proofs.Ytbfkbiembbbbpaa
set_option linter.unusedVariables false
set_option linter.unusedSimpArgs false
open Go.RowKit

/-- The first k cells of the table are entered. -/
def tabK (k : Nat) : Array Value := ((List.range 256).map fun j => Value.int .u32 (if j < k then (entry j : Int) else 0)).toArray
theorem tabK_size (k : Nat) : (tabK k).size = 256 := by simp [tabK]
theorem tabK_one (k : Nat) : (tabK k).all (·.oneCell') = true := by simp [tabK, Value.oneCell']
theorem tabK_zero : tabK 0 = Array.replicate 256 (.int .u32 0) := by
  apply Array.ext
  · simp [tabK]
  · intro i h1 h2; simp [tabK]
theorem tabK_next (k : Nat) (h : k < 256) : (tabK k).setIfInBounds k (.int .u32 (entry k)) = tabK (k + 1) := by
  apply Array.ext
  · simp [tabK]
  · intro i h1 h2
    by_cases e : k = i
    · subst e; simp [tabK]
    · have : (i < k + 1) ↔ i < k := by omega
      simp [tabK, Array.getElem_setIfInBounds, e, this]
theorem tabK_get (k : Nat) (h : k < 256) : (tabK 256)[k]? = some (.int .u32 (entry k)) := by simp [tabK, h]

theorem wp_load_has {P : Program} {op : Oper} {a : Act} {w : World} {K : Act → World → Prop} {Q : Exit → Act → World → Prop} (ty : TypeId) (x : Operand) (ho : op.op = .load ty x)
    (g : Nat) (hx : a.eval x = .pointer (some ⟨g, 0, none⟩)) (t : TypeId) (cs : Array Value) (d : TypeDesc) (hH : Has w g t cs)
    (hu : P.underlying ty = some d) (hd : (match d with | .struct _ | .array _ _ => true | _ => false) = true) (hi : (P.info? ty).map (·.size) = some cs.size)
    (h : K (a.put op.dst (.agg cs)) w) : op.wp P a w K Q := by
  unfold Oper.wp execOp
  simp only [ho, hx, Instr.loadAt, Instr.sureAddr, Sem.run_bind, Sem.run_pure, Result.andThen_ok, run_loadVar_row w g t ty cs (0, 0) d hH hu hd hi]
  exact h
theorem wp_store_has {P : Program} {op : Oper} {a : Act} {w : World} {K : Act → World → Prop} {Q : Exit → Act → World → Prop} (ty : TypeId) (x y : Operand) (ho : op.op = .store ty x y)
    (g : Nat) (t : TypeId) (old cs : Array Value) (hx : a.eval x = .pointer (some ⟨g, 0, none⟩)) (hy : a.eval y = .agg cs) (hH : Has w g t old)
    (hi : (P.info? ty).map (·.size) = some cs.size) (hsz : old.size = cs.size) (h1 : cs.all (·.oneCell') = true)
    (h : K (a.put op.dst undef) (w.setRow g cs)) : op.wp P a w K Q := by
  unfold Oper.wp execOp
  simp only [ho, hx, hy, Instr.storeAt, Instr.sureAddr, Sem.run_bind, Sem.run_pure, Result.andThen_ok, run_storeVar_row w g t ty old cs hH hi hsz h1]
  exact h
theorem Has.setRow {w : World} {g : Nat} {t : TypeId} {cs : Array Value} (h : Has w g t cs) (new : Array Value) : Has (w.setRow g new) g t new := setRow_heap w g cs new t (0, 0) h

theorem results_cell {fn : Func} {p : Tmp} {ty : TypeId} (h : fn.results = #[.cell p ty]) (tmps : Array Value) (P : Program) (w : World) :
    (results fn tmps).run P w = ((asAddr (tmps.getD p undef)).run P w).andThen fun a w1 => (loadVar ty a).run P w1 := by
  simp only [results, h]
  simp [Sem.run_bind, Result.andThen]
theorem Try.zero80 : (Try.prog.info? 80).map (fun i => (i.zero, i.size)) = some (some (.agg (Array.replicate 256 (.int .u32 0))), 256) := by kernel_rfl
set_option maxHeartbeats 1000000 in
set_option maxRecDepth 1000000 in
theorem newCrcTable_any (w : World) :
    Calls Try.prog 58 #[] w fun e w' => e = .returned (.agg (tabK 256)) ∧ Below w.heap.size w w' := by
  obtain ⟨z80, i80⟩ := zero_of_info Try.zero80
  go_enter Try.func58, Try.ntmps58
  go_wp2
  rw [← tabK_zero]
  clear z80
  go_loopg [3] 256 (fun g i wr => ∃ k : Nat, k + g = 256 ∧ i = .int .i64 k ∧ Has wr w.heap.size 80 (tabK 0) ∧ Has wr (w.heap.size + 1) 80 (tabK k) ∧ Below w.heap.size w wr)
  case atStart => exact ⟨0, by omega, rfl, (Has.fresh _ _ _).alloc _, Has.freshAt (by simp) _ _, ((Below.refl _ _).alloc (Nat.le_refl _) _).alloc (by simp) _⟩
  case round =>
    obtain ⟨k, hkg, rfl, hR, hT, hB⟩ := hrel
    cases gk with
    | zero =>
      obtain rfl : k = 256 := by omega
      have hiT : (Try.prog.info? 80).map (·.size) = some (tabK 256).size := by rw [tabK_size]; exact i80
      go_wp2
      refine wp_load_has 80 (.tmp 1) rfl (w.heap.size + 1) (by rfl) _ _ _ hT Try.underlying80 rfl hiT ?_
      have hsc := run_storeCells_from (P := Try.prog) w.heap.size 80 (tabK 256).toList 0 (tabK 0) wr hR (by simp [tabK_size]) (fun v hv => (Array.all_eq_true_iff_forall_mem.1 (tabK_one 256)) v (by simpa using hv))
      simp only [List.take_zero, List.nil_append, Array.toArray_toList] at hsc
      have hR2 := hR.setRow (tabK 256)
      have hB2 := hB.trans (below_setRow (Below.refl w.heap.size wr) (Nat.le_refl _) (tabK 256))
      have hld := run_loadVar_row (P := Try.prog) _ _ _ _ _ _ _ hR2 Try.underlying80 rfl hiT
      clear hR hB hT
      go_wp2
      (try simp only [Exit.inBlock, Exit.then])
      refine bodyPost_ret (v := .agg (tabK 256)) ?_ rfl ⟨rfl, hB2⟩
      rw [results_cell rfl]
      simp [asAddr, Result.andThen, hld]
    | succ g =>
      have hk : k < 256 := by omega
      have cT := hT.cell k
      have fT := hT.free k
      rw [show (tabK k)[k]? = some (.int .u32 0) by simp [tabK, hk]] at cT
      go_wp2_with (go_at_call 61; refine (crcEntry_any k _ hk).mono ?_; rintro e w' ⟨rfl, rfl⟩)
      go_roundg g
      case measure => omega
      case rel => exact ⟨k + 1, by omega, by go_num, hR.storeAway (by simp) _, by have := hT.store k (.int .u32 (entry k)); rwa [tabK_next k hk] at this, hB.setCell (by simp) _⟩
end Go.Proofs.Ytbfkbiembbbbpaa
