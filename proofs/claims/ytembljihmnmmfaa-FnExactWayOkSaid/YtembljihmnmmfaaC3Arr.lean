/- The laws' own small functions on slices of integers. -/
import Derived.Test.YtembljihmnmmfaaInts
import Derived.Test.YtembljihmnmmfaaMath
import Derived.RegionTactic
import Derived.ChangeAlike
import Derived.Deep.QuietTactic
import Derived.BigQuiet
import Derived.OwnWalk
namespace Go.Proofs.Ytembljihmnmmfaa
set_option linter.unusedVariables false
set_option linter.unusedSimpArgs false
open Go.RowKit

def intsV (zs : List Int) : List Value := zs.map fun x => Value.int .i64 x
theorem intsV_len (zs : List Int) : (intsV zs).length = zs.length := by simp [intsV]
theorem intsV_get (zs : List Int) (j : Nat) (h : j < zs.length) : (intsV zs)[j]? = some (.int .i64 (zs.getD j 0)) := by simp [intsV, List.getD_eq_getElem?_getD, h]
theorem intsV_set (zs : List Int) (j : Nat) (x : Int) : (intsV zs).set j (.int .i64 x) = intsV (zs.set j x) := by simp [intsV, List.map_set]
theorem Try.infoI : (Try.prog.info? 3).map (fun i => (i.zero, i.size, i.bytes)) = some (some (.int .i64 0), 1, 8) := by kernel_rfl
theorem Ints.ofOwn {w : World} {base n c : Nat} {a : Option Addr} {zs : List Int} (h : w.ownsRow base 3 1 (.slice a n c) n (intsV zs)) (hn : n ≤ 140737488355328) (hr : ∀ x ∈ zs, -9223372036854775808 ≤ x ∧ x ≤ 9223372036854775807) : zs.length = n ∧ Ints w w.heap.size a zs := by
  have hl : zs.length = n := by have := h.1; rw [intsV_len] at this; omega
  refine ⟨hl, by omega, hr, fun h0 => ?_⟩
  rcases h.2 with ⟨hv, hn0⟩ | ⟨g, cap, cur, hv, _⟩
  · omega
  · simp only [Value.slice.injEq] at hv
    obtain ⟨rfl, _, rfl⟩ := hv
    refine ⟨g, 0, rfl, (h.lt g rfl).2, fun i hi => ?_⟩
    rw [Nat.zero_add, h.cellAt i (by omega), intsV_get zs i hi]
theorem made_ints (n : Nat) : (madeCells #[Value.int .i64 0] n).toList = intsV (List.replicate n 0) := by
  rw [toList_madeCells_one]; simp [intsV]
/-- k, k + 1, .. -/
def upFrom (k n : Nat) : List Int := (List.range n).map fun i => ((k + i : Nat) : Int)
theorem upFrom_len (k n : Nat) : (upFrom k n).length = n := by simp [upFrom]
theorem upFrom_get (k n j : Nat) (h : j < n) : (upFrom k n).getD j 0 = ((k + j : Nat) : Int) := by simp [upFrom, List.getD_eq_getElem?_getD, h]
end Go.Proofs.Ytembljihmnmmfaa
