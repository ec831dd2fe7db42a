/- Texts of the proof, merged. -/
import Derived.RegionTactic
import Derived.ChangeAlike
import Derived.Deep.QuietTactic
import Derived.BigQuiet
import Derived.OwnWalk
import Derived.Deep.LoopGhost
import Derived.Maps.AppendAt
import Derived.Deep.RegionHeld3
import Derived.Deep.DrawnRows
import Derived.BigRegion
import Derived.Deep.DeepCutAuto
import Derived.Deep.RegionWith
import Derived.Test.YtembljihmnmmfaaGreatKS21
import Derived.Test.YtembljihmnmmfaaGreatKS27
import Derived.Test.YtembljihmnmmfaaGreatKS5
import Derived.Test.YtembljihmnmmfaaGreatKS4
import Derived.Test.YtembljihmnmmfaaGreatKS12
import Derived.Test.YtembljihmnmmfaaGreatKS1
import Derived.Test.YtembljihmnmmfaaGreatKS38
import Derived.Test.YtembljihmnmmfaaGreatKS20
import Derived.Test.YtembljihmnmmfaaGreatKS13
namespace Go.Proofs.YtembljihmnmmfaaGreat
set_option linter.unusedVariables false
set_option linter.unusedSimpArgs false
open Go.RowKit

/-- The codes of a table lie in a row behind block gc. -/
def CodeRow (W : World) (gc : Nat) (v : Value) (ls : List Int) : Prop := ∃ gk ck, v = .slice (some ⟨gk, 0, none⟩) ls.length ck ∧ gc < gk ∧ gk < W.heap.size ∧ ls.length ≤ ck ∧ ∀ x, x < ls.length → W.cell? ⟨gk, x, none⟩ = some (.int .i64 (cdF ls x : Int))
theorem CodeRow.keep {W W' : World} {gc : Nat} {v : Value} {ls : List Int} (h : CodeRow W gc v ls) (hs : W.heap.size ≤ W'.heap.size) (hk : ∀ b, gc < b → b < W.heap.size → W'.heap[b]? = W.heap[b]?) : CodeRow W' gc v ls := by
  obtain ⟨gk, ck, e, h1, h2, h3, h4⟩ := h
  exact ⟨gk, ck, e, h1, by omega, h3, fun x hx => (World.cell?_of_block (hk gk h1 h2)).trans (h4 x hx)⟩
/-- The codes of the first i tables. -/
def CodesAt (W : World) (gc : Nat) (T : List (List Int)) (i : Nat) : Prop := ∃ V : List Value, V.length = T.length ∧ Has W gc 24 V.toArray ∧ ∀ k, k < i → CodeRow W gc (V.getD k undef) (T.getD k [])
theorem CodesAt.below {W W' : World} {gc i : Nat} {T : List (List Int)} (h : CodesAt W gc T i) (hb : Below W.heap.size W W') : CodesAt W' gc T i := by
  obtain ⟨V, h1, h2, h3⟩ := h
  exact ⟨V, h1, h2.below hb h2.lt, fun k hk => (h3 k hk).keep hb.size (fun b _ hb2 => hb.block b hb2)⟩
theorem CodesAt.store {W : World} {gc i : Nat} {T : List (List Int)} {v : Value} (h : CodesAt W gc T i) (hi : i < T.length) (hv : CodeRow W gc v (T.getD i [])) : CodesAt (W.setCell ⟨gc, i, none⟩ v) gc T (i + 1) := by
  obtain ⟨V, h1, h2, h3⟩ := h
  have hkeep : ∀ b, gc < b → b < W.heap.size → (W.setCell ⟨gc, i, none⟩ v).heap[b]? = W.heap[b]? := fun b hb _ => Below.heap_setCell W ⟨gc, i, none⟩ v b (by simp; omega)
  have hsz : W.heap.size ≤ (W.setCell ⟨gc, i, none⟩ v).heap.size := by simp [World.setCell]
  refine ⟨V.set i v, by rw [List.length_set, h1], ?_, fun k hk => ?_⟩
  · have := h2.store i v
    rwa [List.setIfInBounds_toArray] at this
  · by_cases e : k = i
    · subst e
      have e1 : (V.set k v).getD k undef = v := by simp [List.getD_eq_getElem?_getD, h1, hi]
      rw [e1]; exact hv.keep hsz hkeep
    · have e1 : (V.set i v).getD k undef = V.getD k undef := by simp [List.getD_eq_getElem?_getD, List.getElem?_set, Ne.symm e]
      rw [e1]; exact (h3 k (by omega)).keep hsz hkeep
/-- What a symbol's code is read from. -/
theorem CodesAt.at {W : World} {gc i k : Nat} {T : List (List Int)} (h : CodesAt W gc T i) (hk : k < i) (hi : i ≤ T.length) : ∃ gk ck, W.cell? ⟨gc, k, none⟩ = some (.slice (some ⟨gk, 0, none⟩) (T.getD k []).length ck) ∧ gc < gk ∧ gk < W.heap.size ∧ (T.getD k []).length ≤ ck ∧ ∀ x, x < (T.getD k []).length → W.cell? ⟨gk, x, none⟩ = some (.int .i64 (cdF (T.getD k []) x : Int)) := by
  obtain ⟨V, h1, h2, h3⟩ := h
  obtain ⟨gk, ck, e, h4, h5, h6, h7⟩ := h3 k hk
  refine ⟨gk, ck, ?_, h4, h5, h6, h7⟩
  rw [h2.cell k, List.getElem?_toArray, ← e, List.getD_eq_getElem?_getD, List.getElem?_eq_getElem (by omega)]
  rfl
end Go.Proofs.YtembljihmnmmfaaGreat
