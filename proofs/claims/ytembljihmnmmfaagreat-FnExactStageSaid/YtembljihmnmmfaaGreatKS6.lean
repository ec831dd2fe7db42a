/- Texts of the proof, merged. -/
import Derived.ArgAppend
import Derived.Laws.IdiomStrings
import Derived.Maps.AppendAt
import Derived.Test.YtembljihmnmmfaaGreatKS4
namespace Go.Proofs.YtembljihmnmmfaaGreat
set_option linter.unusedVariables false
set_option linter.unusedSimpArgs false
open Go.RowKit

def Row (w : World) (base : Nat) (E : TypeId) (v : Value) (n : Nat) (xs : List Value) : Prop :=
  ∃ (g cap : Nat) (cur : Array Value) (fr : Nat × Nat), v = .slice (some ⟨g, 0, none⟩) n cap ∧ base ≤ g ∧ w.heap[g]? = some (.cells cur E fr) ∧ (fr = (0, 0) ∨ cur.size ≤ fr.1) ∧ n ≤ cap ∧ cap ≤ cur.size ∧ cap ≤ maxLen ∧ xs.length = n ∧ cur.toList.take n = xs
section
variable {w w' : World} {base g cap n : Nat} {E : TypeId} {v : Value} {xs : List Value}
theorem Row.form (h : Row w base E v n xs) : ∃ g cap, v = .slice (some ⟨g, 0, none⟩) n cap ∧ base ≤ g ∧ g < w.heap.size ∧ n ≤ cap := by
  obtain ⟨g, cap, cur, fr, rfl, hb, hh, _, hn, _⟩ := h
  refine ⟨g, cap, rfl, hb, ?_, hn⟩
  rcases Nat.lt_or_ge g w.heap.size with hl | hl
  · exact hl
  · rw [Array.getElem?_eq_none hl] at hh; cases hh
theorem Row.len (h : Row w base E v n xs) : xs.length = n := by obtain ⟨_, _, _, _, _, _, _, _, _, _, _, hl, _⟩ := h; exact hl
theorem Row.cell (h : Row w base E (.slice (some ⟨g, 0, none⟩) n cap) n xs) (j : Nat) (u : Value) (hu : xs[j]? = some u) : w.cell? ⟨g, j, none⟩ = some u := by
  obtain ⟨g', cap', cur, fr, hv, hb, hh, hfr, hn, hc, _, hl, ht⟩ := h
  simp only [Value.slice.injEq, Option.some.injEq, Addr.mk.injEq, and_true, true_and] at hv
  obtain ⟨rfl, rfl⟩ := hv
  rw [cell_of_row w g j cur E fr hh]
  subst ht
  rw [List.getElem?_take] at hu
  split at hu
  · simpa using hu
  · cases hu
theorem Row.free (h : Row w base E (.slice (some ⟨g, 0, none⟩) n cap) n xs) (j : Nat) (hj : j < cap) : w.frozen? ⟨g, j, none⟩ = false := by
  obtain ⟨g', cap', cur, fr, hv, hb, hh, hfr, hn, hc, _, hl, ht⟩ := h
  simp only [Value.slice.injEq, Option.some.injEq, Addr.mk.injEq, and_true, true_and] at hv
  obtain ⟨rfl, rfl⟩ := hv
  unfold World.frozen?
  rw [hh]
  rcases hfr with rfl | h
  · simp
  · have : ¬ fr.1 ≤ j := by omega
    simp [this]
theorem Row.keep (h : Row w base E v n xs) (hk : ∀ g, v.ownBlock = some g → w'.heap[g]? = w.heap[g]?) : Row w' base E v n xs := by
  obtain ⟨g, cap, cur, fr, rfl, hb, hh, hr⟩ := h
  exact ⟨g, cap, cur, fr, rfl, hb, (hk g rfl).trans hh, hr⟩
theorem Row.lt (h : Row w base E v n xs) : ∀ g, v.ownBlock = some g → base ≤ g ∧ g < w.heap.size := by
  obtain ⟨g, cap, rfl, hb, hl, _⟩ := h.form
  intro g' hg
  simp only [Value.ownBlock, Option.some.injEq] at hg
  omega
theorem Row.below {B : Nat} (h : Row w base E v n xs) (hb : Below B w w') (hB : ∀ g, v.ownBlock = some g → g < B) : Row w' base E v n xs := h.keep fun g hg => hb.block g (hB g hg)
theorem Row.belowAll (h : Row w base E v n xs) (hb : Below w.heap.size w w') : Row w' base E v n xs := h.below hb fun g hg => (h.lt g hg).2
theorem Row.alloc (h : Row w base E v n xs) (o : Obj) : Row (w.alloc o) base E v n xs := h.keep fun g hg => Below.heap_alloc w o g (h.lt g hg).2
theorem Row.drew (h : Row w base E v n xs) : Row w.drew base E v n xs := h
theorem Row.drewN (h : Row w base E v n xs) (k : Nat) : Row (w.drewN k) base E v n xs := h
theorem Row.storeAway (h : Row w base E v n xs) {p : Addr} (hp : v.ownBlock ≠ some p.block) (u : Value) : Row (w.setCell p u) base E v n xs :=
  h.keep fun g hg => Below.heap_setCell w p u g (fun e => hp (by rw [hg, e]))
theorem Row.store (h : Row w base E (.slice (some ⟨g, 0, none⟩) n cap) n xs) (j : Nat) (u : Value) : Row (w.setCell ⟨g, j, none⟩ u) base E (.slice (some ⟨g, 0, none⟩) n cap) n (xs.set j u) := by
  obtain ⟨g', cap', cur, fr, hv, hb, hh, hfr, hn, hc, hm, hl, ht⟩ := h
  simp only [Value.slice.injEq, Option.some.injEq, Addr.mk.injEq, and_true, true_and] at hv
  obtain ⟨rfl, rfl⟩ := hv
  refine ⟨g, cap, cur.setIfInBounds j u, fr, rfl, hb, ?_, by simpa using hfr, hn, by simpa using hc, hm, by simpa using hl, ?_⟩
  · simp [World.setCell, Array.getElem?_modify, hh]
  · rw [← ht]; simp [List.take_set]
theorem Row.mono {base' : Nat} (h : Row w base E v n xs) (hb : base' ≤ base) : Row w base' E v n xs := by
  obtain ⟨g, cap, cur, fr, hv, h1, hr⟩ := h
  exact ⟨g, cap, cur, fr, hv, Nat.le_trans hb h1, hr⟩
theorem Row.ofOwn (h : w.ownsRow base E 1 v n xs) (hn : 0 < n) : Row w base E v n xs := by
  rcases h.2 with ⟨_, h0⟩ | ⟨g, cap, cur, rfl, hb, hh, hnc, hm, hs, ht⟩
  · omega
  · have hl := h.1
    rw [Nat.mul_one] at hl hs ht
    exact ⟨g, cap, cur, (0, 0), rfl, hb, hh, .inl rfl, hnc, by omega, hm, hl, ht⟩
theorem Row.neHas {T : TypeId} {cs : Array Value} {b : Nat} (h : Row w base E v n xs) (hb : Has w b T cs) (hT : E ≠ T) : v.ownBlock ≠ some b := by
  obtain ⟨g, cap, cur, fr, rfl, _, hh, _⟩ := h
  intro he
  simp only [Value.ownBlock, Option.some.injEq] at he
  subst he
  unfold Has at hb
  rw [hh] at hb
  injection hb with hb
  injection hb with _ h2
  exact hT h2

end

end Go.Proofs.YtembljihmnmmfaaGreat
