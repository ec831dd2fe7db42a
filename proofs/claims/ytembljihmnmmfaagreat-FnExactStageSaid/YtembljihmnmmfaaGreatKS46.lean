/- Texts of the proof, merged. -/
import Derived.Deep.RegionHeld3
import Derived.Deep.LoopGhost
import Derived.ChangeKeysEq
import Derived.RegionTactic
import Derived.ChangeAlike
import Derived.Deep.QuietTactic
import Derived.BigQuiet
import Derived.OwnWalk
import Derived.Maps.AppendAt
import Derived.Deep.DrawnRows
import Derived.BigRegion
import Derived.Deep.DeepCutAuto
import Derived.Deep.RegionWith
import Derived.Test.YtembljihmnmmfaaGreatKS21
import Derived.Test.YtembljihmnmmfaaGreatKS5
import Derived.Test.YtembljihmnmmfaaGreatKS4
import Derived.Test.YtembljihmnmmfaaGreatKS22
import Derived.Test.YtembljihmnmmfaaGreatKS8
import Derived.Test.YtembljihmnmmfaaGreatKS13
import Derived.Test.YtembljihmnmmfaaGreatKS24
import Derived.Test.YtembljihmnmmfaaGreatKS27
import Derived.Test.YtembljihmnmmfaaGreatKS12
import Derived.Test.YtembljihmnmmfaaGreatKS1
import Derived.Test.YtembljihmnmmfaaGreatKS38
import Derived.Test.YtembljihmnmmfaaGreatKS34
import Derived.Test.YtembljihmnmmfaaGreatKS11
namespace Go.Proofs.YtembljihmnmmfaaGreat
set_option linter.unusedVariables false
set_option linter.unusedSimpArgs false
open Go.RowKit

/-- The first i tables lie in rows of their own, behind block gT. -/
def TabsUp (W : World) (gT : Nat) (T : List (List Int)) (i : Nat) : Prop := ∃ V : List Value, V.length = T.length ∧ Has W gT 99 V.toArray ∧ (∀ t, t < i → W.ownsRow (gT + 1) 3 1 (V.getD t undef) (T.getD t []).length (intsV (T.getD t []))) ∧ ∀ t1 t2, t1 < t2 → t2 < i → (V.getD t1 undef).ownBlock = none ∨ (V.getD t1 undef).ownBlock ≠ (V.getD t2 undef).ownBlock
theorem TabsUp.below {W W' : World} {gT i : Nat} {T : List (List Int)} (h : TabsUp W gT T i) (hb : Below W.heap.size W W') : TabsUp W' gT T i := by
  obtain ⟨V, h1, h2, h3, h4⟩ := h
  exact ⟨V, h1, h2.below hb h2.lt, fun t ht => own_bel (h3 t ht) hb, h4⟩
theorem TabsUp.lt {W : World} {gT i : Nat} {T : List (List Int)} (h : TabsUp W gT T i) : gT < W.heap.size := by
  obtain ⟨V, _, h2, _⟩ := h
  exact h2.lt
/-- The next table, made just now, is entered. -/
theorem TabsUp.store {W0 W : World} {gT i : Nat} {T : List (List Int)} {v : Value} (h : TabsUp W0 gT T i) (hb : Below W0.heap.size W0 W) (hi : i < T.length) (hv : W.ownsRow W0.heap.size 3 1 v (T.getD i []).length (intsV (T.getD i []))) : TabsUp (W.setCell ⟨gT, i, none⟩ v) gT T (i + 1) := by
  have hl := h.lt
  obtain ⟨V, h1, h2, h3, h4⟩ := h
  have h2' := h2.below hb h2.lt
  have e1 : (V.set i v).getD i undef = v := by simp [List.getD_eq_getElem?_getD, h1, hi]
  have e2 : ∀ t, t ≠ i → (V.set i v).getD t undef = V.getD t undef := fun t e => by simp [List.getD_eq_getElem?_getD, List.getElem?_set, Ne.symm e]
  refine ⟨V.set i v, by rw [List.length_set, h1], ?_, fun t ht => ?_, fun t1 t2 h12 ht2 => ?_⟩
  · have := h2'.store i v
    rwa [List.setIfInBounds_toArray] at this
  · by_cases e : t = i
    · subst e
      rw [e1]
      exact own_away (own_base12 hv (by omega)) (p := ⟨gT, t, none⟩) (by simp) v
    · rw [e2 t e]
      exact own_away (own_bel (h3 t (by omega)) hb) (p := ⟨gT, i, none⟩) (by simp) v
  · by_cases e : t2 = i
    · subst e
      rw [e1, e2 t1 (by omega)]
      exact apart_new12 (h3 t1 (by omega)) hv
    · rw [e2 t1 (by omega), e2 t2 e]
      exact h4 t1 t2 h12 (by omega)
/-- Where the groups of S lie. -/
structure Grps (w : World) (av : Option Addr) (Q cv b off : Nat) (S : List Int) : Prop where
  cnt : Q = grp S.length
  cap : Q ≤ cv
  sym : 0 < S.length → b < w.heap.size
  cells : ∀ j, j < S.length → w.cell? ⟨b, off + j, none⟩ = some (.int .i64 (S.getD j 0))
  grps : ∀ g, g < Q → ∃ gb, av = some ⟨gb, 0, none⟩ ∧ gb < w.heap.size ∧ w.cell? ⟨gb, g, none⟩ = some (chV b off S.length g)
theorem Grps.below {w w' : World} {av : Option Addr} {Q cv b off : Nat} {S : List Int} (h : Grps w av Q cv b off S) (hb : Below w.heap.size w w') : Grps w' av Q cv b off S := by
  have hs := hb.size
  refine ⟨h.cnt, h.cap, fun hp => by have := h.sym hp; omega, fun j hj => (hb.cell (p := ⟨b, off + j, none⟩) (h.sym (by omega))).trans (h.cells j hj), fun g hg => ?_⟩
  obtain ⟨gb, e, h1, h2⟩ := h.grps g hg
  exact ⟨gb, e, by omega, (hb.cell (p := ⟨gb, g, none⟩) h1).trans h2⟩
end Go.Proofs.YtembljihmnmmfaaGreat
namespace Go.Proofs.YtembljihmnmmfaaGreat
set_option linter.unusedVariables false
set_option linter.unusedSimpArgs false
open Go.RowKit

theorem OwnT.up {w : World} {lo hi hi2 : Nat} {v : Value} {V : List Value} {T : List (List Int)} (h : OwnT w lo hi v V T) (hh : hi ≤ hi2) : OwnT w lo hi2 v V T :=
  ⟨h.own, h.rows, fun q hq => by have := h.top q hq; omega, fun u hu q hq => by have := h.rng u hu q hq; omega, h.apart⟩
end Go.Proofs.YtembljihmnmmfaaGreat
