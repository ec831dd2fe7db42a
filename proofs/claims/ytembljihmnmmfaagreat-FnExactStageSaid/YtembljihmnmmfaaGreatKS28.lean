/- Texts of the proof, merged. -/
import Derived.Lib.Small
import Derived.Lib.Slices
import Derived.BigRegion
import Derived.RegionTactic
import Derived.ChangeAlike
import Derived.Maps.RangeWalk
import Derived.Test.YtembljihmnmmfaaGreatKS17
import Derived.Test.YtembljihmnmmfaaGreatKS22
namespace Go.Proofs.YtembljihmnmmfaaGreat
set_option linter.unusedVariables false
set_option linter.unusedSimpArgs false
open Go.RowKit Go.Maps

/-- How many of u lie in group g. -/
def grpN (u : List Nat) (g : Nat) : Nat := u.countP (fun b => decide (b / 16 = g))
/-- The cells of a list: its map, its sixteen counts. -/
def blC (mb : Nat) (f : Nat → Nat) : Array Value := (Value.map (some mb) :: nats 16 f).toArray
/-- Block lb is a list of the members of u; its map lies in block mb. -/
def BL (W : World) (lb mb : Nat) (u : List Nat) : Prop := Has W lb 170 (blC mb (grpN u)) ∧ CntAt W mb 1048576 (fun b => u.count b)
theorem BL.lt {W : World} {lb mb : Nat} {u : List Nat} (h : BL W lb mb u) : lb < W.heap.size ∧ mb < W.heap.size := ⟨h.1.lt, h.2.lt⟩
theorem BL.below {W W' : World} {lb mb : Nat} {u : List Nat} (h : BL W lb mb u) (hb : Below W.heap.size W W') : BL W' lb mb u := ⟨h.1.below hb h.1.lt, h.2.below hb⟩
theorem BL.drewN {W : World} {lb mb : Nat} {u : List Nat} (h : BL W lb mb u) (n : Nat) : BL (W.drewN n) lb mb u := h
/-- Only blocks g and h (and what is new) may have turned. -/
def Two (g h : Nat) (a w : World) : Prop := w.os = a.os ∧ w.tape = a.tape ∧ w.output = a.output ∧ a.heap.size ≤ w.heap.size ∧ ∀ i, i < a.heap.size → i ≠ g → i ≠ h → w.heap[i]? = a.heap[i]?
theorem Two.of {g h : Nat} {a b c : World} (h1 : a.grownBy b (some h)) (h2 : Only g b c) : Two g h a c :=
  ⟨h2.os.trans h1.os, h2.tape.trans h1.tape, h2.output.trans h1.output, Nat.le_trans h1.size h2.size, fun i hi hg hh => (h2.block i (Nat.lt_of_lt_of_le hi h1.size) (by simpa using hg)).trans (h1.block i hi (by simpa using hh))⟩
theorem Two.below {g h B : Nat} {a w : World} (k : Two g h a w) (hg : B ≤ g) (hh : B ≤ h) (hB : B ≤ a.heap.size) : Below B a w :=
  ⟨k.1, k.2.1, k.2.2.1, k.2.2.2.1, fun i hi => k.2.2.2.2 i (by omega) (by omega) (by omega)⟩
theorem Two.has {g h b : Nat} {a w : World} {T : TypeId} {cs : Array Value} (k : Two g h a w) (hb : Has a b T cs) (hg : b ≠ g) (hh : b ≠ h) : Has w b T cs := (k.2.2.2.2 b hb.lt hg hh).trans hb
theorem Two.own {g h base n S : Nat} {E : TypeId} {a w : World} {v : Value} {xs : List Value} (k : Two g h a w) (ho : a.ownsRow base E S v n xs) (hg : v.ownBlock ≠ some g) (hh : v.ownBlock ≠ some h) : w.ownsRow base E S v n xs := by
  refine ⟨ho.1, ?_⟩
  rcases ho.2 with h2 | ⟨b, cap, cur, hv, hb, hc, hr⟩
  · exact .inl h2
  · subst hv
    refine .inr ⟨b, cap, cur, rfl, hb, ?_, hr⟩
    rw [k.2.2.2.2 b (Array.getElem?_eq_some_iff.1 hc).1 (fun e => hg (by rw [e]; rfl)) (fun e => hh (by rw [e]; rfl))]
    exact hc
end Go.Proofs.YtembljihmnmmfaaGreat
