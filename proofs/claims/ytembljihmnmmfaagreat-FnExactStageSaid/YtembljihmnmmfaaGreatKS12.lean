/- Texts of the proof, merged. -/
import Derived.RegionTactic
import Derived.ChangeAlike
import Derived.Deep.QuietTactic
import Derived.BigQuiet
import Derived.Maps.AppendAt
import Derived.BigRegion
import Derived.Test.YtembljihmnmmfaaGreatKS4
import Derived.Test.YtembljihmnmmfaaGreatKS1
import Derived.Test.YtembljihmnmmfaaGreatKS6
namespace Go.Proofs.YtembljihmnmmfaaGreat
set_option linter.unusedVariables false
set_option linter.unusedSimpArgs false
open Go.RowKit

theorem made_u8s (n : Nat) : (madeCells #[Value.int .u8 0] n).toList = u8s (List.replicate n 0) := by
  rw [toList_madeCells_one]; simp [u8s]

end Go.Proofs.YtembljihmnmmfaaGreat
namespace Go.Proofs.YtembljihmnmmfaaGreat
set_option linter.unusedVariables false
set_option linter.unusedSimpArgs false
open Go.RowKit

/-- Block g is a writer of the bits l; its bytes lie in a row of the call's own, from block base on. -/
def Writes (w : World) (base g : Nat) (l : List Nat) : Prop :=
  ∃ (v : Value) (D : List Nat), Has w g 102 #[v, .int .i64 (l.length : Int)] ∧ Row w base 5 v D.length (u8s D) ∧ Packs D l ∧ some g ≠ v.ownBlock

theorem Writes.lt {w : World} {base g : Nat} {l : List Nat} (h : Writes w base g l) : g < w.heap.size := by
  obtain ⟨v, D, hB, _⟩ := h; exact hB.lt
theorem Writes.below {w w' : World} {base g : Nat} {l : List Nat} (h : Writes w base g l) (hb : Below w.heap.size w w') : Writes w' base g l := by
  obtain ⟨v, D, hB, hR, hP, hne⟩ := h
  exact ⟨v, D, hB.below hb hB.lt, hR.belowAll hb, hP, hne⟩
theorem Writes.alloc {w : World} {base g : Nat} {l : List Nat} (h : Writes w base g l) (o : Obj) : Writes (w.alloc o) base g l := by
  obtain ⟨v, D, hB, hR, hP, hne⟩ := h
  exact ⟨v, D, hB.alloc o, hR.alloc o, hP, hne⟩

/-- Every block but g, and but the rows of bytes, stays. -/
def Keeps (g : Nat) (a w : World) : Prop := ∀ b o, b ≠ g → (∀ cs fr, o ≠ Obj.cells cs 5 fr) → a.heap[b]? = some o → w.heap[b]? = some o
theorem Keeps.has {g : Nat} {a w : World} (h : Keeps g a w) {b : Nat} {T : TypeId} {cs : Array Value} (h1 : b ≠ g) (h2 : T ≠ 5) (h3 : Has a b T cs) : Has w b T cs :=
  h b _ h1 (fun cs fr e => by injection e with _ e2; exact h2 e2) h3
theorem heap_lt7 {w : World} {b : Nat} {o : Obj} (h : w.heap[b]? = some o) : b < w.heap.size := (Array.getElem?_eq_some_iff.1 h).1
theorem Keeps.refl (g : Nat) (w : World) : Keeps g w w := fun _ _ _ _ h => h
theorem Keeps.trans {g : Nat} {a b c : World} (h : Keeps g a b) (k : Keeps g b c) : Keeps g a c := fun b' o h1 h2 h3 => k b' o h1 h2 (h b' o h1 h2 h3)
theorem Keeps.alloc {g : Nat} {a w : World} (h : Keeps g a w) (o : Obj) : Keeps g a (w.alloc o) := fun b o2 h1 h2 h3 => (Below.heap_alloc w o b (heap_lt7 (h b o2 h1 h2 h3))).trans (h b o2 h1 h2 h3)
theorem Keeps.drewN {g : Nat} {a w : World} (h : Keeps g a w) (n : Nat) : Keeps g a (w.drewN n) := fun b o h1 h2 h3 => h b o h1 h2 h3
theorem Keeps.store {g : Nat} {a w : World} (h : Keeps g a w) (j : Nat) (u : Value) : Keeps g a (w.setCell ⟨g, j, none⟩ u) := fun b o h1 h2 h3 => (Below.heap_setCell w ⟨g, j, none⟩ u b h1).trans (h b o h1 h2 h3)
theorem Row.notOther {w : World} {base n : Nat} {v : Value} {xs : List Value} (hR : Row w base 5 v n xs) {b : Nat} {o : Obj} (ho : ∀ cs fr, o ≠ Obj.cells cs 5 fr) (hb : w.heap[b]? = some o) : v.ownBlock ≠ some b := by
  obtain ⟨g, cap, cur, fr, rfl, _, hh, _⟩ := hR
  intro e
  simp only [Value.ownBlock, Option.some.injEq] at e
  subst e
  rw [hh] at hb
  injection hb with hb
  exact ho _ _ hb.symm
theorem Keeps.grown {g n base : Nat} {v : Value} {xs : List Value} {a w w' : World} (h : Keeps g a w) (hR : Row w base 5 v n xs) (hg : w.grownBy w' v.ownBlock) : Keeps g a w' :=
  fun b o h1 h2 h3 => (hg.block b (heap_lt7 (h b o h1 h2 h3)) (fun e => hR.notOther h2 (h b o h1 h2 h3) e.symm)).trans (h b o h1 h2 h3)
theorem Writes.only {w w' : World} {base g b : Nat} {l : List Nat} {T : TypeId} {cs : Array Value} (h : Writes w base g l) (ho : Only b w w') (hb : Has w b T cs) (hT : 5 ≠ T) (hne : g ≠ b) : Writes w' base g l := by
  obtain ⟨v, D, hB, hR, hP, hn⟩ := h
  refine ⟨v, D, ho.has hB hne, hR.keep fun q hq => ho.block q (hR.lt q hq).2 ?_, hP, hn⟩
  intro e
  exact hR.neHas hb hT (by rw [hq, e])
end Go.Proofs.YtembljihmnmmfaaGreat
