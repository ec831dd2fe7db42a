/- Draws: byte strings, picks, readers. -/
import Derived.Test.YteaohgipndmciaaDr
import Derived.Test.YteaohgipndmciaaRow
import Derived.WalkLawsBesides
namespace Go.Proofs.Yteaohgipndmciaa
set_option linter.unusedVariables false
set_option linter.unusedSimpArgs false
open Go.RowKit

theorem own_only {w w' : World} {base g : Nat} {e : TypeId} {size : Nat} {v : Value} {n : Nat} {xs : List Value} (h : w.ownsRow base e size v n xs) (ho : Only g w w') (hg : g < base) : w'.ownsRow base e size v n xs :=
  h.kept (row := some g) ho (.inr (own_ne h hg).symm)
theorem Cur.grown {w w' : World} {g B : Nat} {row : Option Nat} (h : Cur w g B) (hg : w.grownBy w' row) (hr : ∀ k, row = some k → g < k) : Cur w' g B := by
  have hl := h.lt
  refine h.below (B' := g + 1) ⟨hg.os, hg.tape, hg.output, hg.size, fun i hi => hg.block i (by omega) (fun e => by have := hr i e.symm; omega)⟩ (by omega)
theorem Cur.alloc {w : World} {g B : Nat} (h : Cur w g B) (o : Obj) : Cur (w.alloc o) g B := h.below (B' := w.heap.size) ((Below.refl _ _).alloc (Nat.le_refl _) o) h.lt
theorem Cur.store {w : World} {g B : Nat} (h : Cur w g B) {p : Addr} (hp : g < p.block) (u : Value) : Cur (w.setCell p u) g B := h.below (B' := g + 1) ((Below.refl _ _).setCell hp u) (by omega)
theorem Cur.drew {w : World} {g B : Nat} (h : Cur w g B) : Cur w.drew g B := h
theorem Cur.drewN {w : World} {g B : Nat} (h : Cur w g B) (n : Nat) : Cur (w.drewN n) g B := h

end Go.Proofs.Yteaohgipndmciaa
