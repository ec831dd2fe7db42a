/- Chapter 1: what a valid string of bits leaves room for. -/
import Derived.Test.YteaohgipndmciaaRet
import Derived.Test.YteaohgipndmciaaMath
import Derived.Test.YteaohgipndmciaaMem
namespace Go.Proofs.Yteaohgipndmciaa
set_option linter.unusedVariables false
set_option linter.unusedSimpArgs false
open Go.RowKit

theorem okB_room {s : ByteArray} {n : Nat} (h : okB s n = true) : n ≤ 400000 ∧ n ≤ 8 * s.size ∧ s.size ≤ 50000 := by
  rw [okB_nat] at h; omega

theorem own_below {w w' : World} {base : Nat} {e : TypeId} {size : Nat} {v : Value} {n : Nat} {xs : List Value} (h : w.ownsRow base e size v n xs) (hb : Below w.heap.size w w') : w'.ownsRow base e size v n xs :=
  h.kept (row := none) ⟨hb.os, hb.tape, hb.output, hb.size, fun i hi _ => hb.block i hi⟩ (by cases hv : v.ownBlock <;> simp)

end Go.Proofs.Yteaohgipndmciaa
