/- Rows of the call's own, kept (chapter 8). -/
import Derived.Test.YteaohgipndmciaaNats
import Derived.Lib.SmallJoins
import Derived.OneCell
namespace Go.Proofs.Yteaohgipndmciaa
set_option linter.unusedVariables false
set_option linter.unusedSimpArgs false
open Go.RowKit

theorem own_belH8 {w w' : World} {base : Nat} {e : TypeId} {size : Nat} {v : Value} {n : Nat} {xs : List Value} (h : w.ownsRow base e size v n xs) (hb : ∀ i, i < w.heap.size → w'.heap[i]? = w.heap[i]?) : w'.ownsRow base e size v n xs := by
  refine ⟨h.1, ?_⟩
  rcases h.2 with h2 | ⟨g, cap, cur, hv, hg, hc, hr⟩
  · exact .inl h2
  · exact .inr ⟨g, cap, cur, hv, hg, (hb g ((Array.getElem?_eq_some_iff.1 hc).1)).trans hc, hr⟩
theorem own_other7 {w : World} {base n S : Nat} {E : TypeId} {v : Value} {xs : List Value} (h : w.ownsRow base E S v n xs) {p : Addr} (hp : v.ownBlock ≠ some p.block) (u : Value) : (w.setCell p u).ownsRow base E S v n xs := ownsRow_setCell_other h hp u
end Go.Proofs.Yteaohgipndmciaa
