/- Merged: M8U. -/
import Derived.Test.YtpdicijoohahaaaU8
import Derived.Test.YtpdicijoohahaaaU1
import Derived.Test.YtpdicijoohahaaaU2
import Derived.Test.YtpdicijoohahaaaU9
namespace Go.Proofs.Ytpdicijoohahaaa
set_option linter.unusedVariables false
set_option linter.unusedSimpArgs false
open Go.RowKit

theorem uiL_range (z g : List Int) (n : Int) : (uiL z g n).length ≤ 1048576 ∧ ∀ x ∈ uiL z g n, -9223372036854775808 ≤ x ∧ x ≤ 9223372036854775807 := by
  cases h : uiA z g n with
  | none => rw [(ui_none h).2]; exact nil_range
  | some L =>
    have := uiA_len h
    rw [(ui_some h).2]
    exact ints_range (m := 1000) (by omega) (fun x hx => by have := this.2 x hx; omega) (by omega)
theorem meetsUnInv : MeetsUnInv := fun z g n hl0 hr0 hl1 hr1 n1 n2 => ⟨uiL z g n, uiOk z g n, uiL_range z g n,
  fun W p0 c0 p1 c1 hI0 hI1 h0 h1 => specUnInv_any (some ⟨p0, 0, none⟩) (some ⟨p1, 0, none⟩) c0 c1 W.heap.size z g n W hI0 hI1 (Nat.le_refl _) hl0 hl1 n1 n2,
  fun W p0 c0 p1 c1 hI0 hI1 h0 h1 => implUnInv_any (some ⟨p0, 0, none⟩) (some ⟨p1, 0, none⟩) c0 c1 W.heap.size z g n W hI0 hI1 (Nat.le_refl _) hl0 hl1 h1 (fun a e => by obtain rfl := Option.some.inj e; rfl) n1 n2⟩
end Go.Proofs.Ytpdicijoohahaaa
