/- Merged: DrPick. -/
import Derived.Test.YticfdjdmbcdbkaaQ103
import Derived.Test.YticfdjdmbcdbkaaQ105
import Derived.WalkLawsBesides
namespace Go.Proofs.Yticfdjdmbcdbkaa
set_option linter.unusedVariables false
set_option linter.unusedSimpArgs false
open Go.RowKit

theorem own_only {w w' : World} {base g : Nat} {e : TypeId} {size : Nat} {v : Value} {n : Nat} {xs : List Value} (h : w.ownsRow base e size v n xs) (ho : Only g w w') (hg : g < base) : w'.ownsRow base e size v n xs :=
  h.kept (row := some g) ho (.inr (own_ne h hg).symm)

end Go.Proofs.Yticfdjdmbcdbkaa
