/- Chapter 7: a set is read (the model). -/
import Derived.Test.YtpdicijoohahaaaC7D
import Derived.Test.YtpdicijoohahaaaC6G
import Derived.Test.YtpdicijoohahaaaDrPick
namespace Go.Proofs.Ytpdicijoohahaaa
set_option linter.unusedVariables false
set_option linter.unusedSimpArgs false
open Go.RowKit

theorem wide_bit (m k : Nat) (hm : m < 65536) : bits BinOp.and IntKind.i64 ((m : Int) / 2 ^ k) 1 = ((m / 2 ^ k % 2 : Nat) : Int) := by
  have h0 : m / 2 ^ k ≤ m := Nat.div_le_self _ _
  have := i64_and_nat (m / 2 ^ k) 1 (by omega) (by omega)
  rw [nat_mask1] at this
  rw [show ((m : Int) / 2 ^ k) = ((m / 2 ^ k : Nat) : Int) by simp, show (1 : Int) = ((1 : Nat) : Int) by rfl, this]
/-- What reading a set answers, the reader being in block b. -/
def L7UPost (s : ByteArray) (at0 b : Nat) (T : TypeId) (w : World) (e : Ending) (w' : World) : Prop :=
  ((∃ (u : List Nat) (q : Nat), getU s at0 = some (u, q) ∧ e = .returned (.string (strOf u)) ∧ Has w' b T #[.string s, .int .i64 (q : Int)]) ∨
   (getU s at0 = none ∧ e = .returned (.string ⟨#[]⟩))) ∧ Only b w w'
end Go.Proofs.Ytpdicijoohahaaa
