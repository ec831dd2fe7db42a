/- Chapter 6: numbers are read (the model). -/
import Derived.Test.YtpdicijoohahaaaGam
import Derived.Test.YtpdicijoohahaaaC1LGet
import Derived.Test.YtpdicijoohahaaaC1SRd0
import Derived.Maps.AppendAt
import Derived.RegionTactic
import Derived.ChangeAlike
import Derived.Deep.LoopGhost
namespace Go.Proofs.Ytpdicijoohahaaa
set_option linter.unusedVariables false
set_option linter.unusedSimpArgs false
open Go.RowKit

theorem gam_ge {s : ByteArray} {a k j n : Nat} (h : Gam s a j n) (hz : ∀ i, i < k → bit s (a + i) = 0) : k ≤ j := by
  rcases Nat.lt_or_ge j k with hl | hl
  · have := hz j hl
    have := h.2.2.2.1
    omega
  · exact hl
/-- What reading a number answers, the reader being in block b. -/
def L6Post (s : ByteArray) (at0 b : Nat) (T : TypeId) (w : World) (e : Ending) (w' : World) : Prop :=
  ((∃ k n : Nat, Gam s at0 k n ∧ e = .returned (.int .i64 n) ∧ Has w' b T #[.string s, .int .i64 ((at0 + (2 * k + 1) : Nat) : Int)]) ∨
   ((∀ k n, ¬ Gam s at0 k n) ∧ e = .returned (.int .i64 0))) ∧ Only b w w'
theorem l6post_no {s : ByteArray} {at0 b : Nat} {T : TypeId} {w w' : World} (h : ∀ k n, ¬ Gam s at0 k n) (ho : Only b w w') : L6Post s at0 b T w (.returned (.int .i64 0)) w' := ⟨.inr ⟨h, rfl⟩, ho⟩
/-- Where the reader stands, and what was read last. -/
def L6At (s : ByteArray) (at0 b : Nat) (T : TypeId) (k : Nat) (x : Int) (w : World) : Prop :=
  (at0 + k + 1 ≤ 8 * s.size ∧ x = (bit s (at0 + k) : Int) ∧ Has w b T #[.string s, .int .i64 ((at0 + k + 1 : Nat) : Int)]) ∨ (8 * s.size < at0 + k + 1 ∧ x = -1 ∧ ∃ c : Int, Has w b T #[.string s, .int .i64 c])
end Go.Proofs.Ytpdicijoohahaaa
