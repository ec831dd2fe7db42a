/- Chapter 6: GetGamma (the model). -/
import Derived.Test.YtpngomjkapccdaaC6G
namespace Go.Proofs.Ytpngomjkapccdaa
set_option linter.unusedVariables false
set_option linter.unusedSimpArgs false
open Go.RowKit

/-- What GetGamma answers. -/
def GG6 (s : ByteArray) (at0 : Nat) (w : World) (e : Ending) (w' : World) : Prop :=
  ((∃ k n : Nat, Gam s at0 k n ∧ e = .returned (.tuple #[.int .i64 n, .agg #[.string s, .int .i64 ((at0 + (2 * k + 1) : Nat) : Int)], .bool true])) ∨
   ((∀ k n, ¬ Gam s at0 k n) ∧ e = .returned (.tuple #[.int .i64 0, .agg #[.string ⟨#[]⟩, .int .i64 0], .bool false]))) ∧ Below w.heap.size w w'
end Go.Proofs.Ytpngomjkapccdaa
