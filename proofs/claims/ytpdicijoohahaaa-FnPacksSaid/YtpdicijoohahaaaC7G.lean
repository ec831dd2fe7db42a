/- Chapter 7: GetUsed (the model). -/
import Derived.Test.YtpdicijoohahaaaC7F
import Derived.Test.YtpdicijoohahaaaC1SRd0
namespace Go.Proofs.Ytpdicijoohahaaa
set_option linter.unusedVariables false
set_option linter.unusedSimpArgs false
open Go.RowKit

/-- What a reader of chapter 7 answers, G being what stands there. -/
def GG7 (s : ByteArray) (G : Option (List Nat × Nat)) (w : World) (e : Ending) (w' : World) : Prop :=
  ((∃ (u : List Nat) (q : Nat), G = some (u, q) ∧ e = .returned (.tuple #[.string (strOf u), .agg #[.string s, .int .i64 (q : Int)], .bool true])) ∨
   (G = none ∧ e = .returned (.tuple #[.string ⟨#[]⟩, .agg #[.string ⟨#[]⟩, .int .i64 0], .bool false]))) ∧ Below w.heap.size w w'
theorem str_nonempty {s : ByteArray} (h : 0 < s.size) : s.toList.isEmpty = false := by
  rw [Bool.eq_false_iff]
  intro e
  rw [List.isEmpty_iff, ByteArray.toList_eq] at e
  have h2 : s.data.toList.length = s.size := by simp
  rw [e] at h2
  simp at h2
  omega
theorem str_pos {D : List Nat} (h : D ≠ []) : 0 < (strOf D).size := by rw [strOf_size]; exact List.length_pos_iff.2 h
end Go.Proofs.Ytpdicijoohahaaa
