/- Chapter 7: a reader's answer, yes and no. -/
import Derived.Test.YtabhbijohjemiaaC7G
namespace Go.Proofs.Ytabhbijohjemiaa
set_option linter.unusedVariables false
set_option linter.unusedSimpArgs false
open Go.RowKit

theorem gg7_yes {s : ByteArray} {G : Option (List Nat × Nat)} {u : List Nat} {q : Nat} {w : World} {e : Ending} {w' : World} (h : GG7 s G w e w') (hg : G = some (u, q)) :
    e = .returned (.tuple #[.string (strOf u), .agg #[.string s, .int .i64 (q : Int)], .bool true]) ∧ Below w.heap.size w w' := by
  obtain ⟨⟨v, p, h2, rfl⟩ | ⟨hno, _⟩, hb⟩ := h
  · rw [hg] at h2
    simp only [Option.some.injEq, Prod.mk.injEq] at h2
    obtain ⟨rfl, rfl⟩ := h2
    exact ⟨rfl, hb⟩
  · rw [hg] at hno; cases hno
theorem gg7_no {s : ByteArray} {G : Option (List Nat × Nat)} {w : World} {e : Ending} {w' : World} (h : GG7 s G w e w') (hg : G = none) :
    e = .returned (.tuple #[.string ⟨#[]⟩, .agg #[.string ⟨#[]⟩, .int .i64 0], .bool false]) ∧ Below w.heap.size w w' := by
  obtain ⟨⟨v, p, h2, rfl⟩ | ⟨_, rfl⟩, hb⟩ := h
  · rw [hg] at h2; cases h2
  · exact ⟨rfl, hb⟩
end Go.Proofs.Ytabhbijohjemiaa
