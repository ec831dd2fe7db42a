/- Chapter 6: numbers are read (the model). -/
import Derived.Test.YtabhbijohjemiaaGam
import Derived.Test.YtabhbijohjemiaaC1LGet
import Derived.Test.YtabhbijohjemiaaC1SRd0
import Derived.Maps.AppendAt
import Derived.RegionTactic
import Derived.ChangeAlike
import Derived.Deep.LoopGhost
namespace Go.Proofs.Ytabhbijohjemiaa
set_option linter.unusedVariables false
set_option linter.unusedSimpArgs false
open Go.RowKit

theorem gam_ge {s : ByteArray} {a k j n : Nat} (h : Gam s a j n) (hz : ∀ i, i < k → bit s (a + i) = 0) : k ≤ j := by
  rcases Nat.lt_or_ge j k with hl | hl
  · have := hz j hl
    have := h.2.2.2.1
    omega
  · exact hl
/-- What reading a number answers, the reader being in block b. -/
def L6Post (s : ByteArray) (at0 b : Nat) (T : TypeId) (w : World) (e : Ending) (w' : World) : Prop :=
  ((∃ k n : Nat, Gam s at0 k n ∧ e = .returned (.int .i64 n) ∧ Has w' b T #[.string s, .int .i64 ((at0 + (2 * k + 1) : Nat) : Int)]) ∨
   ((∀ k n, ¬ Gam s at0 k n) ∧ e = .returned (.int .i64 0))) ∧ Only b w w'
theorem l6post_no {s : ByteArray} {at0 b : Nat} {T : TypeId} {w w' : World} (h : ∀ k n, ¬ Gam s at0 k n) (ho : Only b w w') : L6Post s at0 b T w (.returned (.int .i64 0)) w' := ⟨.inr ⟨h, rfl⟩, ho⟩
/-- Where the reader stands, and what was read last. -/
def L6At (s : ByteArray) (at0 b : Nat) (T : TypeId) (k : Nat) (x : Int) (w : World) : Prop :=
  (at0 + k + 1 ≤ 8 * s.size ∧ x = (bit s (at0 + k) : Int) ∧ Has w b T #[.string s, .int .i64 ((at0 + k + 1 : Nat) : Int)]) ∨ (8 * s.size < at0 + k + 1 ∧ x = -1 ∧ ∃ c : Int, Has w b T #[.string s, .int .i64 c])
theorem l6bit (s : ByteArray) (at0 k b : Nat) (T : TypeId) (w : World) (hs : s.size ≤ 1048576) (ha : at0 + k ≤ 8 * s.size) (hb : Has w b T #[.string s, .int .i64 ((at0 + k : Nat) : Int)]) :
    Calls Try.prog 95 #[.pointer (some ⟨b, 0, none⟩), .int .i64 1] w fun e w' => ∃ x : Int, e = .returned (.int .i64 x) ∧ L6At s at0 b T k x w' ∧ Only b w w' := by
  by_cases h : at0 + k + 1 ≤ 8 * s.size
  · have h1 := l1get_yes s (at0 + k) 1 b T w hs (by omega) h hb
    refine h1.mono ?_
    rintro e w' ⟨rfl, hB, hO⟩
    exact ⟨_, rfl, .inl ⟨h, by simp [row, num], hB⟩, hO⟩
  · have h1 := l1get_none s (at0 + k) 1 b T w hs (by omega) ha (by omega) hb
    refine h1.mono ?_
    rintro e w' ⟨rfl, q, rfl⟩
    exact ⟨_, rfl, .inr ⟨by omega, rfl, _, hb.drewN q⟩, (Only.refl _ _).drewN q⟩
end Go.Proofs.Ytabhbijohjemiaa
