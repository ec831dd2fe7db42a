/- The walk of the exact law of ByCount (what is asked: MeetsF). -/
import Derived.Test.YtabhbijohjemiaaExA
namespace Go.Proofs.Ytabhbijohjemiaa
set_option linter.unusedVariables false
set_option linter.unusedSimpArgs false
open Go.RowKit Go.ChangeShapes Go.WideShapes Go.ChangeAt

/-- For all arguments in bounds the model and the program answer the same. -/
def MeetsByCount : Prop := ∀ (s0 : ByteArray), s0.size ≤ 1048576 → ∃ (r0 : ByteArray), (∀ (W : World), Calls Try.prog 27 #[.string s0] W fun e w' => e = .returned (.string r0) ∧ Below W.heap.size W w') ∧ (∀ (W : World), Calls Try.prog 25 #[.string s0] W fun e w' => e = .returned (.string r0) ∧ Below W.heap.size W w')
set_option maxHeartbeats 4000000 in
set_option maxRecDepth 100000 in
theorem in_FnExactByCount (w : World) (s0 : ByteArray) (hb0 : s0.size ≤ 1048576) (r0 : ByteArray)
    (KS : Hid (∀ (W : World), Calls Try.prog 27 #[.string s0] W fun e w' => e = .returned (.string r0) ∧ Below W.heap.size W w'))
    (KI : Hid (∀ (W : World), Calls Try.prog 25 #[.string s0] W fun e w' => e = .returned (.string r0) ∧ Below W.heap.size W w')) :
    Calls Try.prog 7 #[.string s0] w fun e w' => e = .returned (.bool true) ∧ Below w.heap.size w w' := by
  have hg0 : ¬ (1048576 : Int) < (s0.size : Int) := by omega
  go_enter Try.func7, Try.ntmps7
  go_wp2_with fail
  refine (KS.out w  ).mono ?_
  rintro e W1 ⟨rfl, b1⟩
  have B1 : Below w.heap.size w W1 := bel_then b1 (Below.refl w.heap.size w).size (Below.refl w.heap.size w)
  have sB1 := b1.size
  clear b1
  go_wp2_with fail
  refine (KI.out W1  ).mono ?_
  rintro e W2 ⟨rfl, b2⟩
  have B2 : Below w.heap.size w W2 := bel_then b2 B1.size B1
  have sB2 := b2.size
  clear b2
  go_wp2
  go_ret
  exact ⟨rfl, B2⟩
set_option maxRecDepth 100000 in
theorem walk_FnExactByCount (hM : MeetsByCount) (w : World) (s0 : ByteArray) (w0 : s0.size ≤ maxLen) :
    Calls Try.prog 7 #[.string s0] w fun e w' => e = .returned (.bool true) ∧ Below w.heap.size w w' := by
  by_cases hb0 : s0.size ≤ 1048576
  rotate_left
  · have hx : (1048576 : Int) < (s0.size : Int) := by omega
    unfold maxLen at *
    clear hM
    go_enter Try.func7, Try.ntmps7
    go_wp2
    go_ret
    first | exact ⟨rfl, Below.refl _ _⟩ | exact ⟨rfl, (Below.refl _ _).alloc (Nat.le_refl _) _⟩
  obtain ⟨r0, hs, hi⟩ := hM s0 hb0
  exact in_FnExactByCount w s0 hb0 r0  (hidden hs) (hidden hi)
end Go.Proofs.Ytabhbijohjemiaa
