/- The walk of the exact law of ToRanks (what is asked: MeetsF). -/
import Derived.Test.YtabhbijohjemiaaExA
namespace Go.Proofs.Ytabhbijohjemiaa
set_option linter.unusedVariables false
set_option linter.unusedSimpArgs false
open Go.RowKit Go.ChangeShapes Go.WideShapes Go.ChangeAt

/-- For all arguments in bounds the model and the program answer the same. -/
def MeetsToRanks : Prop := ∀ (s0 : ByteArray) (s1 : ByteArray), s0.size ≤ 1048576 → s1.size ≤ 1048576 → ∃ (y0 : List Int) (r1 : Bool), (y0.length ≤ 1048576 ∧ ∀ x ∈ y0, -9223372036854775808 ≤ x ∧ x ≤ 9223372036854775807) ∧ (∀ (W : World), Calls Try.prog 31 #[.string s0, .string s1] W fun e w' => ∃ v0, e = .returned (.tuple #[v0, .bool r1]) ∧ w'.ownsRow W.heap.size 3 1 v0 y0.length (intsV y0) ∧ Below W.heap.size W w') ∧ (∀ (W : World), Calls Try.prog 30 #[.string s0, .string s1] W fun e w' => ∃ v0, e = .returned (.tuple #[v0, .bool r1]) ∧ w'.ownsRow W.heap.size 3 1 v0 y0.length (intsV y0) ∧ Below W.heap.size W w')
set_option maxHeartbeats 4000000 in
set_option maxRecDepth 100000 in
theorem in_FnExactToRanks (w : World) (s0 : ByteArray) (hb0 : s0.size ≤ 1048576) (s1 : ByteArray) (hb1 : s1.size ≤ 1048576) (y0 : List Int) (r1 : Bool)
    (m0 : Nat) (HY0 : Hid (y0.length = m0)) (hm0 : m0 ≤ 1048576) (HR0 : Hid (∀ x ∈ y0, -9223372036854775808 ≤ x ∧ x ≤ 9223372036854775807))
    (KS : Hid (∀ (W : World), Calls Try.prog 31 #[.string s0, .string s1] W fun e w' => ∃ v0, e = .returned (.tuple #[v0, .bool r1]) ∧ w'.ownsRow W.heap.size 3 1 v0 m0 (intsV y0) ∧ Below W.heap.size W w'))
    (KI : Hid (∀ (W : World), Calls Try.prog 30 #[.string s0, .string s1] W fun e w' => ∃ v0, e = .returned (.tuple #[v0, .bool r1]) ∧ w'.ownsRow W.heap.size 3 1 v0 m0 (intsV y0) ∧ Below W.heap.size W w')) :
    Calls Try.prog 13 #[.string s0, .string s1] w fun e w' => e = .returned (.bool true) ∧ Below w.heap.size w w' := by
  have hg0 : ¬ (1048576 : Int) < (s0.size : Int) := by omega
  have hg1 : ¬ (1048576 : Int) < (s1.size : Int) := by omega
  have hn0 : ¬ (1 : Int) + (m0 : Int) < 0 := by omega
  have hq0 : (1 : Int) + (m0 : Int) ≠ (1 : Int) + (m0 : Int) → False := fun h => h rfl
  go_enter Try.func13, Try.ntmps13
  go_wp2_with fail
  refine (KS.out w  ).mono ?_
  rintro e W1 ⟨v0_1, rfl, o0_1, b1⟩
  obtain ⟨gw0, cw0, rfl⟩ := own_form o0_1
  have B1 : Below w.heap.size w W1 := bel_then b1 (Below.refl w.heap.size w).size (Below.refl w.heap.size w)
  have sB1 := b1.size
  have Yw0 := hidden o0_1
  have Qw0 := own_ranged o0_1
  clear o0_1
  clear b1
  go_wp2_with fail
  refine (KI.out W1  ).mono ?_
  rintro e W2 ⟨v0_2, rfl, o0_2, b2⟩
  obtain ⟨gg0, cg0, rfl⟩ := own_form o0_2
  have B2 : Below w.heap.size w W2 := bel_then b2 B1.size B1
  have sB2 := b2.size
  have Yw0_2 := hidden (own_bel Yw0.out b2)
  clear Yw0
  have Yg0 := hidden o0_2
  have Qg0 := own_ranged o0_2
  clear o0_2
  clear b2
  go_wp2_with fail
  refine (eq_e _ _ _ _ y0 W2 HY0.out (own_ints Yg0.out HR0.out hm0) (own_ints Yw0_2.out HR0.out hm0)).mono ?_
  rintro e W3 ⟨rfl, b3⟩
  have B3 : Below w.heap.size w W3 := bel_then b3 B2.size B2
  have sB3 := b3.size
  have Yw0_3 := hidden (own_bel Yw0_2.out b3)
  clear Yw0_2
  have Yg0_3 := hidden (own_bel Yg0.out b3)
  clear Yg0
  clear b3
  go_wp2_with fail
  refine (mark_e (k := 1) _ y0 W3 Yg0_3.out hm0 (by omega) _ (by simp)).mono ?_
  rintro e W4 ⟨rfl, o4, gr4⟩
  have B4 : Below w.heap.size w W4 := bel_grown B3 gr4 Qg0 (by omega)
  have sB4 := gr4.size
  have Yw0_4 := hidden (Yw0_3.out.kept gr4 (ranged_ne Qw0 Qg0 (by omega)))
  clear Yw0_3
  have Yg0_4 := hidden o4
  clear Yg0_3
  clear o4 gr4
  go_wp2_with fail
  refine (held_e _ W4 Yg0_4.out hm0).mono ?_
  rintro e _ ⟨rfl, rfl⟩
  go_wp2_with fail
  refine (KI.out W4  ).mono ?_
  rintro e W5 ⟨v0_5, rfl, o0_5, b5⟩
  obtain ⟨gh0, ch0, rfl⟩ := own_form o0_5
  have B5 : Below w.heap.size w W5 := bel_then b5 B4.size B4
  have sB5 := b5.size
  have Yw0_5 := hidden (own_bel Yw0_4.out b5)
  clear Yw0_4
  have Yg0_5 := hidden (own_bel Yg0_4.out b5)
  clear Yg0_4
  have Yh0 := hidden o0_5
  have Qh0 := own_ranged o0_5
  clear o0_5
  clear b5
  go_wp2_with fail
  refine (eq_e _ _ _ _ y0 W5 HY0.out (own_ints Yh0.out HR0.out hm0) (own_ints Yw0_5.out HR0.out hm0)).mono ?_
  rintro e W6 ⟨rfl, b6⟩
  have B6 : Below w.heap.size w W6 := bel_then b6 B5.size B5
  have sB6 := b6.size
  have Yw0_6 := hidden (own_bel Yw0_5.out b6)
  clear Yw0_5
  have Yg0_6 := hidden (own_bel Yg0_5.out b6)
  clear Yg0_5
  have Yh0_6 := hidden (own_bel Yh0.out b6)
  clear Yh0
  clear b6
  go_wp2_with fail
  refine (held_e _ W6 Yg0_6.out hm0).mono ?_
  rintro e _ ⟨rfl, rfl⟩
  go_wp2
  go_ret
  exact ⟨rfl, B6⟩
set_option maxRecDepth 100000 in
theorem walk_FnExactToRanks (hM : MeetsToRanks) (w : World) (s0 : ByteArray) (w0 : s0.size ≤ maxLen) (s1 : ByteArray) (w1 : s1.size ≤ maxLen) :
    Calls Try.prog 13 #[.string s0, .string s1] w fun e w' => e = .returned (.bool true) ∧ Below w.heap.size w w' := by
  by_cases hb0 : s0.size ≤ 1048576
  rotate_left
  · have hx : (1048576 : Int) < (s0.size : Int) := by omega
    unfold maxLen at *
    clear hM
    go_enter Try.func13, Try.ntmps13
    go_wp2
    go_ret
    first | exact ⟨rfl, Below.refl _ _⟩ | exact ⟨rfl, (Below.refl _ _).alloc (Nat.le_refl _) _⟩
  by_cases hb1 : s1.size ≤ 1048576
  rotate_left
  · have hx : (1048576 : Int) < (s1.size : Int) := by omega
    have hx0 : ¬ (1048576 : Int) < (s0.size : Int) := by omega
    unfold maxLen at *
    clear hM
    go_enter Try.func13, Try.ntmps13
    go_wp2
    go_ret
    first | exact ⟨rfl, Below.refl _ _⟩ | exact ⟨rfl, (Below.refl _ _).alloc (Nat.le_refl _) _⟩
  obtain ⟨y0, r1, ⟨hm0, hr0⟩, hs, hi⟩ := hM s0 s1 hb0 hb1
  exact in_FnExactToRanks w s0 hb0 s1 hb1 y0 r1 _ (hidden rfl) hm0 (hidden hr0) (hidden hs) (hidden hi)
end Go.Proofs.Ytabhbijohjemiaa
