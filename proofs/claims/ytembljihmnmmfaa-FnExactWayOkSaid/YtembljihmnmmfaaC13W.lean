/- Chapter 13, the model: is it a way? -/
import Derived.Test.YtembljihmnmmfaaWayP
namespace Go.Proofs.Ytembljihmnmmfaa
set_option linter.unusedVariables false
set_option linter.unusedSimpArgs false
open Go.RowKit

set_option maxHeartbeats 1000000 in
set_option maxRecDepth 100000 in
theorem specWayOk_any (m t : Int) (b : Bool) (w : World) :
    Calls Try.prog 4 #[.agg #[.int .i64 m, .bool b, .int .i64 t]] w fun e w' => e = .returned (.bool (wayOk m b t)) ∧ Below w.heap.size w w' := by
  obtain ⟨r, hr⟩ : ∃ r, wayOk m b t = r := ⟨_, rfl⟩
  have HR := hidden hr
  rw [hr]
  clear hr
  by_cases e0 : m = 0
  · subst e0
    cases b
    · by_cases et : t = 0
      · subst et
        obtain rfl : true = r := HR.out
        clear HR
        go_enter Try.func4, Try.ntmps4
        go_wp2
        go_ret
        exact ⟨rfl, (Below.refl _ _).alloc (Nat.le_refl _) _⟩
      · obtain rfl : false = r := by rw [← HR.out]; unfold wayOk; simp [et]
        have hb : (t == 0) = false := beq_eq_false_iff_ne.2 et
        clear HR
        go_enter Try.func4, Try.ntmps4
        go_wp2
        go_ret
        exact ⟨rfl, (Below.refl _ _).alloc (Nat.le_refl _) _⟩
    · obtain rfl : false = r := by rw [← HR.out]; unfold wayOk; simp
      clear HR
      go_enter Try.func4, Try.ntmps4
      go_wp2
      go_ret
      exact ⟨rfl, (Below.refl _ _).alloc (Nat.le_refl _) _⟩
  have hb0 : (m == 0) = false := beq_eq_false_iff_ne.2 e0
  by_cases e12 : m = 1 ∨ m = 2
  · have h12 : ∃ k : Int, m = k ∧ (k = 1 ∨ k = 2) := ⟨m, rfl, e12⟩
    by_cases h1 : 1 ≤ t
    · by_cases h4 : t ≤ 4
      · obtain rfl : true = r := by rw [← HR.out]; unfold wayOk; rcases e12 with rfl | rfl <;> simp [h1, h4]
        clear HR h12
        rcases e12 with rfl | rfl
        all_goals
          go_enter Try.func4, Try.ntmps4
          go_wp2
          go_ret
          exact ⟨rfl, (Below.refl _ _).alloc (Nat.le_refl _) _⟩
      · obtain rfl : false = r := by rw [← HR.out]; unfold wayOk; rcases e12 with rfl | rfl <;> simp [h4]
        clear HR h12
        rcases e12 with rfl | rfl
        all_goals
          go_enter Try.func4, Try.ntmps4
          go_wp2
          go_ret
          exact ⟨rfl, (Below.refl _ _).alloc (Nat.le_refl _) _⟩
    · obtain rfl : false = r := by rw [← HR.out]; unfold wayOk; rcases e12 with rfl | rfl <;> simp [h1]
      clear HR h12
      rcases e12 with rfl | rfl
      all_goals
        go_enter Try.func4, Try.ntmps4
        go_wp2
        go_ret
        exact ⟨rfl, (Below.refl _ _).alloc (Nat.le_refl _) _⟩
  have e1 : ¬ m = 1 := fun h => e12 (.inl h)
  have e2 : ¬ m = 2 := fun h => e12 (.inr h)
  have hb1 : (m == 1) = false := beq_eq_false_iff_ne.2 e1
  have hb2 : (m == 2) = false := beq_eq_false_iff_ne.2 e2
  clear e12
  by_cases e3 : m = 3
  · subst e3
    by_cases et : t = 0
    · subst et
      obtain rfl : true = r := by rw [← HR.out]; unfold wayOk; simp
      clear HR e0 e1 e2 hb0 hb1 hb2
      go_enter Try.func4, Try.ntmps4
      go_wp2
      go_ret
      exact ⟨rfl, (Below.refl _ _).alloc (Nat.le_refl _) _⟩
    · obtain rfl : false = r := by rw [← HR.out]; unfold wayOk; simp [et]
      have hb : (t == 0) = false := beq_eq_false_iff_ne.2 et
      clear HR e0 e1 e2 hb0 hb1 hb2
      go_enter Try.func4, Try.ntmps4
      go_wp2
      go_ret
      exact ⟨rfl, (Below.refl _ _).alloc (Nat.le_refl _) _⟩
  have hb3 : (m == 3) = false := beq_eq_false_iff_ne.2 e3
  obtain rfl : false = r := by rw [← HR.out]; unfold wayOk; simp [e0, e1, e2, e3]
  clear HR
  go_enter Try.func4, Try.ntmps4
  go_wp2
  go_ret
  exact ⟨rfl, (Below.refl _ _).alloc (Nat.le_refl _) _⟩
end Go.Proofs.Ytembljihmnmmfaa
