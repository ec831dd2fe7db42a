/- Chapter 13, the program: which ways there are, and what stands for each. -/
import Derived.Test.YtembljihmnmmfaaWayP
import Derived.Test.YtembljihmnmmfaaI12T
namespace Go.Proofs.Ytembljihmnmmfaa
set_option linter.unusedVariables false
set_option linter.unusedSimpArgs false
open Go.RowKit

set_option maxHeartbeats 1000000 in
set_option maxRecDepth 100000 in
theorem implWayOk_any (m t : Int) (b : Bool) (w : World) :
    Calls Try.prog 6 #[.agg #[.int .i64 m, .bool b, .int .i64 t]] w fun e w' => e = .returned (.bool (wayOk m b t)) ∧ Below w.heap.size w w' := by
  obtain ⟨r, hr⟩ : ∃ r, wayOk m b t = r := ⟨_, rfl⟩
  have HR := hidden hr
  have KT := hidden (fun W => tableCountOk_any t W)
  rw [hr]
  clear hr
  by_cases e0 : m = 0
  · subst e0
    clear KT
    cases b
    · by_cases et : t = 0
      · subst et
        obtain rfl : true = r := HR.out
        clear HR
        go_enter Try.func6, Try.ntmps6
        go_wp2
        go_ret
        exact ⟨rfl, (Below.refl _ _).alloc (Nat.le_refl _) _⟩
      · obtain rfl : false = r := by rw [← HR.out]; unfold wayOk; simp [et]
        have hb : (t == 0) = false := beq_eq_false_iff_ne.2 et
        clear HR
        go_enter Try.func6, Try.ntmps6
        go_wp2
        go_ret
        exact ⟨rfl, (Below.refl _ _).alloc (Nat.le_refl _) _⟩
    · obtain rfl : false = r := by rw [← HR.out]; unfold wayOk; simp
      clear HR
      go_enter Try.func6, Try.ntmps6
      go_wp2
      go_ret
      exact ⟨rfl, (Below.refl _ _).alloc (Nat.le_refl _) _⟩
  have hb0 : (m == 0) = false := beq_eq_false_iff_ne.2 e0
  by_cases e12 : m = 1 ∨ m = 2
  · have h1 : Hid (decide (1 ≤ t ∧ t ≤ 4) = r) := by
      rw [← HR.out]
      refine hidden ?_
      unfold wayOk
      rcases e12 with rfl | rfl <;> simp
    have HE := h1
    obtain ⟨q, hq⟩ : ∃ q, decide (1 ≤ t ∧ t ≤ 4) = q := ⟨_, rfl⟩
    rw [hq] at KT HE
    obtain rfl : q = r := HE.out
    clear HR h1 HE hq
    rcases e12 with rfl | rfl
    all_goals
      go_enter Try.func6, Try.ntmps6
      go_wp2_with fail
      refine (KT.out _).mono ?_
      rintro e w1 ⟨rfl, rfl⟩
      go_wp2
      go_ret
      exact ⟨rfl, (Below.refl _ _).alloc (Nat.le_refl _) _⟩
  have e1 : ¬ m = 1 := fun h => e12 (.inl h)
  have e2 : ¬ m = 2 := fun h => e12 (.inr h)
  have hb1 : (m == 1) = false := beq_eq_false_iff_ne.2 e1
  have hb2 : (m == 2) = false := beq_eq_false_iff_ne.2 e2
  clear e12 KT
  by_cases e3 : m = 3
  · subst e3
    by_cases et : t = 0
    · subst et
      obtain rfl : true = r := by rw [← HR.out]; unfold wayOk; simp
      clear HR e0 e1 e2 hb0 hb1 hb2
      go_enter Try.func6, Try.ntmps6
      go_wp2
      go_ret
      exact ⟨rfl, (Below.refl _ _).alloc (Nat.le_refl _) _⟩
    · obtain rfl : false = r := by rw [← HR.out]; unfold wayOk; simp [et]
      have hb : (t == 0) = false := beq_eq_false_iff_ne.2 et
      clear HR e0 e1 e2 hb0 hb1 hb2
      go_enter Try.func6, Try.ntmps6
      go_wp2
      go_ret
      exact ⟨rfl, (Below.refl _ _).alloc (Nat.le_refl _) _⟩
  have hb3 : (m == 3) = false := beq_eq_false_iff_ne.2 e3
  obtain rfl : false = r := by rw [← HR.out]; unfold wayOk; simp [e0, e1, e2, e3]
  clear HR
  go_enter Try.func6, Try.ntmps6
  go_wp2
  go_ret
  exact ⟨rfl, (Below.refl _ _).alloc (Nat.le_refl _) _⟩
end Go.Proofs.Ytembljihmnmmfaa
