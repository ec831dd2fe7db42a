/- Chapter 1: reading n bits. -/
import Derived.Test.YtabhbijohjemiaaC1One
import Derived.Test.YtabhbijohjemiaaMem
import Derived.RegionTactic
import Derived.ChangeAlike
import Derived.Deep.QuietTactic
import Derived.BigQuiet
namespace Go.Proofs.Ytabhbijohjemiaa
set_option linter.unusedVariables false
set_option linter.unusedSimpArgs false
open Go.RowKit

set_option maxHeartbeats 1000000 in
set_option maxRecDepth 100000 in
theorem take_any (s : ByteArray) (at0 n0 b : Nat) (T : TypeId) (w : World) (hs : s.size ≤ 1048576) (hn : n0 ≤ 32) (hl : at0 + n0 ≤ 8 * s.size)
    (hb : Has w b T #[.string s, .int .i64 at0]) :
    Calls Try.prog 93 #[.pointer (some ⟨b, 0, none⟩), .int .i64 n0] w fun e w' =>
      e = .returned (.int .i64 (num (row s at0 n0))) ∧ Has w' b T #[.string s, .int .i64 ((at0 + n0 : Nat) : Int)] ∧ Only b w w' := by
  go_enter Try.func93, Try.ntmps93
  go_wp2
  go_loopw [1, 5, 6, 7, 8] (fun n v _ _ _ wr => ∃ i p m : Nat, Hid (i + m = n0) ∧ Hid (p = at0 + i) ∧ p + m ≤ 8 * s.size ∧ n = .int .i64 m ∧ v = .int .i64 (num (row s at0 i)) ∧ Has wr b T #[.string s, .int .i64 p] ∧ Only b w wr) (fun n _ _ _ _ _ => (intOf n).toNat)
  case atStart => exact ⟨0, at0, n0, hidden (by omega), hidden rfl, hl, rfl, rfl, hb, Only.refl _ _⟩
  case round =>
    obtain ⟨i, p, m, H1, H2, hpm, rfl, rfl, hB, hO⟩ := hrel
    have c0 := hB.cell 0
    have c1 := hB.cell 1
    have f1 := hB.free 1
    simp at c0 c1
    by_cases hlt : 0 < m
    · have hp8 : p / 8 < s.size := by omega
      have hi8 : 0 ≤ (p : Int) / 8 ∧ (p : Int) / 8 < s.size := by omega
      by_cases hm : m ≤ 8 - p % 8
      · go_wp2
        go_quiet (fail)
        go_wp2
        have hs1 := read_step s at0 i p m H2.out (by have := H1.out; omega) hm hp8
        refine ⟨⟨i + m, p + m, 0, hidden (by have := H1.out; omega), hidden (by have := H2.out; omega), by omega, rfl, ?_, ?_, ?_⟩, ?_⟩
        · rw [hs1]
        · have := (hB.drewN nq).store 1 (.int .i64 (↑p + ↑m))
          simpa using this
        · exact (hO.drewN nq).store (.inl rfl) _
        · simp [intOf]; omega
      · go_wp2
        go_quiet (fail)
        go_wp2
        have hs1 := read_step_all s at0 i p H2.out (by have := H1.out; omega) hp8
        refine ⟨⟨i + (8 - p % 8), p + (8 - p % 8), m - (8 - p % 8), hidden (by have := H1.out; omega), hidden (by have := H2.out; omega), by omega, ?_, ?_, ?_, ?_⟩, ?_⟩
        · rw [show ((m - (8 - p % 8) : Nat) : Int) = (m : Int) - (8 - (p : Int) % 8) by omega]
        · rw [hs1]
        · have := (hB.drewN nq).store 1 (.int .i64 (↑p + (8 - ↑p % 8)))
          rw [show ((p + (8 - p % 8) : Nat) : Int) = (p : Int) + (8 - (p : Int) % 8) by omega]
          simpa using this
        · exact (hO.drewN nq).store (.inl rfl) _
        · simp [intOf]; omega
    · go_wp2
      go_ret
      have hin : i = n0 := by have := H1.out; omega
      have hpn : p = at0 + n0 := by have := H2.out; omega
      subst hin; subst hpn
      exact ⟨rfl, hB, hO⟩
end Go.Proofs.Ytabhbijohjemiaa
