/- Chapter 1: reading bits (the model). -/
import Derived.Test.YtabhbijohjemiaaC1One
import Derived.Test.YtabhbijohjemiaaMem
import Derived.RegionTactic
import Derived.ChangeAlike
import Derived.Deep.QuietTactic
import Derived.BigQuiet
namespace Go.Proofs.Ytabhbijohjemiaa
set_option linter.unusedVariables false
set_option linter.unusedSimpArgs false
open Go.RowKit

theorem quiet_add_l {P : Program} {f : FuncId} {args : Array Value} {w : World} {a n : Nat} {v : Value}
    (h : Calls P f args (w.drewN (a + n)) fun e w' => e = .returned v ∧ w.drewN (a + n) = w') :
    Calls P f args (w.drewN (a + n)) fun e w'' => e = .returned v ∧ ∃ m, w'' = w.drewN (a + m) :=
  h.mono fun _ _ ⟨he, hm⟩ => ⟨he, n, hm.symm⟩
theorem quiet_l {P : Program} {f : FuncId} {args : Array Value} {w : World} {n : Nat} {v : Value}
    (h : Calls P f args (w.drewN n) fun e w' => e = .returned v ∧ w.drewN n = w') : Calls P f args (w.drewN n) fun e w'' => e = .returned v ∧ ∃ m, w'' = w.drewN m :=
  h.mono fun _ _ ⟨he, hm⟩ => ⟨he, n, hm.symm⟩

set_option maxHeartbeats 1000000 in
set_option maxRecDepth 100000 in
theorem l1get_yes (s : ByteArray) (at0 n0 b : Nat) (T : TypeId) (w : World) (hs : s.size ≤ 1048576) (hn : n0 ≤ 32) (hl : at0 + n0 ≤ 8 * s.size)
    (hb : Has w b T #[.string s, .int .i64 at0]) :
    Calls Try.prog 95 #[.pointer (some ⟨b, 0, none⟩), .int .i64 n0] w fun e w' =>
      e = .returned (.int .i64 (num (row s at0 n0))) ∧ Has w' b T #[.string s, .int .i64 ((at0 + n0 : Nat) : Int)] ∧ Only b w w' := by
  have c0 := hb.cell 0
  have c1 := hb.cell 1
  simp at c0 c1
  have hx : ¬ (8 * (s.size : Int) - at0 < n0) := by omega
  go_enter Try.func95, Try.ntmps95
  go_wp2
  go_quiet (fail)
  go_wp2
  go_loopw [5, 6] (fun v i wr => ∃ k : Nat, k ≤ n0 ∧ i = .int .i64 k ∧ v = .int .i64 (num (row s at0 k)) ∧ Has wr b T #[.string s, .int .i64 at0] ∧ Only b w wr) (fun _ i _ => n0 - (intOf i).toNat)
  case atStart => exact ⟨0, Nat.zero_le _, rfl, rfl, hb.drewN _, (Only.refl _ _).drewN _⟩
  case round =>
    obtain ⟨k, hk, rfl, rfl, hB, hO⟩ := hrel
    clear c0 c1
    have c0 := hB.cell 0
    have c1 := hB.cell 1
    have f1 := hB.free 1
    simp at c0 c1
    by_cases hlt : k < n0
    · have hv : num (row s at0 k) < 2 ^ 32 := Nat.lt_of_lt_of_le (num_row_lt s at0 k) (Nat.pow_le_pow_right (by omega) (by omega))
      have hbt := bit_lt s (at0 + k)
      have hnx := hidden (num_row_succ s at0 k)
      go_wp2
      have q1 : IntKind.i64.wrap ((at0 : Int) + (k : Int)) = ((at0 + k : Nat) : Int) := by rw [← Int.natCast_add]; exact wrap_i64_n _ (by omega)
      go_quiet ((go_at_call 105; exact quiet_l (l1one_any s (at0 + k) _ (by unfold maxLen; omega) (by omega))))
      go_wp2
      refine ⟨⟨k + 1, by omega, by go_num, ?_, hB.drewN _, hO.drewN _⟩, by simp [intOf]; omega⟩
      rw [hnx.out]; simp
    · have hkn : k = n0 := by omega
      subst hkn
      go_wp2
      go_ret
      refine ⟨rfl, ?_, hO.store (.inl rfl) _⟩
      have := hB.store 1 (.int .i64 (↑at0 + ↑k))
      simpa using this

theorem l1get_no (s : ByteArray) (at0 n0 b : Nat) (T : TypeId) (w : World) (hs : s.size ≤ 1048576) (hn : n0 ≤ 32) (ha : at0 ≤ 8 * s.size) (hl : 8 * s.size < at0 + n0)
    (hb : Has w b T #[.string s, .int .i64 at0]) :
    Calls Try.prog 95 #[.pointer (some ⟨b, 0, none⟩), .int .i64 n0] w fun e w' => e = .returned (.int .i64 (-1)) ∧ Only b w w' := by
  have c0 := hb.cell 0
  have c1 := hb.cell 1
  simp at c0 c1
  have hx : (8 * (s.size : Int) - at0 < n0) := by omega
  go_enter Try.func95, Try.ntmps95
  go_wp2
  go_quiet (fail)
  go_wp2
  go_ret
  exact ⟨rfl, (Only.refl _ _).drewN _⟩

theorem l1get_none (s : ByteArray) (at0 n0 b : Nat) (T : TypeId) (w : World) (hs : s.size ≤ 1048576) (hn : n0 ≤ 32) (ha : at0 ≤ 8 * s.size) (hl : 8 * s.size < at0 + n0)
    (hb : Has w b T #[.string s, .int .i64 at0]) :
    Calls Try.prog 95 #[.pointer (some ⟨b, 0, none⟩), .int .i64 n0] w fun e w' => e = .returned (.int .i64 (-1)) ∧ ∃ nq, w' = w.drewN nq := by
  have c0 := hb.cell 0
  have c1 := hb.cell 1
  simp at c0 c1
  have hx : (8 * (s.size : Int) - at0 < n0) := by omega
  go_enter Try.func95, Try.ntmps95
  go_wp2
  go_quiet (fail)
  go_wp2
  go_ret
  exact ⟨rfl, _, rfl⟩

end Go.Proofs.Ytabhbijohjemiaa
