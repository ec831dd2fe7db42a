/- Merged: C1SRd0, C1IOk, C1, C1IRd, C2. -/
import Derived.Test.YteaohgipndmciaaC1One
import Derived.Test.YteaohgipndmciaaMem
import Derived.Test.YteaohgipndmciaaV1
namespace Go.Proofs.Yteaohgipndmciaa
set_option linter.unusedVariables false
set_option linter.unusedSimpArgs false
open Go.RowKit

end Go.Proofs.Yteaohgipndmciaa
namespace Go.Proofs.Yteaohgipndmciaa
set_option linter.unusedVariables false
set_option linter.unusedSimpArgs false
open Go.RowKit

theorem okB_no {s : ByteArray} {n : Int} (h : ¬ (0 ≤ n ∧ n ≤ 400000 ∧ s.size = (n.toNat + 7) / 8)) : okB s n = false := by
  rw [Bool.eq_false_iff, Ne, okB_iff]; omega

end Go.Proofs.Yteaohgipndmciaa
namespace Go.Proofs.Yteaohgipndmciaa
set_option linter.unusedVariables false
set_option linter.unusedSimpArgs false
open Go.RowKit


end Go.Proofs.Yteaohgipndmciaa
namespace Go.Proofs.Yteaohgipndmciaa
set_option linter.unusedVariables false
set_option linter.unusedSimpArgs false
open Go.RowKit

theorem implRdOk_yes (s : ByteArray) (a : Nat) (w : World) (hs : s.size ≤ 1048576) (hl : a ≤ 8 * s.size) :
    Calls Try.prog 109 #[.agg #[.string s, .int .i64 a]] w fun e w' => e = .returned (.bool true) ∧ Below w.heap.size w w' := by
  have hx : ((a : Int) ≤ 8 * (s.size : Int)) := by omega
  go_enter Try.func109, Try.ntmps109
  go_wp2
  go_ret
  exact ⟨rfl, (Below.refl _ _).alloc (Nat.le_refl _) _⟩
theorem implRdOk_no (s : ByteArray) (a : Int) (w : World) (hs : s.size ≤ 1048576) (b1 : -9223372036854775808 ≤ a) (b2 : a ≤ 9223372036854775807) (h : ¬ (0 ≤ a ∧ a ≤ 8 * s.size)) :
    Calls Try.prog 109 #[.agg #[.string s, .int .i64 a]] w fun e w' => e = .returned (.bool false) ∧ Below w.heap.size w w' := by
  by_cases h0 : 0 ≤ a
  · have hx : ¬ (a ≤ 8 * (s.size : Int)) := by omega
    clear h
    go_enter Try.func109, Try.ntmps109
    go_wp2
    go_ret
    exact ⟨rfl, (Below.refl _ _).alloc (Nat.le_refl _) _⟩
  · clear h
    go_enter Try.func109, Try.ntmps109
    go_wp2
    go_ret
    exact ⟨rfl, (Below.refl _ _).alloc (Nat.le_refl _) _⟩

end Go.Proofs.Yteaohgipndmciaa
namespace Go.Proofs.Yteaohgipndmciaa
set_option linter.unusedVariables false
set_option linter.unusedSimpArgs false
open Go.RowKit

theorem upW_succ (k w : Nat) : upW (k + 1) w = up (upW k w) := rfl
theorem i64_xor_int (a b : Int) (ha : 0 ≤ a ∧ a < 4611686018427387904) (hb : 0 ≤ b ∧ b < 4611686018427387904) : bits .xor .i64 a b = ((a.toNat ^^^ b.toNat : Nat) : Int) := by
  have := i64_xor_nat a.toNat b.toNat (by omega) (by omega)
  rwa [Int.toNat_of_nonneg ha.1, Int.toNat_of_nonneg hb.1] at this
/-- Moving up by a bit, as 32-bit words do it. -/
theorem up_u32_hi (w : Nat) (h : w < 4294967296) (hc : w / 2147483648 = 1) : bits .xor .u32 ((w : Int) * 2 % 4294967296) 79764919 = (up w : Int) := by
  have e : ((w : Int) * 2 % 4294967296) = ((2 * w % 4294967296 : Nat) : Int) := by omega
  rw [e]
  refine (u32_xor_nat (2 * w % 4294967296) 79764919 (by omega) (by omega)).trans ?_
  unfold up; rw [if_pos hc]
theorem up_lo (w : Nat) (h : w < 4294967296) (hc : ¬ w / 2147483648 = 1) : (w : Int) * 2 = (up w : Int) := by
  unfold up; rw [if_neg hc]; omega
theorem up_i64_hi (w : Nat) (h : w < 4294967296) (hc : w / 2147483648 = 1) : bits .xor .i64 ((w : Int) * 2 % 4294967296) 79764919 = (up w : Int) := by
  have e : ((w : Int) * 2 % 4294967296) = ((2 * w % 4294967296 : Nat) : Int) := by omega
  rw [e]
  refine (i64_xor_nat (2 * w % 4294967296) 79764919 (by omega) (by omega)).trans ?_
  unfold up; rw [if_pos hc]

theorem mask32 (n : Int) : bits .and .i64 n 4294967295 = n % 4294967296 := i64_mask n 32 (by omega)
/-- What CrcEntry answers. -/
def entI (b : Int) : Int := if 0 ≤ b ∧ b ≤ 255 then (entry b.toNat : Int) else -1
theorem entI_yes (b : Nat) (h : b < 256) : entI b = (entry b : Int) := by unfold entI; rw [if_pos (by omega)]; simp
theorem entI_no (b : Int) (h : ¬ (0 ≤ b ∧ b ≤ 255)) : entI b = -1 := by unfold entI; rw [if_neg h]
end Go.Proofs.Yteaohgipndmciaa
