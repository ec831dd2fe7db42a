/- Merged: I7X. -/
import Derived.Test.YtpjgoikdfkaefaaGreatQZ23
import Derived.Test.YtpjgoikdfkaefaaGreatQZ20
namespace Go.Proofs.YtpjgoikdfkaefaaGreat
set_option linter.unusedVariables false
set_option linter.unusedSimpArgs false
open Go.RowKit Go.Maps

theorem len8_zero : Lib.len8 0 = 0 := by decide +kernel
set_option maxHeartbeats 4000000 in
set_option maxRecDepth 100000 in
theorem len64_zero (w : World) : Calls Tryz.prog 114 #[.int .u64 0] w fun e w' => e = .returned (.int .i64 0) ∧ w' = w := by
  have hz := hidden Lib.len8tab_size
  go_enter Tryz.func114, Tryz.ntmps114
  go_wp2
  go_ret
  exact ⟨congrArg Ending.returned (by rw [len8_zero]; exact congrArg (Value.int IntKind.i64) (by decide +kernel : wrap64 (wrap64 0) = 0)), rfl⟩
theorem bitsLen_any (x : Nat) (w : World) (hx : x ≤ 255) :
    Calls Tryz.prog 93 #[.int .u64 x] w fun e w' => e = .returned (.int .i64 ((if x = 0 then 0 else Nat.log2 x + 1 : Nat) : Int)) ∧ w' = w := by
  have K : Hid (∀ W : World, Calls Tryz.prog 114 #[.int .u64 x] W fun e w' => e = .returned (.int .i64 ((if x = 0 then 0 else Nat.log2 x + 1 : Nat) : Int)) ∧ w' = W) := hidden (fun W => by
    by_cases h : x = 0
    · subst h; exact len64_zero W
    · rw [if_neg h]
      have := len64_small x W (by omega) (by omega)
      rwa [Int.toNat_natCast] at this)
  obtain ⟨g, hg⟩ : ∃ g, (if x = 0 then 0 else Nat.log2 x + 1) = g := ⟨_, rfl⟩
  rw [hg] at K ⊢
  clear hg
  go_enter Tryz.func93, Tryz.ntmps93
  go_wp2_with fail
  refine (K.out _).mono ?_
  rintro e w1 ⟨rfl, rfl⟩
  go_wp2
  go_ret
  exact ⟨rfl, rfl⟩
theorem size16 (w : World) : (sizeOf 3).run Tryz.prog w = .ok 1 w := by kernel_rfl
theorem at_bef {u : List Nat} (hb : Byt u) {i : Nat} (hi : i < u.length) : ∃ g, g < 16 ∧ befG u g ≤ i ∧ i < befG u (g + 1) := by
  have h16 : i < befG u 16 := by rw [befG_all hb]; exact hi
  have key : ∀ n, i < befG u n → ∃ g, g < n ∧ befG u g ≤ i ∧ i < befG u (g + 1) := by
    intro n
    induction n with
    | zero => intro h; rw [befG_zero] at h; omega
    | succ n ih =>
      intro h
      by_cases h2 : i < befG u n
      · obtain ⟨g, hg, h3⟩ := ih h2
        exact ⟨g, by omega, h3⟩
      · exact ⟨n, by omega, by omega, h⟩
  exact key 16 h16
end Go.Proofs.YtpjgoikdfkaefaaGreat
