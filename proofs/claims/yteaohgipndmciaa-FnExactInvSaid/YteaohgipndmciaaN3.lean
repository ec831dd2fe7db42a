/- Merged: C8J. -/
import Derived.Test.YteaohgipndmciaaC8I
namespace Go.Proofs.Yteaohgipndmciaa
set_option linter.unusedVariables false
set_option linter.unusedSimpArgs false
open Go.RowKit

set_option maxHeartbeats 1000000 in
set_option maxRecDepth 100000 in
theorem specInv_any (a : Option Addr) (cap B : Nat) (z : List Int) (n : Int) (w : World) (hz : Ints w B a z) (hB : B ≤ w.heap.size) (hl : z.length ≤ 1048576) (n1 : -9223372036854775808 ≤ n) (n2 : n ≤ 9223372036854775807) :
    Calls Try.prog 47 #[.slice a z.length cap, .int .i64 n] w fun e w' => ∃ v0 v1, e = .returned (.tuple #[v0, v1]) ∧ w'.ownsRow w.heap.size 3 1 v0 (invC z n).length (intsV (invC z n)) ∧ w'.ownsRow w.heap.size 3 1 v1 (invG z n).length (intsV (invG z n)) ∧ Hid (∀ k, v0.ownBlock = some k → v1.ownBlock ≠ some k) ∧ Below w.heap.size w w' := by
  by_cases hok : rOk z n = true
  · obtain ⟨L, m, rfl, rfl, hm1, hm2, hL6, hLm⟩ := rOk_nats hok
    rw [invC_yes hok, invG_yes hok, intsV_ints, intsV_ints, ints_len, ints_len, ints_len, List.length_map, List.length_range]
    exact specInv_yes a cap B m L w hz hB hok hm1 hm2 hL6 hLm
  · have hno := bool_false hok
    have KR := hidden (specRanksOk_any a cap B z n w hz hl n1 n2)
    rw [hno] at KR
    rw [invC_no hno, invG_no hno]
    clear hno hok
    go_enter Try.func47, Try.ntmps47
    go_wp2_with fail
    refine KR.out.mono ?_
    rintro e w0 ⟨rfl, rfl⟩
    go_wp2
    go_ret2
    exact ⟨_, _, rfl, World.ownsRow_nil _ _ _ _, World.ownsRow_nil _ _ _ _, hidden (fun k hk => by simp [Value.ownBlock] at hk), Below.refl _ _⟩
end Go.Proofs.Yteaohgipndmciaa
