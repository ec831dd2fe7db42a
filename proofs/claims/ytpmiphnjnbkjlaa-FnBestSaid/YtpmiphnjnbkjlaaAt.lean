/- The law's small function that reads one byte of the code. -/
import Derived.Test.YtpmiphnjnbkjlaaDr
namespace Go.Proofs.Ytpmiphnjnbkjlaa
set_option linter.unusedVariables false
set_option linter.unusedSimpArgs false
open Go.RowKit

theorem at_any (a : Option Addr) (len cap : Nat) (zs : List Int) (i : Int) (B : Nat) (w : World) (hcode : Code w B a len cap zs) (hi : 0 ≤ i ∧ i ≤ 1000000) :
    Calls Try.prog 19 #[.slice a len cap, .int .i64 i] w fun e w' => ∃ x : Int, e = .returned (.int .i64 x) ∧ 0 ≤ x ∧ x ≤ 255 ∧ w = w' := by
  have hl := hcode.1
  by_cases h0 : len = 0
  · have h0' : ((len : Int) == 0) = true := by simp; omega
    have h0'' : ((len == 0) : Bool) = true := by simp; omega
    go_enter Try.func19, Try.ntmps19
    go_wp2
    go_ret
    exact ⟨0, rfl, by omega, by omega, rfl⟩
  · obtain ⟨b, off, rfl, hb, hcell⟩ := hcode.2.2 (by omega)
    have hne : ((len : Int) == 0) = false := by simp; omega
    have hm := below_lemma i len hi.1 (by omega)
    obtain ⟨j, hj⟩ : ∃ j : Nat, i % (len : Int) = j := ⟨(i % (len : Int)).toNat, by omega⟩
    rw [hj] at hm
    have ci := hcell j (by omega)
    have hwf : 0 ≤ zs.getD j 0 ∧ zs.getD j 0 ≤ 255 := by
      have := range_u8 hcode.2.1 j
      simpa [List.getD_eq_getElem?_getD] using this
    obtain ⟨y, hy⟩ : ∃ y, zs.getD j 0 = y := ⟨_, rfl⟩
    rw [hy] at ci hwf
    have h1 := hi.1
    have h2 := hi.2
    have hlen : 0 < len := by omega
    clear hcell hy hi
    go_enter Try.func19, Try.ntmps19
    go_wp2
    go_ret
    exact ⟨y, rfl, hwf.1, hwf.2, rfl⟩
end Go.Proofs.Ytpmiphnjnbkjlaa
