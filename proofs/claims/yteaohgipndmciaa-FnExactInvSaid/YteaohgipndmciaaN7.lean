/- Merged: M8I. -/
import Derived.Test.YteaohgipndmciaaN5
import Derived.Test.YteaohgipndmciaaN1
import Derived.Test.YteaohgipndmciaaN3
import Derived.Test.YteaohgipndmciaaN6
namespace Go.Proofs.Yteaohgipndmciaa
set_option linter.unusedVariables false
set_option linter.unusedSimpArgs false
open Go.RowKit

theorem invC_range (z : List Int) (n : Int) : (invC z n).length ≤ 1048576 ∧ ∀ x ∈ invC z n, -9223372036854775808 ≤ x ∧ x ≤ 9223372036854775807 := by
  by_cases hok : rOk z n = true
  · obtain ⟨L, m, rfl, rfl, hm1, hm2, hL6, hLm⟩ := rOk_nats hok
    rw [invC_yes hok]
    refine ints_range (m := 1000) (by rw [List.length_map, List.length_range]; omega) (fun x hx => ?_) (by omega)
    obtain ⟨y, _, rfl⟩ := List.mem_map.1 hx
    have := List.count_le_length (a := y) (l := L)
    omega
  · rw [invC_no (bool_false hok)]; exact nil_range
theorem invG_range (z : List Int) (n : Int) : (invG z n).length ≤ 1048576 ∧ ∀ x ∈ invG z n, -9223372036854775808 ≤ x ∧ x ≤ 9223372036854775807 := by
  by_cases hok : rOk z n = true
  · obtain ⟨L, m, rfl, rfl, hm1, hm2, hL6, hLm⟩ := rOk_nats hok
    rw [invG_yes hok]
    exact ints_range (m := 1000) (Nat.le_trans (gapsTo_le hLm (by omega)) hL6) (fun x hx => by have := gapsTo_mem hx; omega) (by omega)
  · rw [invG_no (bool_false hok)]; exact nil_range
theorem meetsInv : MeetsInv := fun z n hl hr n1 n2 => ⟨invC z n, invG z n, invC_range z n, invG_range z n,
  fun W p c hI => specInv_any (some p) c W.heap.size z n W hI (Nat.le_refl _) hl n1 n2,
  fun W p c hI => implInv_any (some p) c W.heap.size z n W hI (Nat.le_refl _) hl n1 n2⟩
end Go.Proofs.Yteaohgipndmciaa
