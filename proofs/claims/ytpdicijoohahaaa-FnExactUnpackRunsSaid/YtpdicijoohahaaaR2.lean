/- Merged: M8M. -/
import Derived.Test.YtpdicijoohahaaaR1
import Derived.Test.YtpdicijoohahaaaI8I
namespace Go.Proofs.Ytpdicijoohahaaa
set_option linter.unusedVariables false
set_option linter.unusedSimpArgs false
open Go.RowKit

theorem ints_range {L : List Nat} {m : Nat} (hl : L.length ≤ 600) (h : ∀ x ∈ L, x < m) (hm : m ≤ 1048576) : (ints L).length ≤ 1048576 ∧ ∀ x ∈ ints L, -9223372036854775808 ≤ x ∧ x ≤ 9223372036854775807 := by
  refine ⟨by rw [ints_len]; omega, fun x hx => ?_⟩
  obtain ⟨y, hy, rfl⟩ := List.mem_map.1 hx
  have := h y hy
  omega
theorem nil_range : ([] : List Int).length ≤ 1048576 ∧ ∀ x ∈ ([] : List Int), -9223372036854775808 ≤ x ∧ x ≤ 9223372036854775807 := ⟨by simp, by simp⟩
theorem mtfZ_range (z : List Int) (n : Int) : (mtfZ z n).length ≤ 1048576 ∧ ∀ x ∈ mtfZ z n, -9223372036854775808 ≤ x ∧ x ≤ 9223372036854775807 := by
  by_cases hok : rOk z n = true
  · obtain ⟨L, m, rfl, rfl, hm1, hm2, hL6, hLm⟩ := rOk_nats hok
    rw [mtfZ_yes hok]
    exact ints_range (by rw [runF_len]; exact hL6) (mtf_lt hLm) (by omega)
  · rw [mtfZ_no (bool_false hok)]; exact nil_range
theorem umtZ_range (z : List Int) (n : Int) : (umtZ z n).length ≤ 1048576 ∧ ∀ x ∈ umtZ z n, -9223372036854775808 ≤ x ∧ x ≤ 9223372036854775807 := by
  by_cases hok : rOk z n = true
  · obtain ⟨L, m, rfl, rfl, hm1, hm2, hL6, hLm⟩ := rOk_nats hok
    rw [umtZ_yes hok]
    exact ints_range (by rw [runF_len]; exact hL6) (umt_lt hLm) (by omega)
  · rw [umtZ_no (bool_false hok)]; exact nil_range
theorem meetsRanksOk : MeetsRanksOk := fun z n hl hr n1 n2 => ⟨rOk z n,
  fun W p c hI => (specRanksOk_any (some p) c W.heap.size z n W hI hl n1 n2).mono fun e w' h => ⟨h.1, h.2 ▸ Below.refl _ _⟩,
  fun W p c hI => (implRanksOk_any (some p) c W.heap.size z n W hI hl n1 n2).mono fun e w' h => ⟨h.1, h.2 ▸ Below.refl _ _⟩⟩
theorem meetsMtf : MeetsMtf := fun z n hl hr n1 n2 => ⟨mtfZ z n, mtfZ_range z n,
  fun W p c hI => specMtf_any (some p) c W.heap.size z n W hI (Nat.le_refl _) hl n1 n2,
  fun W p c hI => implMtf_any (some p) c W.heap.size z n W hI (Nat.le_refl _) hl n1 n2⟩
end Go.Proofs.Ytpdicijoohahaaa
