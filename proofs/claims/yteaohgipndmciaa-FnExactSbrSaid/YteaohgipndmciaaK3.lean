/- Merged: M8S. -/
import Derived.Test.YteaohgipndmciaaK2
import Derived.Test.YteaohgipndmciaaK1
import Derived.Test.YteaohgipndmciaaI8U
namespace Go.Proofs.Yteaohgipndmciaa
set_option linter.unusedVariables false
set_option linter.unusedSimpArgs false
open Go.RowKit

theorem sbrZ_range (z : List Int) (n : Int) : (sbrZ z n).length ≤ 1048576 ∧ ∀ x ∈ sbrZ z n, -9223372036854775808 ≤ x ∧ x ≤ 9223372036854775807 := by
  by_cases hok : rOk z n = true
  · obtain ⟨L, m, rfl, rfl, hm1, hm2, hL6, hLm⟩ := rOk_nats hok
    rw [sbrZ_yes hok]
    exact ints_range (by rw [runF_len]; exact hL6) (sbr_lt hLm) (by omega)
  · rw [sbrZ_no (bool_false hok)]; exact nil_range
theorem usbZ_range (z : List Int) (n : Int) : (usbZ z n).length ≤ 1048576 ∧ ∀ x ∈ usbZ z n, -9223372036854775808 ≤ x ∧ x ≤ 9223372036854775807 := by
  by_cases hok : rOk z n = true
  · obtain ⟨L, m, rfl, rfl, hm1, hm2, hL6, hLm⟩ := rOk_nats hok
    rw [usbZ_yes hok]
    exact ints_range (by rw [runF_len]; exact hL6) (usb_lt hLm) (by omega)
  · rw [usbZ_no (bool_false hok)]; exact nil_range
theorem meetsSbr : MeetsSbr := fun z n hl hr n1 n2 => ⟨sbrZ z n, sbrZ_range z n,
  fun W p c hI => specSbr_any (some p) c W.heap.size z n W hI (Nat.le_refl _) hl n1 n2,
  fun W p c hI => implSbr_any (some p) c W.heap.size z n W hI (Nat.le_refl _) hl n1 n2⟩
theorem meetsUnSbr : MeetsUnSbr := fun z n hl hr n1 n2 => ⟨usbZ z n, usbZ_range z n,
  fun W p c hI => specUnSbr_any (some p) c W.heap.size z n W hI (Nat.le_refl _) hl n1 n2,
  fun W p c hI => implUnSbr_any (some p) c W.heap.size z n W hI (Nat.le_refl _) hl n1 n2⟩
end Go.Proofs.Yteaohgipndmciaa
