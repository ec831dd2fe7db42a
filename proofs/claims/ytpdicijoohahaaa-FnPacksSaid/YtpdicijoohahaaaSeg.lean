/- A part of a row in memory. -/
import Derived.Test.YtpdicijoohahaaaZr2
namespace Go.Proofs.Ytpdicijoohahaaa
set_option linter.unusedVariables false
set_option linter.unusedSimpArgs false
open Go.RowKit

theorem seg_ints {w : World} {B b off : Nat} {z : List Int} (hl : z.length ≤ 1048576) (hr : ∀ x ∈ z, -9223372036854775808 ≤ x ∧ x ≤ 9223372036854775807) (hb : b < B) (hc : ∀ i, i < z.length → w.cell? ⟨b, off + i, none⟩ = some (.int .i64 (z.getD i 0))) {i f : Nat} (hi : i ≤ z.length) :
    Ints w B (some ⟨b, off + f, none⟩) ((z.take i).drop f) := by
  refine ⟨by rw [seg_len hi]; omega, fun x hx => hr x (List.mem_of_mem_take (List.mem_of_mem_drop hx)), fun _ => ⟨b, off + f, rfl, hb, fun j hj => ?_⟩⟩
  rw [seg_len hi] at hj
  rw [seg_get hi (by omega), Nat.add_assoc]
  exact hc _ (by omega)
/-- No element: whatever the address. -/
theorem ints_nil (w : World) (B : Nat) (a : Option Addr) : Ints w B a [] := ⟨by simp, by simp, fun h => by simp at h⟩
theorem seg_take (gz : List Int) (f c : Nat) (h : f + c ≤ gz.length) : (gz.take (f + c)).drop f = (gz.drop f).take c := by
  rw [List.drop_take]
  congr 1
  omega
end Go.Proofs.Ytpdicijoohahaaa
