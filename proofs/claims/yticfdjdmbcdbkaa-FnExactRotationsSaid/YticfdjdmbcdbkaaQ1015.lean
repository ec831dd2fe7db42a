/- Merged: M10. -/
import Derived.Test.YticfdjdmbcdbkaaQ108
import Derived.Test.YticfdjdmbcdbkaaQ1012
import Derived.Test.YticfdjdmbcdbkaaQ1014
namespace Go.Proofs.Yticfdjdmbcdbkaa
set_option linter.unusedVariables false
set_option linter.unusedSimpArgs false
open Go.RowKit

theorem lfZ_range (s : ByteArray) (hs : s.size ≤ 1048576) : (lfZ s).length ≤ 1048576 ∧ ∀ x ∈ lfZ s, -9223372036854775808 ≤ x ∧ x ≤ 9223372036854775807 := by
  unfold lfZ
  split
  · refine ⟨by rw [ints_len]; unfold lfL; rw [List.length_map, List.length_range, bytesOf_len]; exact hs, ints_range10 (n := s.size) (fun x hx => ?_) hs⟩
    unfold lfL at hx
    rw [List.mem_map] at hx
    obtain ⟨a, ha, rfl⟩ := hx
    have := lfN_lt (List.mem_range.1 ha)
    rwa [bytesOf_len] at this
  · simp
theorem meetsRotations : MeetsRotations := fun s hs => ⟨rotZ s, rotZ_range s hs, fun W => specRotations_own s W hs, fun W => implRotations_own s W hs⟩
theorem meetsLast : MeetsLast := fun s hs => ⟨lstZ s, fstZ s, fun W => specLast_any s W hs, fun W => implLast_any s W hs⟩
theorem meetsPeriodC : MeetsPeriodC := fun s hs => ⟨perZ s, fun W => specPeriod_any s W hs, fun W m hm => implPeriod_any s m W hs hm⟩
theorem meetsLf : MeetsLf := fun s hs => ⟨lfZ s, lfZ_range s hs, fun W => specLf_any s W hs, fun W => implLf_any s W hs⟩
theorem meetsUnrotate : MeetsUnrotate := fun s f hs f1 f2 => ⟨unS s f, unB s f, fun W => specUnrotate_any s f W hs f1 f2, fun W => implUnrotate_any s f W hs f1 f2⟩
end Go.Proofs.Yticfdjdmbcdbkaa
