/- Texts of the proof, merged. -/
import Derived.Deep.QuietTactic
import Derived.BigQuiet
import Derived.RegionTactic
import Derived.ChangeAlike
import Derived.Test.YtembljihmnmmfaaGreatKS7
import Derived.Test.YtembljihmnmmfaaGreatKS25
import Derived.Test.YtembljihmnmmfaaGreatKS22
import Derived.Test.YtembljihmnmmfaaGreatKS17
namespace Go.Proofs.YtembljihmnmmfaaGreat
set_option linter.unusedVariables false
set_option linter.unusedSimpArgs false

theorem byt_last (s : ByteArray) : Byt (lastL (bytesOf s)) := fun b hb => byt_bytesOf s b ((lastL_perm _).mem_iff.1 hb)
theorem lstZ_size (s : ByteArray) (h : 0 < s.size ∧ s.size ≤ 600) : (lstZ s).size = s.size := by
  unfold lstZ; rw [if_pos h, strOf_size, lastL_len, bytesOf_len]
theorem lstZ_bytes (s : ByteArray) (h : 0 < s.size ∧ s.size ≤ 600) : bytesOf (lstZ s) = lastL (bytesOf s) := by
  unfold lstZ; rw [if_pos h, bytes_str (byt_last s)]
theorem lstZ_le (s : ByteArray) : (lstZ s).size ≤ 600 := by
  by_cases h : 0 < s.size ∧ s.size ≤ 600
  · rw [lstZ_size s h]; exact h.2
  · unfold lstZ; rw [if_neg h]; decide
end Go.Proofs.YtembljihmnmmfaaGreat
