/- Texts of the proof, merged. -/
import Derived.Test.YtembljihmnmmfaaGreatKS25
import Derived.Test.YtembljihmnmmfaaGreatKS33
import Derived.Test.YtembljihmnmmfaaGreatKS27
import Derived.Test.YtembljihmnmmfaaGreatKS34
namespace Go.Proofs.YtembljihmnmmfaaGreat
set_option linter.unusedVariables false
set_option linter.unusedSimpArgs false
open Go.RowKit

theorem ord_ok {l : List Nat} (hl : l ≠ []) (hb : Byt l) {O : List Nat} (h : Ranked l O ∨ O = usedL l) : ordOk O = true ∧ Byt O ∧ O.length ≤ 256 ∧ 1 ≤ O.length ∧ (∀ x, x ∈ O ↔ x ∈ l) ∧ usedL O = usedL l := by
  have hm : ∀ x, x ∈ O ↔ x ∈ l := by
    rcases h with h | h
    · exact h.2
    · intro x; rw [h]; exact mem_usedL hb
  have hn : O.Nodup := by
    rcases h with h | h
    · exact ranked_nodup h
    · rw [h]; exact usedL_nodup l
  have hB : Byt O := fun x hx => hb x ((hm x).1 hx)
  have hne : O ≠ [] := by
    obtain ⟨x, hx⟩ := List.exists_mem_of_ne_nil l hl
    intro e
    have := (hm x).2 hx
    rw [e] at this
    cases this
  have hu : usedL O = usedL l := by
    rcases h with h | h
    · exact ranked_used hb h
    · rw [h]; exact (usedL_self (usedL_byt l)).2 (usedL_asc l)
  refine ⟨(ordOk_iff _).2 ⟨hne, hn⟩, hB, nodup_256 hB hn, ?_, hm, hu⟩
  cases O with
  | nil => exact absurd rfl hne
  | cons x r => simp
theorem block_ne {s : ByteArray} (h : 0 < s.size) : bytesOf s ≠ [] := by
  intro e
  have := bytesOf_len s
  rw [e] at this
  simp at this
  omega
/-- The ranks of a block's last bytes lie below the number of its letters. -/
theorem ranks_ok {s : ByteArray} (h : 0 < s.size ∧ s.size ≤ 600) {O : List Nat} (hO : Ranked (bytesOf s) O ∨ O = usedL (bytesOf s)) : rOk (rkS s O) (O.length : Int) = true ∧ (rkS s O).length = s.size := by
  obtain ⟨h1, h2, h3, h4, h5, _⟩ := ord_ok (block_ne h.1) (byt_bytesOf s) hO
  have hk : rkOk (bytesOf (lstZ s)) O = true := by
    rw [rkOk_iff, bytesOf_len, lstZ_size s h]
    refine ⟨h.2, h1, fun b hb => ?_⟩
    rw [lstZ_bytes s h] at hb
    exact (h5 b).2 ((lastL_perm _).mem_iff.1 hb)
  have e : rkS s O = (bytesOf (lstZ s)).map fun b => (O.idxOf b : Int) := by
    unfold rkS rkL rkTo
    rw [if_pos hk, List.take_length]
  have hl : (rkS s O).length = s.size := by rw [e, List.length_map, bytesOf_len, lstZ_size s h]
  refine ⟨?_, hl⟩
  rw [rOk_iff, hl]
  refine ⟨by omega, by omega, h.2, fun x hx => ?_⟩
  rw [e] at hx
  obtain ⟨b, hb, rfl⟩ := List.mem_map.1 hx
  have := List.idxOf_lt_length_of_mem (((rkOk_iff _ _).1 hk).2.2 b hb)
  omega
end Go.Proofs.YtembljihmnmmfaaGreat
