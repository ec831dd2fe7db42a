/- Merged: M9. -/
import Derived.Test.YtpdicijoohahaaaR2
import Derived.Test.YtpdicijoohahaaaR1
import Derived.Test.YtpdicijoohahaaaC9C
import Derived.Test.YtpdicijoohahaaaI9U
namespace Go.Proofs.Ytpdicijoohahaaa
set_option linter.unusedVariables false
set_option linter.unusedSimpArgs false
open Go.RowKit

theorem ints_range9 {L : List Nat} {m : Nat} (hl : L.length ≤ 1048576) (h : ∀ x ∈ L, x ≤ m) (hm : m ≤ 1048576) : (ints L).length ≤ 1048576 ∧ ∀ x ∈ ints L, -9223372036854775808 ≤ x ∧ x ≤ 9223372036854775807 := by
  refine ⟨by rw [ints_len]; exact hl, fun x hx => ?_⟩
  obtain ⟨y, hy, rfl⟩ := List.mem_map.1 hx
  have := h y hy
  omega
theorem rsZ_range (k : Int) : (rsZ k).length ≤ 1048576 ∧ ∀ x ∈ rsZ k, -9223372036854775808 ≤ x ∧ x ≤ 9223372036854775807 := by
  by_cases h : 1 ≤ k ∧ k ≤ 600
  · unfold rsZ
    rw [if_pos h]
    exact ints_range9 (m := 2) (by have := rsF_len k.toNat; omega) (fun x hx => by have := rsF_lt _ x hx; omega) (by omega)
  · rw [rsZ_no h]; exact nil_range
theorem packZ_range (z : List Int) (n : Int) : (packZ z n).length ≤ 1048576 ∧ ∀ x ∈ packZ z n, -9223372036854775808 ≤ x ∧ x ≤ 9223372036854775807 := by
  by_cases hok : rOk z n = true
  · obtain ⟨L, m, rfl, rfl, hm1, hm2, hL6, hLm⟩ := rOk_nats hok
    rw [packZ_yes hok]
    refine ints_range9 (m := 1000) ?_ (fun x hx => ?_) (by omega)
    · rw [List.length_append]; have := packF_len L 0; simp; omega
    · rcases List.mem_append.1 hx with hx | hx
      · have := packF_le m L 0 hLm x hx; omega
      · rw [List.mem_singleton.1 hx]; omega
  · rw [packZ_no (bool_false hok)]; exact nil_range
theorem upL_range (z : List Int) (n most : Int) : (upL z n most).length ≤ 1048576 ∧ ∀ x ∈ upL z n most, -9223372036854775808 ≤ x ∧ x ≤ 9223372036854775807 := by
  cases h : upA z n most with
  | none => rw [(up_none h).2]; exact nil_range
  | some y =>
    have h1 := upA_some h
    have h2 := (rOk_iff _ _).1 (pack_up h).1
    rw [(up_some h).2]
    refine ints_range9 (m := 1000) (by omega) (fun x hx => ?_) (by omega)
    have := h2.2.2.2 (x : Int) (List.mem_map.2 ⟨x, hx, rfl⟩)
    omega
theorem meetsRunSyms : MeetsRunSyms := fun k h1 h2 => ⟨rsZ k, rsZ_range k, fun W => specRunSyms_any k W, fun W => implRunSyms_any k W⟩
theorem meetsRunLen : MeetsRunLen := fun z hl hr => ⟨rlZ z,
  fun W p c hI => (specRunLen_any (some p) c W.heap.size z W hI hl).mono fun e w' h => ⟨h.1, h.2 ▸ Below.refl _ _⟩,
  fun W p c hI => (implRunLen_any (some p) c W.heap.size z W hI hl).mono fun e w' h => ⟨h.1, h.2 ▸ Below.refl _ _⟩⟩
theorem meetsPackRuns : MeetsPackRuns := fun z n hl hr n1 n2 => ⟨packZ z n, packZ_range z n,
  fun W p c hI hc => specPackRuns_any (some ⟨p, 0, none⟩) c W.heap.size z n W hI (Nat.le_refl _) hl n1 n2,
  fun W p c hI hc => implPackRuns_any (some ⟨p, 0, none⟩) c W.heap.size z n W hI (Nat.le_refl _) hl hc n1 n2⟩
theorem meetsUnpackRuns : MeetsUnpackRuns := fun z n most hl hr n1 n2 m1 m2 => ⟨upL z n most, upOk z n most, upL_range z n most,
  fun W p c hI hc => specUnpackRuns_any (some ⟨p, 0, none⟩) c W.heap.size z n most W hI (Nat.le_refl _) hl hc n1 n2 m1 m2,
  fun W p c hI hc => implUnpackRuns_any (some ⟨p, 0, none⟩) c W.heap.size z n most W hI (Nat.le_refl _) hl hc n1 n2 m1 m2⟩
end Go.Proofs.Ytpdicijoohahaaa
