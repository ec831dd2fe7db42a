/- Merged: Wk8. -/
import Derived.Test.YtpdicijoohahaaaWW22
import Derived.Test.YtpdicijoohahaaaWW19
import Derived.Test.YtpdicijoohahaaaWW3
import Derived.Test.YtpdicijoohahaaaWW23
namespace Go.Proofs.Ytpdicijoohahaaa
set_option linter.unusedVariables false
set_option linter.unusedSimpArgs false
open Go.RowKit

theorem ints_small {D : List Nat} {m : Nat} (hm : m ≤ 256) (h : ∀ x ∈ D, x < m) : ∀ x ∈ ints D, 0 ≤ x ∧ x ≤ 256 := fun x hx => by
  unfold ints at hx
  rw [List.mem_map] at hx
  obtain ⟨d, hd, rfl⟩ := hx
  have := h d hd
  omega
theorem sbrs_ok {L : List Int} {n : Int} (h : rOk L n = true) : (sbrZ L n).length = L.length ∧ (∀ x ∈ sbrZ L n, 0 ≤ x ∧ x ≤ 256) ∧ rOk (sbrZ L n) n = true ∧ usbZ (sbrZ L n) n = L ∧ (usbZ L n).length = L.length ∧ (∀ x ∈ usbZ L n, 0 ≤ x ∧ x ≤ 256) ∧ sbrZ (usbZ L n) n = L := by
  obtain ⟨D, m, rfl, rfl, hm1, hm2, hL6, hLm⟩ := rOk_nats h
  have h1 : rOk (ints (runF (sbrF m) sb0 D)) m = true := rOk_of hm1 hm2 (by rw [runF_len]; exact hL6) (sbr_lt hLm)
  have h2 : rOk (ints (runF (usbF m) sb0 D)) m = true := rOk_of hm1 hm2 (by rw [runF_len]; exact hL6) (usb_lt hLm)
  rw [sbrZ_yes h, usbZ_yes h, usbZ_yes h1, sbrZ_yes h2, usb_sbr hLm, sbr_usb hLm]
  simp only [ints_len, runF_len]
  exact ⟨trivial, ints_small hm2 (sbr_lt hLm), h1, trivial, trivial, ints_small hm2 (usb_lt hLm), trivial⟩
theorem mtfs_ok {L : List Int} {n : Int} (h : rOk L n = true) : (mtfZ L n).length = L.length ∧ (∀ x ∈ mtfZ L n, 0 ≤ x ∧ x ≤ 256) ∧ rOk (mtfZ L n) n = true ∧ umtZ (mtfZ L n) n = L ∧ (umtZ L n).length = L.length ∧ (∀ x ∈ umtZ L n, 0 ≤ x ∧ x ≤ 256) ∧ mtfZ (umtZ L n) n = L := by
  obtain ⟨D, m, rfl, rfl, hm1, hm2, hL6, hLm⟩ := rOk_nats h
  have h1 : rOk (ints (runF mtfF (List.range m) D)) m = true := rOk_of hm1 hm2 (by rw [runF_len]; exact hL6) (mtf_lt hLm)
  have h2 : rOk (ints (runF umtF (List.range m) D)) m = true := rOk_of hm1 hm2 (by rw [runF_len]; exact hL6) (umt_lt hLm)
  rw [mtfZ_yes h, umtZ_yes h, umtZ_yes h1, mtfZ_yes h2, umt_mtf hLm, mtf_umt hLm]
  simp only [ints_len, runF_len]
  exact ⟨trivial, ints_small hm2 (mtf_lt hLm), h1, trivial, trivial, ints_small hm2 (umt_lt hLm), trivial⟩
theorem mtfs_again {L : List Int} {n : Int} (h : rOk L n = true) (i : Nat) (hi : i + 1 < L.length) : (mtfZ L n).getD (i + 1) 0 = 0 ↔ L.getD (i + 1) 0 = L.getD i 0 := by
  obtain ⟨D, m, rfl, rfl, hm1, hm2, hL6, hLm⟩ := rOk_nats h
  rw [ints_len] at hi
  have := mtf_again D (List.range m) i (PermN.start m) hLm hi
  rw [mtfZ_yes h, ints_get, ints_get, ints_get]
  omega
theorem sameInts_k (a a2 : Option Addr) (c c2 B k : Nat) (z : List Int) (w : World) (hk : z.length = k) (hz : Ints w B a z) (hy : Ints w B a2 z) :
    Calls Try.prog 31 #[.slice a k c, .slice a2 k c2] w fun e w' => e = .returned (.bool true) ∧ Below w.heap.size w w' := by
  subst hk
  have := sameInts_any a a2 c c2 B z z w hz hy
  rw [decide_eq_true rfl] at this
  exact this
theorem specRanksOk_k (a : Option Addr) (c B k : Nat) (z : List Int) (n : Int) (b : Bool) (w : World) (hk : z.length = k) (hb : rOk z n = b) (hz : Ints w B a z) (hl : k ≤ 1048576) (n1 : -9223372036854775808 ≤ n) (n2 : n ≤ 9223372036854775807) :
    Calls Try.prog 29 #[.slice a k c, .int .i64 n] w fun e w' => e = .returned (.bool b) ∧ w = w' := by
  subst hk hb
  exact specRanksOk_any a c B z n w hz hl n1 n2
theorem implRanksOk_k (a : Option Addr) (c B k : Nat) (z : List Int) (n : Int) (b : Bool) (w : World) (hk : z.length = k) (hb : rOk z n = b) (hz : Ints w B a z) (hl : k ≤ 1048576) (n1 : -9223372036854775808 ≤ n) (n2 : n ≤ 9223372036854775807) :
    Calls Try.prog 33 #[.slice a k c, .int .i64 n] w fun e w' => e = .returned (.bool b) ∧ w = w' := by
  subst hk hb
  exact implRanksOk_any a c B z n w hz hl n1 n2
theorem implMtf_k (a : Option Addr) (c B k m : Nat) (z M : List Int) (n : Int) (w : World) (hk : z.length = k) (hM : mtfZ z n = M) (hm : M.length = m) (hz : Ints w B a z) (hB : B ≤ w.heap.size) (hl : k ≤ 1048576) (n1 : -9223372036854775808 ≤ n) (n2 : n ≤ 9223372036854775807) :
    Calls Try.prog 28 #[.slice a k c, .int .i64 n] w fun e w' => ∃ v, e = .returned v ∧ w'.ownsRow w.heap.size 3 1 v m (intsV M) ∧ Below w.heap.size w w' := by
  subst hk hM hm
  exact implMtf_any a c B z n w hz hB hl n1 n2
theorem implUnMtf_k (a : Option Addr) (c B k m : Nat) (z M : List Int) (n : Int) (w : World) (hk : z.length = k) (hM : umtZ z n = M) (hm : M.length = m) (hz : Ints w B a z) (hB : B ≤ w.heap.size) (hl : k ≤ 1048576) (n1 : -9223372036854775808 ≤ n) (n2 : n ≤ 9223372036854775807) :
    Calls Try.prog 32 #[.slice a k c, .int .i64 n] w fun e w' => ∃ v, e = .returned v ∧ w'.ownsRow w.heap.size 3 1 v m (intsV M) ∧ Below w.heap.size w w' := by
  subst hk hM hm
  exact implUnMtf_any a c B z n w hz hB hl n1 n2
theorem implSbr_k (a : Option Addr) (c B k m : Nat) (z M : List Int) (n : Int) (w : World) (hk : z.length = k) (hM : sbrZ z n = M) (hm : M.length = m) (hz : Ints w B a z) (hB : B ≤ w.heap.size) (hl : k ≤ 1048576) (n1 : -9223372036854775808 ≤ n) (n2 : n ≤ 9223372036854775807) :
    Calls Try.prog 35 #[.slice a k c, .int .i64 n] w fun e w' => ∃ v, e = .returned v ∧ w'.ownsRow w.heap.size 3 1 v m (intsV M) ∧ Below w.heap.size w w' := by
  subst hk hM hm
  exact implSbr_any a c B z n w hz hB hl n1 n2
theorem implUnSbr_k (a : Option Addr) (c B k m : Nat) (z M : List Int) (n : Int) (w : World) (hk : z.length = k) (hM : usbZ z n = M) (hm : M.length = m) (hz : Ints w B a z) (hB : B ≤ w.heap.size) (hl : k ≤ 1048576) (n1 : -9223372036854775808 ≤ n) (n2 : n ≤ 9223372036854775807) :
    Calls Try.prog 36 #[.slice a k c, .int .i64 n] w fun e w' => ∃ v, e = .returned v ∧ w'.ownsRow w.heap.size 3 1 v m (intsV M) ∧ Below w.heap.size w w' := by
  subst hk hM hm
  exact implUnSbr_any a c B z n w hz hB hl n1 n2
end Go.Proofs.Ytpdicijoohahaaa
