/- Chapter 1: ToByte. -/
import Derived.Test.YtagjafkleemffaaWGet
import Derived.Deep.RegionWith
namespace Go.Proofs.Ytagjafkleemffaa
set_option linter.unusedVariables false
set_option linter.unusedSimpArgs false
open Go.RowKit

/-- How many bits are to skip. -/
def upN (a : Nat) : Nat := (8 - a % 8) % 8
theorem upN_lt (a : Nat) : upN a ≤ 7 := by unfold upN; omega
theorem upN_div (a : Nat) : (a + upN a) % 8 = 0 := by unfold upN; omega
theorem upToByte_any (n : Int) (w : World) (b1 : -9223372036854775808 ≤ n) (b2 : n ≤ 9223372036854775807) :
    Calls Try.prog 59 #[.int .i64 n] w fun e w' => e = .returned (.int .i64 ((-n) % 8)) ∧ w = w' := by
  have h := i64_mask (wrap64 (-n)) 3 (by omega)
  have h2 : wrap64 (-n) % 8 = (-n) % 8 := by unfold wrap64; omega
  have H : Hid (bits .and .i64 (wrap64 (-n)) 7 = (-n) % 8) := hidden (by rw [← h2]; simpa using h)
  clear h h2
  go_enter Try.func59, Try.ntmps59
  go_wp2
  go_ret
  exact ⟨ret_int H.out, rfl⟩
theorem upToByte_nat (a : Nat) (w : World) (h : a < 9223372036854775808) :
    Calls Try.prog 59 #[.int .i64 a] w fun e w' => e = .returned (.int .i64 (upN a)) ∧ w = w' :=
  (upToByte_any a w (by omega) (by omega)).mono fun _ _ ⟨he, hw⟩ => ⟨he.trans (ret_int (by unfold upN; omega)), hw⟩

set_option maxHeartbeats 6000000 in
theorem implToByte_yes (s : ByteArray) (a : Nat) (w : World) (hs : s.size ≤ 1048576) (hl : a ≤ 8 * s.size) (h0 : num (row s a (upN a)) = 0) :
    Calls Try.prog 28 #[.agg #[.string s, .int .i64 a]] w fun e w' =>
      e = .returned (.tuple #[.agg #[.string s, .int .i64 ((a + upN a : Nat) : Int)], .bool true]) ∧ Below w.heap.size w w' := by
  have h1 : ((num (row s a (upN a)) : Int) != 0) = false := by simp; omega
  clear h0
  have hu := upN_lt a
  have hv := upN_div a
  have hl2 : a + upN a ≤ 8 * s.size := by omega
  clear hv
  go_enter Try.func28, Try.ntmps28
  go_wp2
  go_region_with (first | (go_at_call 59; refine (upToByte_nat _ _ (by omega)).mono ?_; rintro e w1 ⟨rfl, rfl⟩) | (go_at_call 20; refine (implGet_yes s a (upN a) _ hs (by omega) hl2).mono ?_; rintro e w1 ⟨rfl, hb⟩; obtain ⟨hc, hf, hll⟩ := bcell3 hb; have hy := hb.size; (try simp at hy); have hz : w.heap.size + 1 < w1.heap.size := by omega))
  all_goals
    go_wp2
    refine bodyPost_ret (v := .tuple #[.agg #[.string s, .int .i64 ((a + upN a : Nat) : Int)], .bool true]) (by simp [results, Try.results28, go_sem, hc, hf, hz]) rfl ⟨rfl, ?_⟩
    repeat (first | exact Below.refl _ _ | refine Below.alloc ?_ (by (try simp); (try omega)) _ | refine Below.setCell ?_ (by (try simp); (try omega)) _ | refine Below.drew ?_ | refine bel_then (by assumption) (by (try simp); (try omega)) ?_ | refine only_then (by assumption) (by (try simp); (try omega)) (by (try simp); (try omega)) ?_)
end Go.Proofs.Ytagjafkleemffaa
