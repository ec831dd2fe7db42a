/- Merged: Plc. -/
import Derived.Test.YtpdicijoohahaaaI8I
import Derived.Test.YtpdicijoohahaaaI9P
import Derived.Test.YtpdicijoohahaaaP1
namespace Go.Proofs.Ytpdicijoohahaaa
set_option linter.unusedVariables false
set_option linter.unusedSimpArgs false
open Go.RowKit

theorem plc_mtf : mtfZ [1, 1, 0] 2 = [1, 0, 1] := by decide +kernel
theorem plc_rs : rsZ 4 = [1, 0] := by decide +kernel
theorem plc_rl : rlZ [1, 0] = 4 := by decide +kernel
theorem plc_pk : packZ [1, 0] 2 = [2, 0, 3] := by decide +kernel
theorem plc_l1 (w : World) : Ints (w.alloc (.cells #[.int .i64 1, .int .i64 1, .int .i64 0] 3)) (w.heap.size + 1) (some ⟨w.heap.size, 0, none⟩) [1, 1, 0] := Ints.lit w [1, 1, 0] (by decide) (by decide)
theorem plc_l2 (w : World) : Ints (w.alloc (.cells #[.int .i64 1, .int .i64 0, .int .i64 1] 3)) (w.heap.size + 1) (some ⟨w.heap.size, 0, none⟩) [1, 0, 1] := Ints.lit w [1, 0, 1] (by decide) (by decide)
theorem plc_l3 (w : World) : Ints (w.alloc (.cells #[.int .i64 1, .int .i64 0] 3)) (w.heap.size + 1) (some ⟨w.heap.size, 0, none⟩) [1, 0] := Ints.lit w [1, 0] (by decide) (by decide)
theorem plc_l4 (w : World) : Ints (w.alloc (.cells #[.int .i64 2, .int .i64 0, .int .i64 3] 3)) (w.heap.size + 1) (some ⟨w.heap.size, 0, none⟩) [2, 0, 3] := Ints.lit w [2, 0, 3] (by decide) (by decide)
/-- A row of its own beside a literal that holds the same. -/
theorem sameOwn (n : Nat) (Z : List Int) (base : Nat) (v : Value) (c2 : Nat) (w W : World) (a2 : Addr) (hn : Z.length = n) (hm : n ≤ 1000) (hr : ∀ x ∈ Z, -9223372036854775808 ≤ x ∧ x ≤ 9223372036854775807) (hown : w.ownsRow base 3 1 v n (intsV Z)) (hb : Below w.heap.size w W) (h2 : Ints W (w.heap.size + 1) (some a2) Z) :
    Calls Try.prog 31 #[v, .slice (some a2) n c2] W fun e w' => e = .returned (.bool true) ∧ Below W.heap.size W w' := by
  subst hn
  obtain ⟨a, c, rfl⟩ := own_shape hown
  have hI := (Ints.ofOwn hown (by omega) hr).2
  have := sameInts_any a (some a2) c c2 (w.heap.size + 1) Z Z W ((hI.below hb).mono (by omega)) h2
  rw [decide_eq_true rfl] at this
  exact this
theorem plc_k1 (a : Option Addr) (c B : Nat) (W : World) (h : Ints W B a [1, 1, 0]) (hB : B ≤ W.heap.size) : Calls Try.prog 28 #[.slice a 3 c, .int .i64 2] W fun e w' => ∃ v, e = .returned v ∧ w'.ownsRow W.heap.size 3 1 v 3 (intsV [1, 0, 1]) ∧ Below W.heap.size W w' := by
  have := implMtf_any a c B [1, 1, 0] 2 W h hB (by decide) (by omega) (by omega)
  rw [plc_mtf] at this
  exact this
theorem plc_k2 (W : World) : Calls Try.prog 20 #[.int .i64 4] W fun e w' => ∃ v, e = .returned v ∧ w'.ownsRow W.heap.size 3 1 v 2 (intsV [1, 0]) ∧ Below W.heap.size W w' := by
  have := implRunSyms_any 4 W
  rw [plc_rs] at this
  exact this
theorem plc_k3 (a : Option Addr) (c B : Nat) (W : World) (h : Ints W B a [1, 0]) : Calls Try.prog 22 #[.slice a 2 c] W fun e w' => e = .returned (.int .i64 4) ∧ W = w' := by
  have := implRunLen_any a c B [1, 0] W h (by decide)
  rw [plc_rl] at this
  exact this
theorem plc_k4 (a : Option Addr) (c B : Nat) (W : World) (h : Ints W B a [1, 0]) (hB : B ≤ W.heap.size) (hc : 2 ≤ c) : Calls Try.prog 24 #[.slice a 2 c, .int .i64 2] W fun e w' => ∃ v, e = .returned v ∧ w'.ownsRow W.heap.size 3 1 v 3 (intsV [2, 0, 3]) ∧ Below W.heap.size W w' := by
  have := implPackRuns_any a c B [1, 0] 2 W h hB (by decide) hc (by omega) (by omega)
  rw [plc_pk] at this
  exact this
set_option maxHeartbeats 2000000 in
set_option maxRecDepth 100000 in
theorem places_any (w : World) : Calls Try.prog 30 #[] w fun e w' => e = .returned (.bool true) ∧ Below w.heap.size w w' := by
  have K1 := hidden plc_k1
  have K2 := hidden plc_k2
  have K3 := hidden plc_k3
  have K4 := hidden plc_k4
  go_enter Try.func30, Try.ntmps30
  go_wp2_with fail
  refine (K1.out _ _ (w.heap.size + 1) _ (plc_l1 w) (by simp)).mono ?_
  rintro e w1 ⟨v1, rfl, ho1, b1⟩
  have B1 : Below w.heap.size w w1 := bel_then b1 (by simp) ((Below.refl _ _).alloc (by omega) _)
  clear b1
  go_wp2_with fail
  refine (sameOwn 3 [1, 0, 1] _ v1 _ w1 _ _ rfl (by decide) (by decide) ho1 ((Below.refl _ _).alloc (by omega) _) (plc_l2 w1)).mono ?_
  rintro e w2 ⟨rfl, b2⟩
  have B2 : Below w.heap.size w w2 := bel_then b2 (by have := B1.size; simp; omega) (B1.alloc B1.size _)
  clear b2 B1 ho1
  go_wp2_with fail
  refine (K2.out _).mono ?_
  rintro e w3 ⟨v3, rfl, ho3, b3⟩
  have B3 := B2.trans (b3.mono B2.size)
  clear b3 B2
  go_wp2_with fail
  refine (sameOwn 2 [1, 0] _ v3 _ w3 _ _ rfl (by decide) (by decide) ho3 ((Below.refl _ _).alloc (by omega) _) (plc_l3 w3)).mono ?_
  rintro e w4 ⟨rfl, b4⟩
  have B4 : Below w.heap.size w w4 := bel_then b4 (by have := B3.size; simp; omega) (B3.alloc B3.size _)
  clear b4 B3 ho3
  go_wp2_with fail
  refine (K3.out _ _ (w4.heap.size + 1) _ (plc_l3 w4)).mono ?_
  rintro e w5 ⟨rfl, hw5⟩
  have B5 : Below w.heap.size w w5 := by rw [← hw5]; exact B4.alloc B4.size _
  clear hw5 B4
  go_wp2_with fail
  refine (K4.out _ _ (w5.heap.size + 1) _ (plc_l3 w5) (by simp) (by omega)).mono ?_
  rintro e w6 ⟨v6, rfl, ho6, b6⟩
  have B6 : Below w.heap.size w w6 := bel_then b6 (by have := B5.size; simp; omega) (B5.alloc B5.size _)
  clear b6 B5
  go_wp2_with fail
  refine (sameOwn 3 [2, 0, 3] _ v6 _ w6 _ _ rfl (by decide) (by decide) ho6 ((Below.refl _ _).alloc (by omega) _) (plc_l4 w6)).mono ?_
  rintro e w7 ⟨rfl, b7⟩
  have B7 : Below w.heap.size w w7 := bel_then b7 (by have := B6.size; simp; omega) (B6.alloc B6.size _)
  go_wp2
  go_ret
  exact ⟨rfl, B7⟩
end Go.Proofs.Ytpdicijoohahaaa
