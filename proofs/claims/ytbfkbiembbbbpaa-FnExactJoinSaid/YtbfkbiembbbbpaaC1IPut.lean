/- Chapter 1: Put of the program. -/
import Derived.Test.YtbfkbiembbbbpaaC1WPut
namespace Go.Proofs.Ytbfkbiembbbbpaa
set_option linter.unusedVariables false
set_option linter.unusedSimpArgs false
open Go.RowKit

set_option maxHeartbeats 1000000 in
theorem implPut_yes (s : ByteArray) (n v k : Nat) (w : World) (hs : s.size ≤ maxLen) (hok : okB s n = true) (hk : k ≤ 32) (hv : v < 2 ^ k) (hr : n + k ≤ 400000) :
    Calls Try.prog 14 #[.agg #[.string s, .int .i64 n], .int .i64 v, .int .i64 k] w fun e w' =>
      ∃ D, Packs D (row s 0 n ++ nbits v k) ∧ e = .returned (.tuple #[.agg #[.string (strOf D), .int .i64 ((n + k : Nat) : Int)], .bool true]) ∧ Below w.heap.size w w' := by
  have hroom := okB_room hok
  have hv2 : v < 2 ^ 32 := Nat.lt_of_lt_of_le hv (Nat.pow_le_pow_right (by omega) hk)
  have hge : (((v : Int) / 2 ^ k) != 0) = false := by
    have := Nat.div_eq_of_lt hv
    rw [show ((2 : Int) ^ k) = ((2 ^ k : Nat) : Int) by simp, bne_eq_false_iff_eq]; omega
  have hfit : ¬ ((400000 : Int) - n < k) := by omega
  go_enter Try.func14, Try.ntmps14
  go_wp2_with fail
  refine (implBitsOk_any s n _ hs (by omega) (by omega)).mono ?_
  rintro e wa ⟨rfl, Ba⟩
  obtain ⟨Ca, Fa, La⟩ := bcell3 Ba
  have ya := Ba.size; (try simp at ya)
  go_wp2_with fail
  refine (writerOf_any s n _ hok).mono ?_
  rintro e wb ⟨g, rfl, hW, hg, Bb⟩
  have yb := Bb.size
  have yg := hW.lt
  go_wp2_with fail
  refine (put_any g wa.heap.size _ v k _ hW hg (by omega) hk hv (by rw [row_len]; omega)).mono ?_
  rintro e wc ⟨rfl, hW2, Bc, _⟩
  have yc := Bc.size
  go_wp2_with fail
  refine (bits_any g _ _ _ hW2).mono ?_
  rintro e wd ⟨D, hD, rfl, Bd⟩
  have yd := Bd.size
  have hlen : (row s 0 n ++ nbits v k).length = n + k := by rw [List.length_append, row_len, nbits_len]
  have hR := ((((Has.freshAt (by simp) 24 #[.string ⟨#[]⟩, .int .i64 0] : Has ((w.alloc (.cells #[.string s, .int .i64 n] 24)).alloc _) (w.heap.size + 1) _ _).below Ba (by (try simp); (try omega))).below Bb (by omega)).below Bc (by omega)).below Bd (by omega)
  have e0 := hR.cell 0
  have e1 := hR.cell 1
  have g0 := hR.free 0
  have g1 := hR.free 1
  simp at e0 e1
  rw [hlen]
  clear hR hW hW2 Ca Fa La
  go_wp2
  refine bodyPost_ret (v := .tuple #[.agg #[.string (strOf D), .int .i64 ((n + k : Nat) : Int)], .bool true]) (by simp [results, Try.results14, go_sem, e0, e1, g0, g1]) rfl ⟨D, hD, rfl, ?_⟩
  repeat (first | exact Below.refl _ _ | assumption | refine Below.alloc ?_ (by (try simp); (try omega)) _ | refine Below.setCell ?_ (by (try simp); (try omega)) _ | refine Below.drew ?_ | refine bel_then (by assumption) (by (try simp); (try omega)) ?_ | refine only_then (by assumption) (by (try simp); (try omega)) (by (try simp); (try omega)) ?_ | refine bel_thenB (by assumption) (by (try simp); (try omega)) ?_)
end Go.Proofs.Ytbfkbiembbbbpaa
