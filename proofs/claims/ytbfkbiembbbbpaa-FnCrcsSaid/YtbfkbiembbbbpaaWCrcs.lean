/- Chapter 2: the walk of the law over two parts. -/
import Derived.Test.YtbfkbiembbbbpaaWEntries
import Derived.Deep.RegionWith
namespace Go.Proofs.Ytbfkbiembbbbpaa
set_option linter.unusedVariables false
set_option linter.unusedSimpArgs false
open Go.RowKit

theorem bytesOf_extract (s : ByteArray) (a b : Nat) : bytesOf (s.extract a b) = ((bytesOf s).drop a).take (b - a) := by
  unfold bytesOf
  rw [ByteArray.data_extract, Array.toList_extract]
  simp [List.extract_eq_take_drop, List.map_take, List.map_drop]
theorem extract_size_le (s : ByteArray) (a b : Nat) : (s.extract a b).size ≤ s.size := by rw [ByteArray.size_extract]; omega
theorem crcI_parts (m : Int) (s : ByteArray) (k : Nat) (hk : k ≤ s.size) : crcI (crcI m (s.extract 0 k)) (s.extract k s.size) = crcI m s := by
  by_cases h : 0 ≤ m ∧ m ≤ 4294967295
  · obtain ⟨q, rfl⟩ : ∃ q : Nat, m = q := ⟨m.toNat, by omega⟩
    have hq : q < 4294967296 := by omega
    rw [crcI_yes q _ hq, crcI_yes _ _ (crcL_lt q _ hq (bytesOf_lt _)), crcI_yes q s hq, ← crcL_append, bytesOf_extract, bytesOf_extract]
    have e : List.take (k - 0) (List.drop 0 (bytesOf s)) ++ List.take (s.size - k) (List.drop k (bytesOf s)) = bytesOf s := by
      rw [List.drop_zero, Nat.sub_zero, List.take_of_length_le (l := List.drop k (bytesOf s)) (by rw [List.length_drop, bytesOf_len]; exact Nat.le_refl _), List.take_append_drop]
    rw [e]
  · rw [crcI_no m _ h, crcI_no (-1) _ (by omega), crcI_no m s h]
attribute [local go_sem ↓] Go.wp_at_zero Go.wp_at_succ
theorem crcI_range (m : Int) (s : ByteArray) : -1 ≤ crcI m s ∧ crcI m s ≤ 4294967295 := by
  by_cases h : 0 ≤ m ∧ m ≤ 4294967295
  · obtain ⟨q, rfl⟩ : ∃ q : Nat, m = q := ⟨m.toNat, by omega⟩
    rw [crcI_yes q _ (by omega)]
    have := crcL_lt q _ (by omega) (bytesOf_lt s)
    omega
  · rw [crcI_no m _ h]; omega
set_option maxRecDepth 100000 in
set_option maxHeartbeats 400000 in
theorem walk_FnCrcs (w : World) (a0 : Option Addr) (len0 cap0 : Nat) (z0 : List Int) (w0 : IsRow .u8 w a0 len0 cap0 z0) :
    Calls Try.prog 5 #[.slice a0 len0 cap0] w fun e w' => e = .returned (.bool true) ∧ Below w.heap.size w w' := by
  have hcode := Code.ofRow w0
  clear w0
  go_enter Try.func5, Try.ntmps5
  go_wp2_with fail
  refine (drawCrcFrom_any _ _ _ _ _ hcode).mono ?_
  rintro e wa ⟨m, s, rfl, m1, m2, hs, Ba⟩
  have hcode1 := hcode.below Ba
  go_wp2_with fail
  refine (at_any _ _ _ _ 1 _ _ hcode1 ⟨by omega, by omega⟩).mono ?_
  rintro e wx ⟨x, rfl, hx0, hx1, rfl⟩
  obtain ⟨k, hk⟩ : ∃ k : Nat, x % ((s.size : Int) + 1) = k := ⟨(x % ((s.size : Int) + 1)).toNat, by have := below_lemma x ((s.size : Int) + 1) hx0 (by omega); omega⟩
  have hks : k ≤ s.size := by have := below_lemma x ((s.size : Int) + 1) hx0 (by omega); omega
  have hsm : s.size ≤ maxLen := by unfold maxLen; omega
  have hp : (s.extract 0 k).size ≤ maxLen := Nat.le_trans (extract_size_le _ _ _) hsm
  have hq : (s.extract k s.size).size ≤ maxLen := Nat.le_trans (extract_size_le _ _ _) hsm
  have K1 := fun W => implCrcFrom_any m s W (by omega) (by omega) hsm
  have K2 := fun W => implCrcFrom_any m (s.extract 0 k) W (by omega) (by omega) hp
  have K3 := fun W => implCrcFrom_any (crcI m (s.extract 0 k)) (s.extract k s.size) W (by have := crcI_range m (s.extract 0 k); omega) (by have := crcI_range m (s.extract 0 k); omega) hq
  have K4 := fun W => specCrcFrom_any m s W (by omega) (by omega) hsm
  rw [crcI_parts m s k hks] at K3
  clear hcode hcode1 hp hq m1 m2
  go_wp2_with fail
  refine (K1 _).mono ?_
  rintro e wb ⟨rfl, Bb⟩
  have bb : Below w.heap.size w wb := Ba.trans (Bb.mono Ba.size)
  have hk0 : (0 : Int) ≤ (k : Int) := by omega
  have hk1 : (k : Int) ≤ (s.size : Int) := by omega
  have H2 := hidden K2
  have H3 := hidden K3
  have H4 := hidden K4
  clear Ba Bb K1 K2 K3 K4
  go_wp2
  go_region_held3 (fun w' => Below w.heap.size w w') (exact ⟨bb.os, bb.tape, bb.output, bb.size, bb.block⟩) (first | (go_at_call 25; (with_reducible refine (H4.out _).mono ?_); rintro e wX ⟨rfl, rfl⟩) | (go_at_call 24; first | ((with_reducible refine (H2.out _).mono ?_); rintro e wX ⟨rfl, BX⟩; have yX := BX.size; (try simp at yX); replace bb : Below w.heap.size w wX := bel_then BX (by (have hbb := bb.size; (try simp); (try omega))) ⟨bb.os, bb.tape, bb.output, bb.size, bb.block⟩; clear BX) | ((with_reducible refine (H3.out _).mono ?_); rintro e wX ⟨rfl, BX⟩; have yX := BX.size; (try simp at yX); replace bb : Below w.heap.size w wX := bel_then BX (by (have hbb := bb.size; (try simp); (try omega))) ⟨bb.os, bb.tape, bb.output, bb.size, bb.block⟩; clear BX)) | (go_at_call 26; refine (marks_any _).mono ?_; rintro e wX ⟨rfl, BX⟩; have yX := BX.size; (try simp at yX); replace bb : Below w.heap.size w wX := bel_then BX (by (have hbb := bb.size; (try simp); (try omega))) ⟨bb.os, bb.tape, bb.output, bb.size, bb.block⟩; clear BX))
  all_goals
    go_wp2
    go_ret
    exact ⟨rfl, ⟨bb.os, bb.tape, bb.output, bb.size, bb.block⟩⟩
end Go.Proofs.Ytbfkbiembbbbpaa
