/- Chapter 7: is it an order, is it a set; places; how many bits a number needs (the model). -/
import Derived.Test.YtpdicijoohahaaaC7
namespace Go.Proofs.Ytpdicijoohahaaa
set_option linter.unusedVariables false
set_option linter.unusedSimpArgs false
open Go.RowKit

theorem getD_small {D : List Nat} (h : Byt D) (j : Nat) : D.getD j 0 < 256 := by
  rcases Nat.lt_or_ge j D.length with hj | hj
  · rw [List.getD_eq_getElem?_getD, List.getElem?_eq_getElem hj]; exact h _ (List.getElem_mem hj)
  · rw [List.getD_eq_getElem?_getD, List.getElem?_eq_none hj]; decide
theorem bytes_str {D : List Nat} (h : Byt D) : bytesOf (strOf D) = D := bytesOf_strOf D (getD_small h)
theorem str_eq {D : List Nat} (h : Byt D) (s : ByteArray) : strOf D = s ↔ D = bytesOf s := by
  constructor
  · intro e; rw [← e, bytes_str h]
  · intro e; rw [e, strOf_bytesOf]
theorem str_beq_ne {a b : ByteArray} (h : ¬ a = b) : (a.toList == b.toList) = false := by
  rw [beq_eq_false_iff_ne, ByteArray.toList_eq, ByteArray.toList_eq]
  intro e
  apply h
  cases a; cases b
  congr 1
  exact Array.toList_inj.1 e
theorem setOk_str (s : ByteArray) : setOk (bytesOf s) = true ↔ 0 < s.size ∧ strOf (usedL (bytesOf s)) = s := by
  rw [setOk_iff, str_eq (byt_usedL _)]
  have : bytesOf s ≠ [] ↔ 0 < s.size := by rw [← bytesOf_len, List.length_pos_iff]
  rw [this]
theorem ordOk_str (s : ByteArray) : ordOk (bytesOf s) = true ↔ 0 < s.size ∧ (usedL (bytesOf s)).length = s.size := by
  rw [ordOk_iff, ← used_len_eq (byt_bytesOf s), bytesOf_len]
  have : bytesOf s ≠ [] ↔ 0 < s.size := by rw [← bytesOf_len, List.length_pos_iff]
  rw [this]
end Go.Proofs.Ytpdicijoohahaaa
