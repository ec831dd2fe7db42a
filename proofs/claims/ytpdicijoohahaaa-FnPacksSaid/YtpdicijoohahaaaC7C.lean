/- Chapter 7: places, needed bits, an order as bits (the model). -/
import Derived.Test.YtpdicijoohahaaaC7B
import Derived.Test.YtpdicijoohahaaaAlph2
import Derived.Test.YtpdicijoohahaaaC1Close
import Derived.Lib.Strings
namespace Go.Proofs.Ytpdicijoohahaaa
set_option linter.unusedVariables false
set_option linter.unusedSimpArgs false
open Go.RowKit

theorem two_pow_small {n : Nat} (h : n ≤ 8) : 2 ^ n ≤ 256 := Nat.pow_le_pow_right (n := 2) (by omega) h
/-- Where a byte stands; -1: nowhere. -/
def placeI (u : List Nat) (b : Nat) : Int := if b ∈ u then (u.idxOf b : Int) else -1
theorem place_at {u : List Nat} {b k : Nat} (hk : k < u.length) (h : u.getD k 0 = b) (hno : ∀ j, j < k → u.getD j 0 ≠ b) : placeI u b = k := by
  have hb : b ∈ u := by
    rw [← h, List.getD_eq_getElem?_getD, List.getElem?_eq_getElem hk]; exact List.getElem_mem hk
  unfold placeI
  rw [if_pos hb]
  have h2 := idx_get hb
  rcases Nat.lt_trichotomy (u.idxOf b) k with h3 | h3 | h3
  · exact absurd h2 (hno _ h3)
  · rw [h3]
  · have h4 := List.not_of_lt_findIdx (p := (· == b)) (xs := u) h3
    rw [List.getD_eq_getElem?_getD, List.getElem?_eq_getElem hk, Option.getD_some] at h
    simp [h] at h4
theorem place_no {u : List Nat} {b : Nat} (hno : ∀ j, j < u.length → u.getD j 0 ≠ b) : placeI u b = -1 := by
  unfold placeI
  rw [if_neg]
  intro hb
  exact hno _ (idx_lt hb) (idx_get hb)
/-- A byte is struck out of a string. -/
theorem str_cut {D : List Nat} {s : ByteArray} (h : strOf D = s) (k : Nat) (hk : k < D.length) : s.extract 0 k ++ s.extract (k + 1) s.size = strOf (D.eraseIdx k) := by
  subst h
  have e : ∀ {a b : ByteArray}, a.data.toList = b.data.toList → a = b := fun {a b} h => by
    cases a; cases b; congr 1; exact Array.toList_inj.1 h
  apply e
  rw [ByteArray.data_append, Array.toList_append, Lib.extract_data, Lib.extract_data, strOf_size]
  have hd : ∀ L : List Nat, (strOf L).data.toList = L.map UInt8.ofNat := fun L => by simp [strOf]
  rw [hd, hd, List.eraseIdx_eq_take_drop_succ, List.map_append, List.map_take, List.map_drop, List.drop_zero, Nat.sub_zero]
  congr 1
  rw [List.take_of_length_le (by simp)]
theorem drop_at (s : ByteArray) (i : Nat) (h : i < s.size) : (bytesOf s).drop i = s[i].toNat :: (bytesOf s).drop (i + 1) := by
  have hk : i < (bytesOf s).length := by rw [bytesOf_len]; exact h
  rw [List.drop_eq_getElem_cons hk]
  congr 1
  have := bytesOf_get s i
  rw [List.getD_eq_getElem?_getD, List.getElem?_eq_getElem hk, Option.getD_some] at this
  rw [this, byteAt_get _ _ h]
end Go.Proofs.Ytpdicijoohahaaa
