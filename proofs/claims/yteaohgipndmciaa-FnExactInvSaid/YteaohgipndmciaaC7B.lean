/- Chapter 7: is it an order, is it a set; places; how many bits a number needs (the model). -/
import Derived.Test.YteaohgipndmciaaC7
namespace Go.Proofs.Yteaohgipndmciaa
set_option linter.unusedVariables false
set_option linter.unusedSimpArgs false
open Go.RowKit

theorem getD_small {D : List Nat} (h : Byt D) (j : Nat) : D.getD j 0 < 256 := by
  rcases Nat.lt_or_ge j D.length with hj | hj
  · rw [List.getD_eq_getElem?_getD, List.getElem?_eq_getElem hj]; exact h _ (List.getElem_mem hj)
  · rw [List.getD_eq_getElem?_getD, List.getElem?_eq_none hj]; decide
theorem bytes_str {D : List Nat} (h : Byt D) : bytesOf (strOf D) = D := bytesOf_strOf D (getD_small h)
theorem str_eq {D : List Nat} (h : Byt D) (s : ByteArray) : strOf D = s ↔ D = bytesOf s := by
  constructor
  · intro e; rw [← e, bytes_str h]
  · intro e; rw [e, strOf_bytesOf]
theorem str_beq_ne {a b : ByteArray} (h : ¬ a = b) : (a.toList == b.toList) = false := by
  rw [beq_eq_false_iff_ne, ByteArray.toList_eq, ByteArray.toList_eq]
  intro e
  apply h
  cases a; cases b
  congr 1
  exact Array.toList_inj.1 e
theorem setOk_str (s : ByteArray) : setOk (bytesOf s) = true ↔ 0 < s.size ∧ strOf (usedL (bytesOf s)) = s := by
  rw [setOk_iff, str_eq (byt_usedL _)]
  have : bytesOf s ≠ [] ↔ 0 < s.size := by rw [← bytesOf_len, List.length_pos_iff]
  rw [this]
theorem ordOk_str (s : ByteArray) : ordOk (bytesOf s) = true ↔ 0 < s.size ∧ (usedL (bytesOf s)).length = s.size := by
  rw [ordOk_iff, ← used_len_eq (byt_bytesOf s), bytesOf_len]
  have : bytesOf s ≠ [] ↔ 0 < s.size := by rw [← bytesOf_len, List.length_pos_iff]
  rw [this]
set_option maxHeartbeats 1000000 in
set_option maxRecDepth 100000 in
theorem l7used_any (s : ByteArray) (w : World) (hs : s.size ≤ 1048576) :
    Calls Try.prog 61 #[.string s] w fun e w' => e = .returned (.bool (setOk (bytesOf s))) ∧ Below w.heap.size w w' := by
  have K := hidden (fun W : World => specUsed_any s W hs)
  have HS := hidden (setOk_str s)
  obtain ⟨o, ho⟩ : ∃ o, setOk (bytesOf s) = o := ⟨_, rfl⟩
  obtain ⟨u, hu⟩ : ∃ u, strOf (usedL (bytesOf s)) = u := ⟨_, rfl⟩
  rw [ho, hu] at HS
  rw [hu] at K
  rw [ho]
  clear ho hu
  by_cases h0 : 0 < s.size
  · by_cases he : u = s
    · subst he
      have HO : Hid (o = true) := hidden (HS.out.2 ⟨h0, rfl⟩)
      go_enter Try.func61, Try.ntmps61
      go_wp2_with fail
      refine (K.out _).mono ?_
      rintro e w1 ⟨rfl, b1⟩
      go_wp2
      go_ret
      exact ⟨ret_bool HO.out.symm, b1⟩
    · have HO : Hid (o = false) := hidden (by
        cases o
        · rfl
        · exact absurd (HS.out.1 rfl).2 he)
      go_enter Try.func61, Try.ntmps61
      go_wp2_with fail
      refine (K.out _).mono ?_
      rintro e w1 ⟨rfl, b1⟩
      go_wp2
      go_ret
      exact ⟨ret_bool (by rw [HO.out, str_beq_ne he]), b1⟩
  · have HO : Hid (o = false) := hidden (by
      cases o
      · rfl
      · exact absurd (HS.out.1 rfl).1 h0)
    have h00 : ¬ (0 : Int) < s.size := by omega
    go_enter Try.func61, Try.ntmps61
    go_wp2
    go_ret
    exact ⟨ret_bool (by rw [HO.out]), Below.refl _ _⟩
set_option maxHeartbeats 1000000 in
set_option maxRecDepth 100000 in
theorem specOrderOk_any (s : ByteArray) (w : World) (hs : s.size ≤ 1048576) :
    Calls Try.prog 22 #[.string s] w fun e w' => e = .returned (.bool (ordOk (bytesOf s))) ∧ Below w.heap.size w w' := by
  have K := hidden (fun W : World => specUsed_any s W hs)
  have HS := hidden (ordOk_str s)
  have hz := strOf_size (usedL (bytesOf s))
  have hl := usedTo_len (bytesOf s) 256
  change (usedL (bytesOf s)).length ≤ 256 at hl
  obtain ⟨o, ho⟩ : ∃ o, ordOk (bytesOf s) = o := ⟨_, rfl⟩
  obtain ⟨u, hu⟩ : ∃ u, strOf (usedL (bytesOf s)) = u := ⟨_, rfl⟩
  rw [ho, ← hz, hu] at HS
  rw [← hz, hu] at hl
  rw [hu] at K
  rw [ho]
  clear ho hu hz
  by_cases h0 : 0 < s.size
  · by_cases h1 : s.size ≤ 256
    · by_cases he : u.size = s.size
      · have HO : Hid (o = true) := hidden (HS.out.2 ⟨h0, he⟩)
        go_enter Try.func22, Try.ntmps22
        go_wp2_with fail
        refine (K.out _).mono ?_
        rintro e w1 ⟨rfl, b1⟩
        go_wp2
        go_ret
        exact ⟨ret_bool HO.out.symm, b1⟩
      · have HO : Hid (o = false) := hidden (by
          cases o
          · rfl
          · exact absurd (HS.out.1 rfl).2 he)
        go_enter Try.func22, Try.ntmps22
        go_wp2_with fail
        refine (K.out _).mono ?_
        rintro e w1 ⟨rfl, b1⟩
        go_wp2
        go_ret
        exact ⟨ret_bool (by rw [HO.out]; exact beq_eq_false_iff_ne.2 (by omega)), b1⟩
    · have HO : Hid (o = false) := hidden (by
        cases o
        · rfl
        · have := (HS.out.1 rfl).2; omega)
      go_enter Try.func22, Try.ntmps22
      go_wp2
      go_ret
      exact ⟨ret_bool HO.out.symm, Below.refl _ _⟩
  · have HO : Hid (o = false) := hidden (by
      cases o
      · rfl
      · exact absurd (HS.out.1 rfl).1 h0)
    have h00 : ¬ (0 : Int) < s.size := by omega
    go_enter Try.func22, Try.ntmps22
    go_wp2
    go_ret
    exact ⟨ret_bool (by rw [HO.out]), Below.refl _ _⟩

end Go.Proofs.Yteaohgipndmciaa
