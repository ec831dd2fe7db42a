/- Merged: C7, C7B, C7C, C7D, C6G. -/
import Derived.Test.YtaaahmfkdiogkaaQM4
import Derived.Test.YtaaahmfkdiogkaaQM12
import Derived.Test.YtaaahmfkdiogkaaQM1
import Derived.Test.YtaaahmfkdiogkaaQM5
import Derived.Maps.AppendAt
import Derived.Deep.LoopGhost
import Derived.BigQuiet
import Derived.Deep.QuietTactic
import Derived.Lib.Strings
import Derived.Lib.SmallJoins
import Derived.RegionTactic
import Derived.ChangeAlike
namespace Go.Proofs.Ytaaahmfkdiogkaa
set_option linter.unusedVariables false
set_option linter.unusedSimpArgs false
open Go.RowKit

theorem bytes_at (s : ByteArray) (k : Nat) (h : k < s.size) : (bytesOf s).take (k + 1) = (bytesOf s).take k ++ [s[k].toNat] := by
  have hk : k < (bytesOf s).length := by rw [bytesOf_len]; exact h
  rw [List.take_succ_eq_append_getElem hk]
  congr 2
  have := bytesOf_get s k
  rw [List.getD_eq_getElem?_getD, List.getElem?_eq_getElem hk, Option.getD_some] at this
  rw [this, byteAt_get _ _ h]
theorem nats_up (s : ByteArray) (k : Nat) (h : k < s.size) : nats 256 (fun b => ((bytesOf s).take (k + 1)).count b) = (nats 256 (fun b => ((bytesOf s).take k).count b)).set s[k].toNat (.int .i64 ((((bytesOf s).take k).count s[k].toNat + 1 : Nat) : Int)) := by
  rw [nats_set]
  refine nats_congr fun t ht => ?_
  rw [bytes_at s k h, List.count_append]
  by_cases e : t = s[k].toNat
  · subst e; simp
  · simp [e, List.count_cons, Ne.symm e]
theorem run_string_nil7 (w : World) : (convert 59 9 (.slice none 0 0)).run Try.prog w = .ok (.string ⟨#[]⟩) w := by
  rw [run_convert_bytes_string w _ _ _ _ _ _ Try.underlying59 Try.underlying5 Try.underlying9]
  rfl
/-- 'string(b)' of a row of one's own, a nil one too. -/
theorem run_str {w : World} {base n : Nat} {v : Value} {D : List Nat} (h : w.ownsRow base 5 1 v n (u8s D)) : (convert 59 9 v).run Try.prog w = .ok (.string (strOf D)) w := by
  have hl : D.length = n := by have := h.1; rw [u8s_len] at this; omega
  rcases h.2 with ⟨hv, h0⟩ | ⟨gd, cp, cur, hv, _⟩
  · subst hv
    have : D = [] := List.length_eq_zero_iff.1 (by omega)
    subst this
    exact run_string_nil7 w
  · subst hv
    exact run_string_own (P := Try.prog) (src := 59) (dst := 9) Try.underlying59 Try.underlying5 Try.underlying9 h hl
/-- Where one element has been appended to a row of one's own behind a world. -/
theorem bel_app {B : Nat} {a wr w3 : World} {v : Value} {n : Nat} {E : TypeId} {S : Nat} {xs : List Value} {cs : Array Value} {T : TypeId} (h : Below B a wr) (hB : B ≤ wr.heap.size) (hown : wr.ownsRow B E S v n xs) (hg : (wr.alloc (.cells cs T)).grownBy w3 v.ownBlock) : Below B a w3 :=
  (h.alloc hB _).grown hg (by simp; omega) (fun g hg => (hown.lt g hg).1)
end Go.Proofs.Ytaaahmfkdiogkaa
namespace Go.Proofs.Ytaaahmfkdiogkaa
set_option linter.unusedVariables false
set_option linter.unusedSimpArgs false
open Go.RowKit

theorem getD_small {D : List Nat} (h : Byt D) (j : Nat) : D.getD j 0 < 256 := by
  rcases Nat.lt_or_ge j D.length with hj | hj
  · rw [List.getD_eq_getElem?_getD, List.getElem?_eq_getElem hj]; exact h _ (List.getElem_mem hj)
  · rw [List.getD_eq_getElem?_getD, List.getElem?_eq_none hj]; decide
theorem bytes_str {D : List Nat} (h : Byt D) : bytesOf (strOf D) = D := bytesOf_strOf D (getD_small h)
theorem str_eq {D : List Nat} (h : Byt D) (s : ByteArray) : strOf D = s ↔ D = bytesOf s := by
  constructor
  · intro e; rw [← e, bytes_str h]
  · intro e; rw [e, strOf_bytesOf]
theorem str_beq_ne {a b : ByteArray} (h : ¬ a = b) : (a.toList == b.toList) = false := by
  rw [beq_eq_false_iff_ne, ByteArray.toList_eq, ByteArray.toList_eq]
  intro e
  apply h
  cases a; cases b
  congr 1
  exact Array.toList_inj.1 e
theorem setOk_str (s : ByteArray) : setOk (bytesOf s) = true ↔ 0 < s.size ∧ strOf (usedL (bytesOf s)) = s := by
  rw [setOk_iff, str_eq (byt_usedL _)]
  have : bytesOf s ≠ [] ↔ 0 < s.size := by rw [← bytesOf_len, List.length_pos_iff]
  rw [this]
theorem ordOk_str (s : ByteArray) : ordOk (bytesOf s) = true ↔ 0 < s.size ∧ (usedL (bytesOf s)).length = s.size := by
  rw [ordOk_iff, ← used_len_eq (byt_bytesOf s), bytesOf_len]
  have : bytesOf s ≠ [] ↔ 0 < s.size := by rw [← bytesOf_len, List.length_pos_iff]
  rw [this]
end Go.Proofs.Ytaaahmfkdiogkaa
namespace Go.Proofs.Ytaaahmfkdiogkaa
set_option linter.unusedVariables false
set_option linter.unusedSimpArgs false
open Go.RowKit

theorem two_pow_small {n : Nat} (h : n ≤ 8) : 2 ^ n ≤ 256 := Nat.pow_le_pow_right (n := 2) (by omega) h
/-- Where a byte stands; -1: nowhere. -/
def placeI (u : List Nat) (b : Nat) : Int := if b ∈ u then (u.idxOf b : Int) else -1
theorem place_at {u : List Nat} {b k : Nat} (hk : k < u.length) (h : u.getD k 0 = b) (hno : ∀ j, j < k → u.getD j 0 ≠ b) : placeI u b = k := by
  have hb : b ∈ u := by
    rw [← h, List.getD_eq_getElem?_getD, List.getElem?_eq_getElem hk]; exact List.getElem_mem hk
  unfold placeI
  rw [if_pos hb]
  have h2 := idx_get hb
  rcases Nat.lt_trichotomy (u.idxOf b) k with h3 | h3 | h3
  · exact absurd h2 (hno _ h3)
  · rw [h3]
  · have h4 := List.not_of_lt_findIdx (p := (· == b)) (xs := u) h3
    rw [List.getD_eq_getElem?_getD, List.getElem?_eq_getElem hk, Option.getD_some] at h
    simp [h] at h4
theorem place_no {u : List Nat} {b : Nat} (hno : ∀ j, j < u.length → u.getD j 0 ≠ b) : placeI u b = -1 := by
  unfold placeI
  rw [if_neg]
  intro hb
  exact hno _ (idx_lt hb) (idx_get hb)
/-- A byte is struck out of a string. -/
theorem str_cut {D : List Nat} {s : ByteArray} (h : strOf D = s) (k : Nat) (hk : k < D.length) : s.extract 0 k ++ s.extract (k + 1) s.size = strOf (D.eraseIdx k) := by
  subst h
  have e : ∀ {a b : ByteArray}, a.data.toList = b.data.toList → a = b := fun {a b} h => by
    cases a; cases b; congr 1; exact Array.toList_inj.1 h
  apply e
  rw [ByteArray.data_append, Array.toList_append, Lib.extract_data, Lib.extract_data, strOf_size]
  have hd : ∀ L : List Nat, (strOf L).data.toList = L.map UInt8.ofNat := fun L => by simp [strOf]
  rw [hd, hd, List.eraseIdx_eq_take_drop_succ, List.map_append, List.map_take, List.map_drop, List.drop_zero, Nat.sub_zero]
  congr 1
  rw [List.take_of_length_le (by simp)]
theorem drop_at (s : ByteArray) (i : Nat) (h : i < s.size) : (bytesOf s).drop i = s[i].toNat :: (bytesOf s).drop (i + 1) := by
  have hk : i < (bytesOf s).length := by rw [bytesOf_len]; exact h
  rw [List.drop_eq_getElem_cons hk]
  congr 1
  have := bytesOf_get s i
  rw [List.getD_eq_getElem?_getD, List.getElem?_eq_getElem hk, Option.getD_some] at this
  rw [this, byteAt_get _ _ h]
end Go.Proofs.Ytaaahmfkdiogkaa
namespace Go.Proofs.Ytaaahmfkdiogkaa
set_option linter.unusedVariables false
set_option linter.unusedSimpArgs false
open Go.RowKit

/-- Two slices do not lie in one block. -/
def Apart (a b : Value) : Prop := ∀ k, a.ownBlock = some k → b.ownBlock ≠ some k
theorem apart_nil (b : Value) : Apart (.slice none 0 0) b := fun k h => by simp [Value.ownBlock] at h
theorem apart_to_nil (a : Value) : Apart a (.slice none 0 0) := fun k _ h => by simp [Value.ownBlock] at h
theorem Apart.symm {a b : Value} (h : Apart a b) : Apart b a := fun k hb ha => h k ha hb
theorem apart_app {w : World} {base n S : Nat} {E : TypeId} {v v' b : Value} {xs : List Value} (h : Apart v b) (hb : w.ownsRow base E S b n xs) (hloc : v'.ownBlock = v.ownBlock ∨ v'.ownBlock = some w.heap.size) : Apart v' b := by
  intro k hk hkb
  rcases hloc with h2 | h2
  · exact h k (by rw [← h2]; exact hk) hkb
  · have := (hb.lt k hkb).2
    rw [h2] at hk
    simp only [Option.some.injEq] at hk
    omega
theorem apart_app1 {w : World} {base n S : Nat} {E : TypeId} {v v' b : Value} {xs : List Value} (h : Apart v b) (hb : w.ownsRow base E S b n xs) (hloc : v'.ownBlock = v.ownBlock ∨ v'.ownBlock = some (w.heap.size + 1)) : Apart v' b := by
  intro k hk hkb
  rcases hloc with h2 | h2
  · exact h k (by rw [← h2]; exact hk) hkb
  · have := (hb.lt k hkb).2
    rw [h2] at hk
    simp only [Option.some.injEq] at hk
    omega
theorem apart_kept {w w' : World} {base n S : Nat} {E : TypeId} {v b : Value} {xs : List Value} (h : Apart v b) (hb : w.ownsRow base E S b n xs) (hg : w.grownBy w' v.ownBlock) : w'.ownsRow base E S b n xs := by
  cases hbb : b.ownBlock with
  | none => exact hb.kept hg (.inl hbb)
  | some k => exact hb.kept hg (.inr (fun e => h k (by rw [← e, hbb]) hbb))
/-- The first j bytes of a group. -/
def memTo (u : List Nat) (g j : Nat) : List Nat := (List.range j).map fun p => if 16 * g + p ∈ u then 1 else 0
def hasTo (u : List Nat) (g j : Nat) : Nat := if 1 ∈ memTo u g j then 1 else 0
theorem memTo_len (u : List Nat) (g j : Nat) : (memTo u g j).length = j := by simp [memTo]
theorem memTo_succ (u : List Nat) (g j : Nat) : memTo u g (j + 1) = memTo u g j ++ [if 16 * g + j ∈ u then 1 else 0] := by simp [memTo, List.range_succ]
theorem hasTo_succ (u : List Nat) (g j : Nat) : hasTo u g (j + 1) = (hasTo u g j ||| (if 16 * g + j ∈ u then 1 else 0)) := by
  unfold hasTo
  rw [memTo_succ]
  by_cases h1 : 1 ∈ memTo u g j
  · rw [if_pos h1, if_pos (List.mem_append_left _ h1)]
    split <;> rfl
  · rw [if_neg h1]
    by_cases h2 : 16 * g + j ∈ u
    · simp [h2]
    · simp [h1, h2]
theorem hasTo_lt (u : List Nat) (g j : Nat) : hasTo u g j < 2 := by unfold hasTo; split <;> omega
theorem or_bit (h x : Nat) (hh : h < 2) (hx : x < 2) : bits BinOp.or IntKind.u8 (h : Int) (x : Int) = ((h ||| x : Nat) : Int) := by
  have : h = 0 ∨ h = 1 := by omega
  have : x = 0 ∨ x = 1 := by omega
  rcases ‹h = 0 ∨ h = 1› with rfl | rfl <;> rcases ‹x = 0 ∨ x = 1› with rfl | rfl <;> rfl
theorem set_count {u : List Nat} (hb : Byt u) (hu : setOk u = true) (b : Nat) : u.count b = if b ∈ u then 1 else 0 := by
  have h := ((setOk_iff u).1 hu).2
  have := usedL_count u hb b
  rw [h] at this
  exact this
theorem usedRest_pos {u : List Nat} (hb : Byt u) (hu : setOk u = true) : 0 < (usedRest u 16).length := by
  obtain ⟨g, hg, h⟩ := used_some hb ((setOk_iff u).1 hu).1
  have h1 : grp16 u g ≠ [] := by
    unfold grp16
    rw [if_pos h]
    intro e
    have := mem16_len u g
    rw [e] at this; simp at this
  obtain ⟨x, hx⟩ := List.exists_mem_of_ne_nil _ h1
  exact List.length_pos_of_mem (List.mem_flatMap.2 ⟨g, List.mem_range.2 hg, hx⟩)
def headTo (u : List Nat) (g : Nat) : List Nat := (List.range g).map (has16 u)
theorem headTo_len (u : List Nat) (g : Nat) : (headTo u g).length = g := by simp [headTo]
theorem headTo_succ (u : List Nat) (g : Nat) : headTo u (g + 1) = headTo u g ++ [has16 u g] := by simp [headTo, List.range_succ]
end Go.Proofs.Ytaaahmfkdiogkaa
namespace Go.Proofs.Ytaaahmfkdiogkaa
set_option linter.unusedVariables false
set_option linter.unusedSimpArgs false
open Go.RowKit

theorem gam_ge {s : ByteArray} {a k j n : Nat} (h : Gam s a j n) (hz : ∀ i, i < k → bit s (a + i) = 0) : k ≤ j := by
  rcases Nat.lt_or_ge j k with hl | hl
  · have := hz j hl
    have := h.2.2.2.1
    omega
  · exact hl
/-- What reading a number answers, the reader being in block b. -/
def L6Post (s : ByteArray) (at0 b : Nat) (T : TypeId) (w : World) (e : Ending) (w' : World) : Prop :=
  ((∃ k n : Nat, Gam s at0 k n ∧ e = .returned (.int .i64 n) ∧ Has w' b T #[.string s, .int .i64 ((at0 + (2 * k + 1) : Nat) : Int)]) ∨
   ((∀ k n, ¬ Gam s at0 k n) ∧ e = .returned (.int .i64 0))) ∧ Only b w w'
theorem l6post_no {s : ByteArray} {at0 b : Nat} {T : TypeId} {w w' : World} (h : ∀ k n, ¬ Gam s at0 k n) (ho : Only b w w') : L6Post s at0 b T w (.returned (.int .i64 0)) w' := ⟨.inr ⟨h, rfl⟩, ho⟩
/-- Where the reader stands, and what was read last. -/
def L6At (s : ByteArray) (at0 b : Nat) (T : TypeId) (k : Nat) (x : Int) (w : World) : Prop :=
  (at0 + k + 1 ≤ 8 * s.size ∧ x = (bit s (at0 + k) : Int) ∧ Has w b T #[.string s, .int .i64 ((at0 + k + 1 : Nat) : Int)]) ∨ (8 * s.size < at0 + k + 1 ∧ x = -1 ∧ ∃ c : Int, Has w b T #[.string s, .int .i64 c])
theorem l6bit (s : ByteArray) (at0 k b : Nat) (T : TypeId) (w : World) (hs : s.size ≤ 1048576) (ha : at0 + k ≤ 8 * s.size) (hb : Has w b T #[.string s, .int .i64 ((at0 + k : Nat) : Int)]) :
    Calls Try.prog 109 #[.pointer (some ⟨b, 0, none⟩), .int .i64 1] w fun e w' => ∃ x : Int, e = .returned (.int .i64 x) ∧ L6At s at0 b T k x w' ∧ Only b w w' := by
  by_cases h : at0 + k + 1 ≤ 8 * s.size
  · have h1 := l1get_yes s (at0 + k) 1 b T w hs (by omega) h hb
    refine h1.mono ?_
    rintro e w' ⟨rfl, hB, hO⟩
    exact ⟨_, rfl, .inl ⟨h, by simp [row, num], hB⟩, hO⟩
  · have h1 := l1get_none s (at0 + k) 1 b T w hs (by omega) ha (by omega) hb
    refine h1.mono ?_
    rintro e w' ⟨rfl, q, rfl⟩
    exact ⟨_, rfl, .inr ⟨by omega, rfl, _, hb.drewN q⟩, (Only.refl _ _).drewN q⟩
end Go.Proofs.Ytaaahmfkdiogkaa
