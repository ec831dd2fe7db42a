/- Texts of the proof, merged. -/
import Derived.Laws.BitsAllLaws
import Derived.IntWalk
import Derived.RowKit
namespace Go.Proofs.YtembljihmnmmfaaGreat
set_option linter.unusedVariables false
set_option linter.unusedSimpArgs false

def byteAt (s : ByteArray) (j : Nat) : Nat := (s.data.toList.getD j 0).toNat
theorem byteAt_get (s : ByteArray) (j : Nat) (h : j < s.size) : s[j].toNat = byteAt s j := by
  unfold byteAt
  have h' : j < s.data.toList.length := by simpa using h
  rw [List.getD_eq_getElem?_getD, List.getElem?_eq_getElem h']
  rfl
def bit (s : ByteArray) (k : Nat) : Nat := byteAt s (k / 8) / 2 ^ (7 - k % 8) % 2
/-- n bits from the a-th on. -/
def row (s : ByteArray) (a n : Nat) : List Nat := (List.range n).map fun i => bit s (a + i)
def num (l : List Nat) : Nat := l.foldl (fun v b => 2 * v + b) 0
theorem wrap64_n (n : Nat) (h : n < 9223372036854775808) : RowKit.wrap64 (n : Int) = (n : Int) := IntWalk.wrap64_in _ (by omega)
end Go.Proofs.YtembljihmnmmfaaGreat
namespace Go.Proofs.YtembljihmnmmfaaGreat
set_option linter.unusedVariables false
set_option linter.unusedSimpArgs false

theorem getD_app_l (l m : List Nat) (j : Nat) (h : j < l.length) : (l ++ m).getD j 0 = l.getD j 0 := by
  simp [List.getD_eq_getElem?_getD, List.getElem?_append, h]
theorem getD_app_r (l m : List Nat) (j : Nat) (h : l.length ≤ j) : (l ++ m).getD j 0 = m.getD (j - l.length) 0 := by
  simp [List.getD_eq_getElem?_getD, List.getElem?_append, show ¬ j < l.length by omega]
def bitL (D : List Nat) (j : Nat) : Nat := D.getD (j / 8) 0 / 2 ^ (7 - j % 8) % 2
/-- The bytes D are the bits l, and zeros up to the byte's end. -/
structure Packs (D l : List Nat) : Prop where
  len : D.length = (l.length + 7) / 8
  small : ∀ j, D.getD j 0 < 256
  bits : ∀ j, j < 8 * D.length → bitL D j = l.getD j 0
def strOf (D : List Nat) : ByteArray := ⟨(D.map UInt8.ofNat).toArray⟩
def bytesOf (s : ByteArray) : List Nat := s.data.toList.map UInt8.toNat
theorem bytesOf_len (s : ByteArray) : (bytesOf s).length = s.size := by simp [bytesOf]
theorem bytesOf_get (s : ByteArray) (j : Nat) : (bytesOf s).getD j 0 = byteAt s j := by
  unfold bytesOf byteAt
  rw [List.getD_eq_getElem?_getD, List.getD_eq_getElem?_getD, List.getElem?_map]
  cases s.data.toList[j]? <;> rfl
theorem strOf_bytesOf (s : ByteArray) : strOf (bytesOf s) = s := by
  unfold strOf bytesOf
  rw [List.map_map]
  have : (UInt8.ofNat ∘ UInt8.toNat) = id := by funext x; simp
  rw [this, List.map_id]
theorem bytesOf_strOf (D : List Nat) (h : ∀ j, D.getD j 0 < 256) : bytesOf (strOf D) = D := by
  unfold strOf bytesOf
  apply List.ext_getElem (by simp)
  intro j h1 h2
  have := h j
  have e : D.getD j 0 = D[j] := by simp [List.getD_eq_getElem?_getD, h2]
  rw [e] at this
  simp; omega
theorem strOf_size (D : List Nat) : (strOf D).size = D.length := by show (D.map UInt8.ofNat).toArray.size = _; simp
end Go.Proofs.YtembljihmnmmfaaGreat
namespace Go.Proofs.YtembljihmnmmfaaGreat
set_option linter.unusedVariables false
set_option linter.unusedSimpArgs false

theorem log_low {n : Nat} (h : 1 ≤ n) : 2 ^ Nat.log2 n ≤ n := Nat.log2_self_le (by omega)
theorem log_up (n : Nat) : n < 2 ^ (Nat.log2 n + 1) := Nat.lt_log2_self
theorem log_one {n k : Nat} (h1 : 2 ^ k ≤ n) (h2 : n < 2 ^ (k + 1)) : Nat.log2 n = k := by
  have h0 : 1 ≤ n := Nat.le_trans (Nat.two_pow_pos k) h1
  have a := log_low h0
  have b := log_up n
  rcases Nat.lt_trichotomy (Nat.log2 n) k with h | h | h
  · have := Nat.pow_le_pow_right (n := 2) (by omega) (show Nat.log2 n + 1 ≤ k by omega)
    omega
  · exact h
  · have := Nat.pow_le_pow_right (n := 2) (by omega) (show k + 1 ≤ Nat.log2 n by omega)
    omega
theorem log_le {n : Nat} (h1 : 1 ≤ n) (h : n ≤ 1048575) : Nat.log2 n ≤ 19 := by
  apply Classical.byContradiction
  intro hc
  have := Nat.pow_le_pow_right (n := 2) (by omega) (show 20 ≤ Nat.log2 n by omega)
  have := log_low h1
  omega
/-- Halving: how the program counts. -/
theorem log_half {n : Nat} (h : 2 ≤ n) : Nat.log2 n = Nat.log2 (n / 2) + 1 := by
  have h1 := log_low (n := n / 2) (by omega)
  have h2 := log_up (n / 2)
  apply log_one
  · rw [Nat.pow_succ]; omega
  · rw [Nat.pow_succ]; omega
end Go.Proofs.YtembljihmnmmfaaGreat
namespace Go.Proofs.YtembljihmnmmfaaGreat
set_option linter.unusedVariables false
set_option linter.unusedSimpArgs false

/-- A word moved up by a bit. -/
def up (w : Nat) : Nat := if w / 2147483648 = 1 then (2 * w % 4294967296) ^^^ 79764919 else 2 * w % 4294967296
def upW : Nat → Nat → Nat
  | 0, w => w
  | k + 1, w => up (upW k w)
/-- One byte more. -/
def step (w b : Nat) : Nat := upW 8 (w ^^^ b * 16777216)
end Go.Proofs.YtembljihmnmmfaaGreat
namespace Go.Proofs.YtembljihmnmmfaaGreat
set_option linter.unusedVariables false
set_option linter.unusedSimpArgs false

/-! ### the bits -/
/-- From bit a on, the length being 'now', the steps lead to the length x, and the zero ends ahead of bit b. -/
inductive Stp (s : ByteArray) : Nat → Nat → Nat → Nat → Prop
  | stop (a now : Nat) (h : 1 ≤ now ∧ now ≤ 20) (hs : a + 1 ≤ 8 * s.size) (hb : bit s a = 0) : Stp s a now now (a + 1)
  | up (a now x b : Nat) (h : 1 ≤ now ∧ now ≤ 20) (hs : a + 2 ≤ 8 * s.size) (hb : bit s a = 1) (hc : bit s (a + 1) = 0) (hr : Stp s (a + 2) (now + 1) x b) : Stp s a now x b
  | down (a now x b : Nat) (h : 1 ≤ now ∧ now ≤ 20) (hs : a + 2 ≤ 8 * s.size) (hb : bit s a = 1) (hc : bit s (a + 1) = 1) (hr : Stp s (a + 2) (now - 1) x b) : Stp s a now x b
theorem Stp.range {s : ByteArray} {a now x b : Nat} (h : Stp s a now x b) : 1 ≤ x ∧ x ≤ 20 := by
  induction h with
  | stop a now h => exact h
  | up _ _ _ _ _ _ _ _ _ ih => exact ih
  | down _ _ _ _ _ _ _ _ _ ih => exact ih
theorem Stp.le {s : ByteArray} {a now x b : Nat} (h : Stp s a now x b) : a < b ∧ b ≤ 8 * s.size := by
  induction h with
  | stop a now h hs => exact ⟨by omega, hs⟩
  | up _ _ _ _ _ _ _ _ _ ih => exact ⟨by omega, ih.2⟩
  | down _ _ _ _ _ _ _ _ _ ih => exact ⟨by omega, ih.2⟩
/-- Lengths one after the other. -/
inductive StpL (s : ByteArray) : Nat → Nat → List Nat → Nat → Prop
  | nil (a now : Nat) : StpL s a now [] a
  | cons (a now x b c : Nat) (xs : List Nat) (h : Stp s a now x b) (hr : StpL s b x xs c) : StpL s a now (x :: xs) c
theorem StpL.range {s : ByteArray} {a now b : Nat} {xs : List Nat} (h : StpL s a now xs b) : ∀ x ∈ xs, 1 ≤ x ∧ x ≤ 20 := by
  induction h with
  | nil => intro x hx; simp at hx
  | cons a now x b c xs h hr ih =>
    intro y hy
    rcases List.mem_cons.1 hy with rfl | hy
    · exact h.range
    · exact ih y hy
theorem StpL.le {s : ByteArray} {a now b : Nat} {xs : List Nat} (h : StpL s a now xs b) (ha : a ≤ 8 * s.size) : a ≤ b ∧ b ≤ 8 * s.size := by
  induction h with
  | nil a now => exact ⟨Nat.le_refl _, ha⟩
  | cons a now x b c xs h hr ih =>
    have := h.le
    have := ih this.2
    omega
end Go.Proofs.YtembljihmnmmfaaGreat
namespace Go.Proofs.YtembljihmnmmfaaGreat
set_option linter.unusedVariables false
set_option linter.unusedSimpArgs false

structure PK (m : Nat) (D l : List Nat) : Prop where
  len : D.length = m
  small : ∀ j, D.getD j 0 < 256
  bits : ∀ j, j < 8 * m → bitL D j = l.getD j 0
theorem PK.zero {m : Nat} {D l : List Nat} (h : PK m D l) (hl : l.length ≤ 8 * m) : PK (m + 1) (D ++ [0]) l := by
  have hlen := h.len
  refine ⟨by simp [hlen], fun j => ?_, fun j hj => ?_⟩
  · rcases Nat.lt_or_ge j D.length with g | g
    · rw [getD_app_l _ _ _ g]; exact h.small j
    · rw [getD_app_r _ _ _ g]
      rcases Nat.eq_zero_or_pos (j - D.length) with e | e
      · rw [e]; simp
      · simp [List.getD_eq_getElem?_getD, show ¬ (j - D.length < 1) by omega]
  · unfold bitL
    rcases Nat.lt_or_ge (j / 8) D.length with g | g
    · rw [getD_app_l _ _ _ g]; exact h.bits j (by omega)
    · rw [getD_app_r _ _ _ g, show j / 8 - D.length = 0 by omega]
      simp [List.getD_eq_getElem?_getD, show l.length ≤ j by omega]
end Go.Proofs.YtembljihmnmmfaaGreat
