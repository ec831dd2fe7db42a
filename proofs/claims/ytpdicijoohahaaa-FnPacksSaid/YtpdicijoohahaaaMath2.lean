/- Bits packed into bytes, plain mathematics. No condition. -/
import Derived.Test.YtpdicijoohahaaaMath
namespace Go.Proofs.Ytpdicijoohahaaa
set_option linter.unusedVariables false
set_option linter.unusedSimpArgs false

theorem getD_app_l (l m : List Nat) (j : Nat) (h : j < l.length) : (l ++ m).getD j 0 = l.getD j 0 := by
  simp [List.getD_eq_getElem?_getD, List.getElem?_append, h]
theorem getD_app_r (l m : List Nat) (j : Nat) (h : l.length ≤ j) : (l ++ m).getD j 0 = m.getD (j - l.length) 0 := by
  simp [List.getD_eq_getElem?_getD, List.getElem?_append, show ¬ j < l.length by omega]
def bitL (D : List Nat) (j : Nat) : Nat := D.getD (j / 8) 0 / 2 ^ (7 - j % 8) % 2
/-- The bytes D are the bits l, and zeros up to the byte's end. -/
structure Packs (D l : List Nat) : Prop where
  len : D.length = (l.length + 7) / 8
  small : ∀ j, D.getD j 0 < 256
  bits : ∀ j, j < 8 * D.length → bitL D j = l.getD j 0
theorem byte_ext (x y : Nat) (hx : x < 256) (hy : y < 256) (h : ∀ r, r < 8 → x / 2 ^ (7 - r) % 2 = y / 2 ^ (7 - r) % 2) : x = y := by
  have h0 := h 0 (by omega); have h1 := h 1 (by omega); have h2 := h 2 (by omega); have h3 := h 3 (by omega)
  have h4 := h 4 (by omega); have h5 := h 5 (by omega); have h6 := h 6 (by omega); have h7 := h 7 (by omega)
  simp at h0 h1 h2 h3 h4 h5 h6 h7
  omega
theorem Packs.unique {D D' l : List Nat} (h : Packs D l) (h' : Packs D' l) : D = D' := by
  apply List.ext_getElem (h.len.trans h'.len.symm)
  intro j h1 h2
  have e1 : D.getD j 0 = D[j] := by simp [List.getD_eq_getElem?_getD, h1]
  have e2 : D'.getD j 0 = D'[j] := by simp [List.getD_eq_getElem?_getD, h2]
  rw [← e1, ← e2]
  refine byte_ext _ _ (h.small j) (h'.small j) fun r hr => ?_
  have a := h.bits (8 * j + r) (by omega)
  have b := h'.bits (8 * j + r) (by omega)
  unfold bitL at a b
  rw [show (8 * j + r) / 8 = j by omega, show (8 * j + r) % 8 = r by omega] at a b
  rw [a, b]

/-- k bits of y, the first one the highest. -/
def nbits (y k : Nat) : List Nat := (List.range k).map fun i => y / 2 ^ (k - 1 - i) % 2
theorem nbits_len (y k : Nat) : (nbits y k).length = k := by simp [nbits]
theorem nbits_get (y k j : Nat) (h : j < k) : (nbits y k).getD j 0 = y / 2 ^ (k - 1 - j) % 2 := by simp [nbits, List.getD_eq_getElem?_getD, h]
theorem nbits_lt (y k : Nat) : ∀ b ∈ nbits y k, b < 2 := by
  intro b hb
  simp only [nbits, List.mem_map] at hb
  obtain ⟨i, _, rfl⟩ := hb
  omega
/-- The bits of a number from the top: first those of its quotient, then those of its rest. -/
theorem nbits_add (v a b : Nat) : nbits v (a + b) = nbits (v / 2 ^ b) a ++ nbits (v % 2 ^ b) b := by
  apply List.ext_getElem (by simp [nbits_len])
  intro j h1 h2
  rw [nbits_len] at h1
  have g : ∀ (l : List Nat) (h : j < l.length), l[j] = l.getD j 0 := fun l h => by simp [List.getD_eq_getElem?_getD, h]
  rw [g, g, nbits_get _ _ _ h1]
  by_cases hj : j < a
  · rw [getD_app_l _ _ _ (by rw [nbits_len]; exact hj), nbits_get _ _ _ hj, Nat.div_div_eq_div_mul, ← Nat.pow_add, show b + (a - 1 - j) = a + b - 1 - j by omega]
  · rw [getD_app_r _ _ _ (by rw [nbits_len]; omega), nbits_len, nbits_get _ _ _ (by omega), show a + b - 1 - j = b - 1 - (j - a) by omega]
    have hp : v % 2 ^ b / 2 ^ (b - 1 - (j - a)) % 2 = v / 2 ^ (b - 1 - (j - a)) % 2 := by
      have e : 2 ^ b = 2 ^ (b - 1 - (j - a)) * 2 ^ (b - (b - 1 - (j - a))) := by rw [← Nat.pow_add]; congr 1; omega
      rw [e, Nat.mod_mul_right_div_self]
      have e2 : 2 ^ (b - (b - 1 - (j - a))) = 2 * 2 ^ (b - (b - 1 - (j - a)) - 1) := by rw [← Nat.pow_succ']; congr 1; omega
      rw [e2, Nat.mod_mul_right_mod]
    exact hp.symm
theorem num_nbits (v k : Nat) (h : v < 2 ^ k) : num (nbits v k) = v := by
  induction k generalizing v with
  | zero => simp [nbits, num] at *; omega
  | succ k ih =>
    rw [nbits_add v k 1, num_append, ih (v / 2 ^ 1) (by rw [Nat.pow_succ] at h; omega)]
    simp [nbits, num]; omega

theorem or_bits : ∀ x : Fin 256, ∀ r : Fin 8, ∀ b : Fin 2, ∀ q : Fin 8, x.val / 2 ^ (7 - r.val) % 2 = 0 → (x.val ||| b.val * 2 ^ (7 - r.val)) / 2 ^ (7 - q.val) % 2 = if q.val = r.val then b.val else x.val / 2 ^ (7 - q.val) % 2 := by decide +kernel
theorem or_small (x y : Nat) (hx : x < 256) (hy : y < 256) : x ||| y < 256 := Nat.or_lt_two_pow (n := 8) hx hy
/-- One more bit. -/
theorem packs_or {D l : List Nat} {m : Nat} (b : Nat) (hb : b < 2) (hm : D.length = m) (hs : ∀ j, D.getD j 0 < 256) (hk : l.length < 8 * m) (hbits : ∀ j, j < 8 * m → bitL D j = l.getD j 0) :
    (∀ j, (D.set (l.length / 8) (D.getD (l.length / 8) 0 ||| b * 2 ^ (7 - l.length % 8))).getD j 0 < 256) ∧
    ∀ j, j < 8 * m → bitL (D.set (l.length / 8) (D.getD (l.length / 8) 0 ||| b * 2 ^ (7 - l.length % 8))) j = (l ++ [b]).getD j 0 := by
  have hl8 : l.length / 8 < D.length := by omega
  have hp : b * 2 ^ (7 - l.length % 8) < 256 := by
    have : 2 ^ (7 - l.length % 8) ≤ 2 ^ 7 := Nat.pow_le_pow_right (by omega) (by omega)
    have : b * 2 ^ (7 - l.length % 8) ≤ 1 * 2 ^ 7 := Nat.mul_le_mul (by omega) this
    omega
  have hset : ∀ j, (D.set (l.length / 8) (D.getD (l.length / 8) 0 ||| b * 2 ^ (7 - l.length % 8))).getD j 0 = if l.length / 8 = j then D.getD (l.length / 8) 0 ||| b * 2 ^ (7 - l.length % 8) else D.getD j 0 := by
    intro j
    rw [List.getD_eq_getElem?_getD, List.getElem?_set]
    by_cases h : l.length / 8 = j
    · simp [h, show j < D.length by omega]
    · simp [h, List.getD_eq_getElem?_getD]
  constructor
  · intro j
    rw [hset]
    by_cases h : l.length / 8 = j
    · rw [if_pos h]; exact or_small _ _ (hs _) hp
    · rw [if_neg h]; exact hs j
  · intro j hj
    unfold bitL
    rw [hset]
    have old := hbits j hj
    unfold bitL at old
    by_cases h : l.length / 8 = j / 8
    · rw [if_pos h]
      have z := hbits l.length hk
      unfold bitL at z
      rw [List.getD_eq_getElem?_getD (l := l), List.getElem?_eq_none (Nat.le_refl _)] at z
      have g := or_bits ⟨D.getD (l.length / 8) 0, hs _⟩ ⟨l.length % 8, by omega⟩ ⟨b, hb⟩ ⟨j % 8, by omega⟩ (by simpa using z)
      simp only at g
      rw [g]
      by_cases e : j = l.length
      · subst e; rw [if_pos rfl]; simp [List.getD_eq_getElem?_getD]
      · rw [if_neg (by omega), h, old]
        by_cases hlt : j < l.length
        · rw [getD_app_l _ _ _ hlt]
        · simp [List.getD_eq_getElem?_getD, List.getElem?_append, hlt, show l.length ≤ j by omega, show ¬ (j - l.length < 1) by omega]
    · rw [if_neg h, old]
      by_cases hlt : j < l.length
      · rw [getD_app_l _ _ _ hlt]
      · simp [List.getD_eq_getElem?_getD, List.getElem?_append, hlt, show l.length ≤ j by omega, show ¬ (j - l.length < 1) by omega]

/-! ### strings -/
def strOf (D : List Nat) : ByteArray := ⟨(D.map UInt8.ofNat).toArray⟩
def bytesOf (s : ByteArray) : List Nat := s.data.toList.map UInt8.toNat
theorem bytesOf_len (s : ByteArray) : (bytesOf s).length = s.size := by simp [bytesOf]
theorem bytesOf_get (s : ByteArray) (j : Nat) : (bytesOf s).getD j 0 = byteAt s j := by
  unfold bytesOf byteAt
  rw [List.getD_eq_getElem?_getD, List.getD_eq_getElem?_getD, List.getElem?_map]
  cases s.data.toList[j]? <;> rfl
theorem bitL_bytesOf (s : ByteArray) (j : Nat) : bitL (bytesOf s) j = bit s j := by unfold bitL bit; rw [bytesOf_get]
theorem strOf_bytesOf (s : ByteArray) : strOf (bytesOf s) = s := by
  unfold strOf bytesOf
  rw [List.map_map]
  have : (UInt8.ofNat ∘ UInt8.toNat) = id := by funext x; simp
  rw [this, List.map_id]
theorem bytesOf_strOf (D : List Nat) (h : ∀ j, D.getD j 0 < 256) : bytesOf (strOf D) = D := by
  unfold strOf bytesOf
  apply List.ext_getElem (by simp)
  intro j h1 h2
  have := h j
  have e : D.getD j 0 = D[j] := by simp [List.getD_eq_getElem?_getD, h2]
  rw [e] at this
  simp; omega
theorem bitsOk_packs {s : ByteArray} {n : Nat} (h : okB s n = true) : Packs (bytesOf s) (row s 0 n) := by
  rw [okB_nat] at h
  obtain ⟨h1, h2, h3⟩ := h
  refine ⟨by rw [bytesOf_len, row_len, h2], fun j => by rw [bytesOf_get]; exact byteAt_lt _ _, fun j hj => ?_⟩
  rw [bytesOf_len] at hj
  rw [bitL_bytesOf]
  by_cases hlt : j < n
  · simp [row, List.getD_eq_getElem?_getD, hlt]
  · rw [h3 j hj (by omega)]; simp [row, List.getD_eq_getElem?_getD, hlt]
theorem strOf_size (D : List Nat) : (strOf D).size = D.length := by show (D.map UInt8.ofNat).toArray.size = _; simp
theorem packs_ok {D l : List Nat} (h : Packs D l) (hl : l.length ≤ 400000) : okB (strOf D) l.length = true ∧ row (strOf D) 0 l.length = l := by
  have hb : ∀ j, bit (strOf D) j = bitL D j := fun j => by rw [← bitL_bytesOf, bytesOf_strOf D h.small]
  have hlen := h.len
  constructor
  · rw [okB_nat, strOf_size]
    refine ⟨hl, hlen, fun k hk hn => ?_⟩
    rw [hb, h.bits k hk]; simp [List.getD_eq_getElem?_getD, hn]
  · apply List.ext_getElem (by rw [row_len])
    intro j h1 h2
    have : (row (strOf D) 0 l.length)[j] = bit (strOf D) j := by simp [row]
    rw [this, hb, h.bits j (by omega)]; simp [List.getD_eq_getElem?_getD, h2]
end Go.Proofs.Ytpdicijoohahaaa
