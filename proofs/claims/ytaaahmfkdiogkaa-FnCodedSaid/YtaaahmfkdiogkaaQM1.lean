/- Merged: Math, Math2, Gam, Math3. -/
import Derived.Laws.BitsAllLaws
import Derived.IntWalk
import Derived.RowKit
namespace Go.Proofs.Ytaaahmfkdiogkaa
set_option linter.unusedVariables false
set_option linter.unusedSimpArgs false

theorem wrap_i64_n (n : Nat) (h : n < 9223372036854775808) : IntKind.i64.wrap (n : Int) = (n : Int) := IntWalk.i64_in _ (by omega)
theorem i64_or_nat (a b : Nat) (ha : a < 4611686018427387904) (hb : b < 4611686018427387904) : bits .or .i64 (a : Int) (b : Int) = ((a ||| b : Nat) : Int) := by
  show IntKind.i64.wrap ((BitVec.ofInt 64 (a : Int) ||| BitVec.ofInt 64 (b : Int)).toNat : Int) = _
  rw [BitVec.toNat_or, ofInt_u64 a (by omega), ofInt_u64 b (by omega)]
  exact wrap_i64_n _ (Nat.lt_of_lt_of_le (Nat.or_lt_two_pow (n := 62) (by omega) (by omega)) (by omega))
theorem i64_xor_nat (a b : Nat) (ha : a < 4611686018427387904) (hb : b < 4611686018427387904) : bits .xor .i64 (a : Int) (b : Int) = ((a ^^^ b : Nat) : Int) := by
  show IntKind.i64.wrap ((BitVec.ofInt 64 (a : Int) ^^^ BitVec.ofInt 64 (b : Int)).toNat : Int) = _
  rw [BitVec.toNat_xor, ofInt_u64 a (by omega), ofInt_u64 b (by omega)]
  exact wrap_i64_n _ (Nat.lt_of_lt_of_le (Nat.xor_lt_two_pow (n := 62) (by omega) (by omega)) (by omega))
theorem i64_and_nat (a b : Nat) (ha : a < 9223372036854775808) (hb : b < 9223372036854775808) : bits .and .i64 (a : Int) (b : Int) = ((a &&& b : Nat) : Int) := by
  show IntKind.i64.wrap ((BitVec.ofInt 64 (a : Int) &&& BitVec.ofInt 64 (b : Int)).toNat : Int) = _
  rw [BitVec.toNat_and, ofInt_u64 a (by omega), ofInt_u64 b (by omega)]
  exact wrap_i64_n _ (Nat.lt_of_le_of_lt Nat.and_le_left (by omega))
/-- A mask of k low bits on any int64. -/
theorem i64_mask (n : Int) (k : Nat) (hk : k < 63) : bits .and .i64 n ((2 ^ k - 1 : Nat) : Int) = n % ((2 ^ k : Nat) : Int) := by
  have hp : 2 ^ k < 2 ^ 63 := Nat.pow_lt_pow_right (by omega) hk
  have hp0 : 0 < 2 ^ k := Nat.two_pow_pos k
  have hd : (2 ^ k : Nat) ∣ 2 ^ 64 := Nat.pow_dvd_pow 2 (by omega)
  show IntKind.i64.wrap ((BitVec.ofInt 64 n &&& BitVec.ofInt 64 ((2 ^ k - 1 : Nat) : Int)).toNat : Int) = _
  rw [BitVec.toNat_and, ofInt_u64 (2 ^ k - 1) (by omega), BitVec.toNat_ofInt, Nat.and_two_pow_sub_one_eq_mod]
  have e : ((((n % ((2 ^ 64 : Nat) : Int)).toNat % 2 ^ k : Nat)) : Int) = n % ((2 ^ k : Nat) : Int) := by
    rw [Int.natCast_emod, Int.toNat_of_nonneg (Int.emod_nonneg _ (by decide))]
    exact Int.emod_emod_of_dvd _ (Int.natCast_dvd_natCast.2 hd)
  rw [wrap_i64_n _ (Nat.lt_trans (Nat.mod_lt _ hp0) (by omega)), e]

/-! ### bytes and bits -/
def byteAt (s : ByteArray) (j : Nat) : Nat := (s.data.toList.getD j 0).toNat
theorem byteAt_get (s : ByteArray) (j : Nat) (h : j < s.size) : s[j].toNat = byteAt s j := by
  unfold byteAt
  have h' : j < s.data.toList.length := by simpa using h
  rw [List.getD_eq_getElem?_getD, List.getElem?_eq_getElem h']
  rfl
theorem byteAt_lt (s : ByteArray) (j : Nat) : byteAt s j < 256 := UInt8.toNat_lt _
def bit (s : ByteArray) (k : Nat) : Nat := byteAt s (k / 8) / 2 ^ (7 - k % 8) % 2
theorem bit_lt (s : ByteArray) (k : Nat) : bit s k < 2 := Nat.mod_lt _ (by omega)

/-- n bits from the a-th on. -/
def row (s : ByteArray) (a n : Nat) : List Nat := (List.range n).map fun i => bit s (a + i)
theorem row_len (s : ByteArray) (a n : Nat) : (row s a n).length = n := by simp [row]
theorem row_zero (s : ByteArray) (a : Nat) : row s a 0 = [] := rfl
theorem row_succ (s : ByteArray) (a n : Nat) : row s a (n + 1) = row s a n ++ [bit s (a + n)] := by simp [row, List.range_succ]
theorem row_add (s : ByteArray) (a n m : Nat) : row s a (n + m) = row s a n ++ row s (a + n) m := by
  induction m with
  | zero => simp [row]
  | succ m ih => rw [← Nat.add_assoc, row_succ, ih, row_succ, List.append_assoc, Nat.add_assoc]
theorem row_bits (s : ByteArray) (a n : Nat) : ∀ b ∈ row s a n, b < 2 := by
  intro b hb
  simp only [row, List.mem_map] at hb
  obtain ⟨i, _, rfl⟩ := hb
  exact bit_lt _ _

def num (l : List Nat) : Nat := l.foldl (fun v b => 2 * v + b) 0
theorem foldl_num (l : List Nat) (v : Nat) : l.foldl (fun v b => 2 * v + b) v = v * 2 ^ l.length + num l := by
  induction l generalizing v with
  | nil => simp [num]
  | cons b l ih =>
    have e : num (b :: l) = b * 2 ^ l.length + num l := by show l.foldl _ (2 * 0 + b) = _; rw [ih]; simp
    rw [List.foldl_cons, ih, e, List.length_cons, Nat.pow_succ, Nat.add_mul]
    have : 2 * v * 2 ^ l.length = v * (2 ^ l.length * 2) := by rw [Nat.mul_comm 2 v, Nat.mul_assoc, Nat.mul_comm 2]
    omega
theorem num_append (l m : List Nat) : num (l ++ m) = num l * 2 ^ m.length + num m := by
  unfold num; rw [List.foldl_append, foldl_num]; rfl
theorem num_snoc (l : List Nat) (b : Nat) : num (l ++ [b]) = 2 * num l + b := by rw [num_append]; simp [num]; omega
theorem num_lt (l : List Nat) (h : ∀ b ∈ l, b < 2) : num l < 2 ^ l.length := by
  induction l with
  | nil => simp [num]
  | cons b l ih =>
    have e : num (b :: l) = b * 2 ^ l.length + num l := by show l.foldl _ (2 * 0 + b) = _; rw [foldl_num]; simp
    have h1 := ih fun c hc => h c (by simp [hc])
    have h2 := h b (by simp)
    have h3 : b * 2 ^ l.length ≤ 1 * 2 ^ l.length := Nat.mul_le_mul_right _ (by omega)
    rw [e, List.length_cons, Nat.pow_succ]
    omega
theorem num_row_lt (s : ByteArray) (a n : Nat) : num (row s a n) < 2 ^ n := by
  have := num_lt (row s a n) (row_bits s a n)
  rwa [row_len] at this
theorem num_row_succ (s : ByteArray) (a n : Nat) : num (row s a (n + 1)) = 2 * num (row s a n) + bit s (a + n) := by rw [row_succ, num_snoc]

/-- k bits of one byte are a part of it. -/
theorem num_in_byte (s : ByteArray) (a k : Nat) (h : a % 8 + k ≤ 8) : num (row s a k) = byteAt s (a / 8) / 2 ^ (8 - a % 8 - k) % 2 ^ k := by
  induction k with
  | zero => simp [row, num, Nat.mod_one]
  | succ k ih =>
    have h1 : (a + k) / 8 = a / 8 := by omega
    have h2 : 7 - (a + k) % 8 = 8 - a % 8 - (k + 1) := by omega
    have h3 : 8 - a % 8 - k = 8 - a % 8 - (k + 1) + 1 := by omega
    rw [num_row_succ, ih (by omega), bit, h1, h2, h3, Nat.pow_succ 2 k, Nat.mul_comm (2 ^ k) 2, Nat.mod_mul, Nat.pow_succ, ← Nat.div_div_eq_div_mul]
    omega

theorem wrap64_n (n : Nat) (h : n < 9223372036854775808) : RowKit.wrap64 (n : Int) = (n : Int) := IntWalk.wrap64_in _ (by omega)
/-- v << k | y, y below 2^k, all within 32 bits. -/
theorem shl_or (v k y : Nat) (hv : v < 2 ^ 32) (hk : k ≤ 8) (hy : y < 2 ^ k) : bits .or .i64 (RowKit.wrap64 ((v : Int) * 2 ^ k)) (y : Int) = ((v * 2 ^ k + y : Nat) : Int) := by
  have h8 : 2 ^ k ≤ 2 ^ 8 := Nat.pow_le_pow_right (by omega) hk
  have h1 : v * 2 ^ k ≤ 2 ^ 32 * 2 ^ 8 := Nat.mul_le_mul (by omega) h8
  have e : ((v : Int) * 2 ^ k) = ((v * 2 ^ k : Nat) : Int) := by simp
  rw [e, wrap64_n _ (by omega), i64_or_nat _ _ (by omega) (by omega), nat_join k _ _ (Nat.mul_mod_left _ _) hy]
theorem mask_nat (x k : Nat) (hk : k ≤ 8) (hx : x < 4611686018427387904) : bits .and .i64 (x : Int) (RowKit.wrap64 (RowKit.wrap64 (2 ^ k) - 1)) = ((x % 2 ^ k : Nat) : Int) := by
  have h8 : 2 ^ k ≤ 2 ^ 8 := Nat.pow_le_pow_right (by omega) hk
  have h0 : 0 < 2 ^ k := Nat.two_pow_pos k
  have e : ((2 : Int) ^ k) = ((2 ^ k : Nat) : Int) := by simp
  rw [e, wrap64_n _ (by omega), show (((2 ^ k : Nat) : Int) - 1) = ((2 ^ k - 1 : Nat) : Int) by omega, wrap64_n _ (by omega), i64_and_nat _ _ (by omega) (by omega), Nat.and_two_pow_sub_one_eq_mod]
/-- One step of reading: k bits of one byte behind the i that are read already. -/
theorem read_step (s : ByteArray) (at0 i p k : Nat) (h2 : p = at0 + i) (hi : i ≤ 32) (hk : k ≤ 8 - p % 8) (hp : p / 8 < s.size) :
    bits .or .i64 (RowKit.wrap64 ((num (row s at0 i) : Int) * 2 ^ k)) (bits .and .i64 (RowKit.wrap64 (s[p / 8].toNat : Int) / 2 ^ (8 - p % 8 - k)) (RowKit.wrap64 (RowKit.wrap64 (2 ^ k) - 1))) = ((num (row s at0 (i + k)) : Nat) : Int) := by
  have hb : s[p / 8].toNat < 256 := UInt8.toNat_lt _
  have e1 : RowKit.wrap64 (s[p / 8].toNat : Int) / 2 ^ (8 - p % 8 - k) = ((s[p / 8].toNat / 2 ^ (8 - p % 8 - k) : Nat) : Int) := by
    rw [wrap64_n _ (by omega)]; simp
  have hd : s[p / 8].toNat / 2 ^ (8 - p % 8 - k) ≤ s[p / 8].toNat := Nat.div_le_self _ _
  have hv : num (row s at0 i) < 2 ^ 32 := Nat.lt_of_lt_of_le (num_row_lt s at0 i) (Nat.pow_le_pow_right (by omega) hi)
  rw [e1, mask_nat _ _ (by omega) (by omega), shl_or _ _ _ hv (by omega) (Nat.mod_lt _ (Nat.two_pow_pos k)), byteAt_get, ← num_in_byte s p k (by omega), row_add, num_append, row_len, h2]
theorem read_step_all (s : ByteArray) (at0 i p : Nat) (h2 : p = at0 + i) (hi : i ≤ 32) (hp : p / 8 < s.size) :
    bits .or .i64 (RowKit.wrap64 ((num (row s at0 i) : Int) * 2 ^ (8 - p % 8))) (bits .and .i64 (RowKit.wrap64 (s[p / 8].toNat : Int)) (RowKit.wrap64 (RowKit.wrap64 (2 ^ (8 - p % 8)) - 1))) = ((num (row s at0 (i + (8 - p % 8))) : Nat) : Int) := by
  have h := read_step s at0 i p (8 - p % 8) h2 hi (Nat.le_refl _) hp
  rw [Nat.sub_self, Int.pow_zero, Int.ediv_one] at h
  exact h

/-! ### a valid row of bits -/
/-- b is valid: n within its range, the bytes as many as n bits need, the bits behind them 0. -/
def okB (s : ByteArray) (n : Int) : Bool := decide (0 ≤ n ∧ n ≤ 400000 ∧ s.size = (n.toNat + 7) / 8 ∧ ∀ k, k < 8 * s.size → n.toNat ≤ k → bit s k = 0)
theorem okB_iff (s : ByteArray) (n : Int) : okB s n = true ↔ 0 ≤ n ∧ n ≤ 400000 ∧ s.size = (n.toNat + 7) / 8 ∧ ∀ k, k < 8 * s.size → n.toNat ≤ k → bit s k = 0 := by simp [okB]
theorem okB_nat (s : ByteArray) (n : Nat) : okB s n = true ↔ n ≤ 400000 ∧ s.size = (n + 7) / 8 ∧ ∀ k, k < 8 * s.size → n ≤ k → bit s k = 0 := by
  rw [okB_iff]; simp; omega
theorem tail_small : ∀ m : Fin 8, ∀ x : Fin 256, 0 < m.val → ((x.val * 2 ^ m.val % 256 = 0) ↔ ∀ r : Fin 8, m.val ≤ r.val → x.val / 2 ^ (7 - r.val) % 2 = 0) := by decide +kernel
theorem tail_byte (s : ByteArray) (n : Nat) (hs : s.size = (n + 7) / 8) (hm : n % 8 ≠ 0) : (byteAt s (s.size - 1) * 2 ^ (n % 8) % 256 = 0) ↔ ∀ k, k < 8 * s.size → n ≤ k → bit s k = 0 := by
  have h := tail_small ⟨n % 8, by omega⟩ ⟨byteAt s (s.size - 1), byteAt_lt _ _⟩ (by simp; omega)
  simp only at h
  rw [h]
  constructor
  · intro g k hk hn
    have e : k / 8 = s.size - 1 := by omega
    have := g ⟨k % 8, by omega⟩ (by simp; omega)
    simp only at this
    rw [bit, e]; exact this
  · intro g r hr
    have := g (8 * (s.size - 1) + r.val) (by omega) (by omega)
    rw [bit] at this
    rwa [show (8 * (s.size - 1) + r.val) / 8 = s.size - 1 by omega, show (8 * (s.size - 1) + r.val) % 8 = r.val by omega] at this
end Go.Proofs.Ytaaahmfkdiogkaa
namespace Go.Proofs.Ytaaahmfkdiogkaa
set_option linter.unusedVariables false
set_option linter.unusedSimpArgs false

theorem getD_app_l (l m : List Nat) (j : Nat) (h : j < l.length) : (l ++ m).getD j 0 = l.getD j 0 := by
  simp [List.getD_eq_getElem?_getD, List.getElem?_append, h]
theorem getD_app_r (l m : List Nat) (j : Nat) (h : l.length ≤ j) : (l ++ m).getD j 0 = m.getD (j - l.length) 0 := by
  simp [List.getD_eq_getElem?_getD, List.getElem?_append, show ¬ j < l.length by omega]
def bitL (D : List Nat) (j : Nat) : Nat := D.getD (j / 8) 0 / 2 ^ (7 - j % 8) % 2
/-- The bytes D are the bits l, and zeros up to the byte's end. -/
structure Packs (D l : List Nat) : Prop where
  len : D.length = (l.length + 7) / 8
  small : ∀ j, D.getD j 0 < 256
  bits : ∀ j, j < 8 * D.length → bitL D j = l.getD j 0
theorem byte_ext (x y : Nat) (hx : x < 256) (hy : y < 256) (h : ∀ r, r < 8 → x / 2 ^ (7 - r) % 2 = y / 2 ^ (7 - r) % 2) : x = y := by
  have h0 := h 0 (by omega); have h1 := h 1 (by omega); have h2 := h 2 (by omega); have h3 := h 3 (by omega)
  have h4 := h 4 (by omega); have h5 := h 5 (by omega); have h6 := h 6 (by omega); have h7 := h 7 (by omega)
  simp at h0 h1 h2 h3 h4 h5 h6 h7
  omega
theorem Packs.unique {D D' l : List Nat} (h : Packs D l) (h' : Packs D' l) : D = D' := by
  apply List.ext_getElem (h.len.trans h'.len.symm)
  intro j h1 h2
  have e1 : D.getD j 0 = D[j] := by simp [List.getD_eq_getElem?_getD, h1]
  have e2 : D'.getD j 0 = D'[j] := by simp [List.getD_eq_getElem?_getD, h2]
  rw [← e1, ← e2]
  refine byte_ext _ _ (h.small j) (h'.small j) fun r hr => ?_
  have a := h.bits (8 * j + r) (by omega)
  have b := h'.bits (8 * j + r) (by omega)
  unfold bitL at a b
  rw [show (8 * j + r) / 8 = j by omega, show (8 * j + r) % 8 = r by omega] at a b
  rw [a, b]

/-- k bits of y, the first one the highest. -/
def nbits (y k : Nat) : List Nat := (List.range k).map fun i => y / 2 ^ (k - 1 - i) % 2
theorem nbits_len (y k : Nat) : (nbits y k).length = k := by simp [nbits]
theorem nbits_get (y k j : Nat) (h : j < k) : (nbits y k).getD j 0 = y / 2 ^ (k - 1 - j) % 2 := by simp [nbits, List.getD_eq_getElem?_getD, h]
theorem nbits_lt (y k : Nat) : ∀ b ∈ nbits y k, b < 2 := by
  intro b hb
  simp only [nbits, List.mem_map] at hb
  obtain ⟨i, _, rfl⟩ := hb
  omega
/-- The bits of a number from the top: first those of its quotient, then those of its rest. -/
theorem nbits_add (v a b : Nat) : nbits v (a + b) = nbits (v / 2 ^ b) a ++ nbits (v % 2 ^ b) b := by
  apply List.ext_getElem (by simp [nbits_len])
  intro j h1 h2
  rw [nbits_len] at h1
  have g : ∀ (l : List Nat) (h : j < l.length), l[j] = l.getD j 0 := fun l h => by simp [List.getD_eq_getElem?_getD, h]
  rw [g, g, nbits_get _ _ _ h1]
  by_cases hj : j < a
  · rw [getD_app_l _ _ _ (by rw [nbits_len]; exact hj), nbits_get _ _ _ hj, Nat.div_div_eq_div_mul, ← Nat.pow_add, show b + (a - 1 - j) = a + b - 1 - j by omega]
  · rw [getD_app_r _ _ _ (by rw [nbits_len]; omega), nbits_len, nbits_get _ _ _ (by omega), show a + b - 1 - j = b - 1 - (j - a) by omega]
    have hp : v % 2 ^ b / 2 ^ (b - 1 - (j - a)) % 2 = v / 2 ^ (b - 1 - (j - a)) % 2 := by
      have e : 2 ^ b = 2 ^ (b - 1 - (j - a)) * 2 ^ (b - (b - 1 - (j - a))) := by rw [← Nat.pow_add]; congr 1; omega
      rw [e, Nat.mod_mul_right_div_self]
      have e2 : 2 ^ (b - (b - 1 - (j - a))) = 2 * 2 ^ (b - (b - 1 - (j - a)) - 1) := by rw [← Nat.pow_succ']; congr 1; omega
      rw [e2, Nat.mod_mul_right_mod]
    exact hp.symm
theorem num_nbits (v k : Nat) (h : v < 2 ^ k) : num (nbits v k) = v := by
  induction k generalizing v with
  | zero => simp [nbits, num] at *; omega
  | succ k ih =>
    rw [nbits_add v k 1, num_append, ih (v / 2 ^ 1) (by rw [Nat.pow_succ] at h; omega)]
    simp [nbits, num]; omega

theorem or_bits : ∀ x : Fin 256, ∀ r : Fin 8, ∀ b : Fin 2, ∀ q : Fin 8, x.val / 2 ^ (7 - r.val) % 2 = 0 → (x.val ||| b.val * 2 ^ (7 - r.val)) / 2 ^ (7 - q.val) % 2 = if q.val = r.val then b.val else x.val / 2 ^ (7 - q.val) % 2 := by decide +kernel
theorem or_small (x y : Nat) (hx : x < 256) (hy : y < 256) : x ||| y < 256 := Nat.or_lt_two_pow (n := 8) hx hy
/-- One more bit. -/
theorem packs_or {D l : List Nat} {m : Nat} (b : Nat) (hb : b < 2) (hm : D.length = m) (hs : ∀ j, D.getD j 0 < 256) (hk : l.length < 8 * m) (hbits : ∀ j, j < 8 * m → bitL D j = l.getD j 0) :
    (∀ j, (D.set (l.length / 8) (D.getD (l.length / 8) 0 ||| b * 2 ^ (7 - l.length % 8))).getD j 0 < 256) ∧
    ∀ j, j < 8 * m → bitL (D.set (l.length / 8) (D.getD (l.length / 8) 0 ||| b * 2 ^ (7 - l.length % 8))) j = (l ++ [b]).getD j 0 := by
  have hl8 : l.length / 8 < D.length := by omega
  have hp : b * 2 ^ (7 - l.length % 8) < 256 := by
    have : 2 ^ (7 - l.length % 8) ≤ 2 ^ 7 := Nat.pow_le_pow_right (by omega) (by omega)
    have : b * 2 ^ (7 - l.length % 8) ≤ 1 * 2 ^ 7 := Nat.mul_le_mul (by omega) this
    omega
  have hset : ∀ j, (D.set (l.length / 8) (D.getD (l.length / 8) 0 ||| b * 2 ^ (7 - l.length % 8))).getD j 0 = if l.length / 8 = j then D.getD (l.length / 8) 0 ||| b * 2 ^ (7 - l.length % 8) else D.getD j 0 := by
    intro j
    rw [List.getD_eq_getElem?_getD, List.getElem?_set]
    by_cases h : l.length / 8 = j
    · simp [h, show j < D.length by omega]
    · simp [h, List.getD_eq_getElem?_getD]
  constructor
  · intro j
    rw [hset]
    by_cases h : l.length / 8 = j
    · rw [if_pos h]; exact or_small _ _ (hs _) hp
    · rw [if_neg h]; exact hs j
  · intro j hj
    unfold bitL
    rw [hset]
    have old := hbits j hj
    unfold bitL at old
    by_cases h : l.length / 8 = j / 8
    · rw [if_pos h]
      have z := hbits l.length hk
      unfold bitL at z
      rw [List.getD_eq_getElem?_getD (l := l), List.getElem?_eq_none (Nat.le_refl _)] at z
      have g := or_bits ⟨D.getD (l.length / 8) 0, hs _⟩ ⟨l.length % 8, by omega⟩ ⟨b, hb⟩ ⟨j % 8, by omega⟩ (by simpa using z)
      simp only at g
      rw [g]
      by_cases e : j = l.length
      · subst e; rw [if_pos rfl]; simp [List.getD_eq_getElem?_getD]
      · rw [if_neg (by omega), h, old]
        by_cases hlt : j < l.length
        · rw [getD_app_l _ _ _ hlt]
        · simp [List.getD_eq_getElem?_getD, List.getElem?_append, hlt, show l.length ≤ j by omega, show ¬ (j - l.length < 1) by omega]
    · rw [if_neg h, old]
      by_cases hlt : j < l.length
      · rw [getD_app_l _ _ _ hlt]
      · simp [List.getD_eq_getElem?_getD, List.getElem?_append, hlt, show l.length ≤ j by omega, show ¬ (j - l.length < 1) by omega]

/-! ### strings -/
def strOf (D : List Nat) : ByteArray := ⟨(D.map UInt8.ofNat).toArray⟩
def bytesOf (s : ByteArray) : List Nat := s.data.toList.map UInt8.toNat
theorem bytesOf_len (s : ByteArray) : (bytesOf s).length = s.size := by simp [bytesOf]
theorem bytesOf_get (s : ByteArray) (j : Nat) : (bytesOf s).getD j 0 = byteAt s j := by
  unfold bytesOf byteAt
  rw [List.getD_eq_getElem?_getD, List.getD_eq_getElem?_getD, List.getElem?_map]
  cases s.data.toList[j]? <;> rfl
theorem bitL_bytesOf (s : ByteArray) (j : Nat) : bitL (bytesOf s) j = bit s j := by unfold bitL bit; rw [bytesOf_get]
theorem strOf_bytesOf (s : ByteArray) : strOf (bytesOf s) = s := by
  unfold strOf bytesOf
  rw [List.map_map]
  have : (UInt8.ofNat ∘ UInt8.toNat) = id := by funext x; simp
  rw [this, List.map_id]
theorem bytesOf_strOf (D : List Nat) (h : ∀ j, D.getD j 0 < 256) : bytesOf (strOf D) = D := by
  unfold strOf bytesOf
  apply List.ext_getElem (by simp)
  intro j h1 h2
  have := h j
  have e : D.getD j 0 = D[j] := by simp [List.getD_eq_getElem?_getD, h2]
  rw [e] at this
  simp; omega
theorem bitsOk_packs {s : ByteArray} {n : Nat} (h : okB s n = true) : Packs (bytesOf s) (row s 0 n) := by
  rw [okB_nat] at h
  obtain ⟨h1, h2, h3⟩ := h
  refine ⟨by rw [bytesOf_len, row_len, h2], fun j => by rw [bytesOf_get]; exact byteAt_lt _ _, fun j hj => ?_⟩
  rw [bytesOf_len] at hj
  rw [bitL_bytesOf]
  by_cases hlt : j < n
  · simp [row, List.getD_eq_getElem?_getD, hlt]
  · rw [h3 j hj (by omega)]; simp [row, List.getD_eq_getElem?_getD, hlt]
theorem strOf_size (D : List Nat) : (strOf D).size = D.length := by show (D.map UInt8.ofNat).toArray.size = _; simp
theorem packs_ok {D l : List Nat} (h : Packs D l) (hl : l.length ≤ 400000) : okB (strOf D) l.length = true ∧ row (strOf D) 0 l.length = l := by
  have hb : ∀ j, bit (strOf D) j = bitL D j := fun j => by rw [← bitL_bytesOf, bytesOf_strOf D h.small]
  have hlen := h.len
  constructor
  · rw [okB_nat, strOf_size]
    refine ⟨hl, hlen, fun k hk hn => ?_⟩
    rw [hb, h.bits k hk]; simp [List.getD_eq_getElem?_getD, hn]
  · apply List.ext_getElem (by rw [row_len])
    intro j h1 h2
    have : (row (strOf D) 0 l.length)[j] = bit (strOf D) j := by simp [row]
    rw [this, hb, h.bits j (by omega)]; simp [List.getD_eq_getElem?_getD, h2]
end Go.Proofs.Ytaaahmfkdiogkaa
namespace Go.Proofs.Ytaaahmfkdiogkaa
set_option linter.unusedVariables false
set_option linter.unusedSimpArgs false

/-- The bits of n: zeros, and n. -/
def gamL (n : Nat) : List Nat := nbits n (2 * Nat.log2 n + 1)
theorem log_low {n : Nat} (h : 1 ≤ n) : 2 ^ Nat.log2 n ≤ n := Nat.log2_self_le (by omega)
theorem log_up (n : Nat) : n < 2 ^ (Nat.log2 n + 1) := Nat.lt_log2_self
theorem log_one {n k : Nat} (h1 : 2 ^ k ≤ n) (h2 : n < 2 ^ (k + 1)) : Nat.log2 n = k := by
  have h0 : 1 ≤ n := Nat.le_trans (Nat.two_pow_pos k) h1
  have a := log_low h0
  have b := log_up n
  rcases Nat.lt_trichotomy (Nat.log2 n) k with h | h | h
  · have := Nat.pow_le_pow_right (n := 2) (by omega) (show Nat.log2 n + 1 ≤ k by omega)
    omega
  · exact h
  · have := Nat.pow_le_pow_right (n := 2) (by omega) (show k + 1 ≤ Nat.log2 n by omega)
    omega
theorem log_le {n : Nat} (h1 : 1 ≤ n) (h : n ≤ 1048575) : Nat.log2 n ≤ 19 := by
  apply Classical.byContradiction
  intro hc
  have := Nat.pow_le_pow_right (n := 2) (by omega) (show 20 ≤ Nat.log2 n by omega)
  have := log_low h1
  omega
/-- Halving: how the program counts. -/
theorem log_half {n : Nat} (h : 2 ≤ n) : Nat.log2 n = Nat.log2 (n / 2) + 1 := by
  have h1 := log_low (n := n / 2) (by omega)
  have h2 := log_up (n / 2)
  apply log_one
  · rw [Nat.pow_succ]; omega
  · rw [Nat.pow_succ]; omega
theorem log_small : Nat.log2 1 = 0 := by decide
theorem gamL_len (n : Nat) : (gamL n).length = 2 * Nat.log2 n + 1 := nbits_len _ _
theorem gamL_lt (n : Nat) : ∀ b ∈ gamL n, b < 2 := nbits_lt _ _
theorem gamL_num (n : Nat) : num (gamL n) = n := num_nbits _ _ (Nat.lt_of_lt_of_le (log_up n) (Nat.pow_le_pow_right (by omega) (by omega)))

/-! ### the reading -/
/-- At bit a stands the number n, of k zeros and k + 1 bits. -/
def Gam (s : ByteArray) (a k n : Nat) : Prop := k ≤ 19 ∧ a + (2 * k + 1) ≤ 8 * s.size ∧ num (row s a k) = 0 ∧ bit s (a + k) = 1 ∧ n = 2 ^ k + num (row s (a + k + 1) k)
theorem num_zero_bits {s : ByteArray} {a : Nat} (k : Nat) : num (row s a k) = 0 ↔ ∀ i, i < k → bit s (a + i) = 0 := by
  induction k with
  | zero => exact ⟨fun _ i hi => by omega, fun _ => rfl⟩
  | succ k ih =>
    rw [num_row_succ]
    constructor
    · intro h i hi
      rcases Nat.lt_or_ge i k with h2 | h2
      · exact ih.1 (by omega) i h2
      · have : i = k := by omega
        subst this; omega
    · intro h
      have h1 := ih.2 fun i hi => h i (by omega)
      have h2 := h k (by omega)
      omega
theorem num_row_cons (s : ByteArray) (a n : Nat) : num (row s a (n + 1)) = bit s a * 2 ^ n + num (row s (a + 1) n) := by
  rw [Nat.add_comm n 1, row_add, num_append, row_len]
  simp [row, num]
theorem gam_range {s : ByteArray} {a k n : Nat} (h : Gam s a k n) : 2 ^ k ≤ n ∧ n < 2 ^ (k + 1) ∧ 1 ≤ n ∧ n ≤ 1048575 := by
  obtain ⟨hk, _, _, _, rfl⟩ := h
  have h1 := num_row_lt s (a + k + 1) k
  have h2 := Nat.pow_le_pow_right (n := 2) (by omega) (show k + 1 ≤ 20 by omega)
  have h3 := Nat.two_pow_pos k
  rw [Nat.pow_succ] at h2 ⊢
  omega
theorem gam_log {s : ByteArray} {a k n : Nat} (h : Gam s a k n) : Nat.log2 n = k := log_one (gam_range h).1 (gam_range h).2.1
theorem gam_zeros {s : ByteArray} {a k j n : Nat} (h : Gam s a k n) (hz : ∀ i, i < j → bit s (a + i) = 0) (h1 : bit s (a + j) = 1) : k = j := by
  have hk := (num_zero_bits k).1 h.2.2.1
  rcases Nat.lt_trichotomy k j with hl | hl | hl
  · have := hz k hl
    have := h.2.2.2.1
    omega
  · exact hl
  · have := hk j hl
    omega
theorem gam_one {s : ByteArray} {a k j n m : Nat} (h : Gam s a k n) (h2 : Gam s a j m) : k = j ∧ n = m := by
  have e := gam_zeros h ((num_zero_bits j).1 h2.2.2.1) h2.2.2.2.1
  subst e
  exact ⟨rfl, h.2.2.2.2.trans h2.2.2.2.2.symm⟩
/-- In one piece. -/
theorem gam_whole {s : ByteArray} {a k n : Nat} (h : Gam s a k n) : num (row s a (2 * k + 1)) = n := by
  obtain ⟨_, _, hz, hb, rfl⟩ := h
  rw [show 2 * k + 1 = k + (k + 1) by omega, row_add, num_append, hz, num_row_cons, hb]
  omega
theorem gam_of {s : ByteArray} {a n : Nat} (h1 : 1 ≤ n) (h2 : n ≤ 1048575) (hs : a + (2 * Nat.log2 n + 1) ≤ 8 * s.size) (hn : num (row s a (2 * Nat.log2 n + 1)) = n) : Gam s a (Nat.log2 n) n := by
  have hlo := log_low h1
  have hup := log_up n
  have hk := log_le h1 h2
  generalize Nat.log2 n = k at *
  rw [show 2 * k + 1 = k + (k + 1) by omega, row_add, num_append, row_len, num_row_cons] at hn
  have hb := bit_lt s (a + k)
  have hr := num_row_lt s (a + k + 1) k
  have hp := Nat.two_pow_pos k
  have hz : num (row s a k) = 0 := by
    apply Classical.byContradiction
    intro hc
    have : 1 * 2 ^ (k + 1) ≤ num (row s a k) * 2 ^ (k + 1) := Nat.mul_le_mul_right _ (by omega)
    omega
  rw [hz, Nat.zero_mul, Nat.zero_add] at hn
  have hb1 : bit s (a + k) = 1 := by
    rcases Nat.lt_or_ge (bit s (a + k)) 1 with h | h
    · have : bit s (a + k) = 0 := by omega
      rw [this] at hn; omega
    · omega
  rw [hb1] at hn
  exact ⟨hk, hs, hz, hb1, by omega⟩
/-- What was put is read, whatever stands behind. -/
theorem gam_put {s : ByteArray} {a n : Nat} (h1 : 1 ≤ n) (h2 : n ≤ 1048575) (hs : a + (gamL n).length ≤ 8 * s.size) (hr : row s a (gamL n).length = gamL n) : Gam s a (Nat.log2 n) n := by
  refine gam_of h1 h2 (by rwa [gamL_len] at hs) ?_
  rw [gamL_len] at hr
  rw [hr, gamL_num]
theorem gam_row {s : ByteArray} {a k n : Nat} (h : Gam s a k n) : a + k + 1 + k ≤ 8 * s.size := by have := h.2.1; omega
end Go.Proofs.Ytaaahmfkdiogkaa
namespace Go.Proofs.Ytaaahmfkdiogkaa
set_option linter.unusedVariables false
set_option linter.unusedSimpArgs false

structure PK (m : Nat) (D l : List Nat) : Prop where
  len : D.length = m
  small : ∀ j, D.getD j 0 < 256
  bits : ∀ j, j < 8 * m → bitL D j = l.getD j 0
theorem Packs.pk {D l : List Nat} (h : Packs D l) : PK D.length D l := ⟨rfl, h.small, h.bits⟩
theorem PK.packs {m : Nat} {D l : List Nat} (h : PK m D l) (hm : m = (l.length + 7) / 8) : Packs D l := ⟨h.len.trans hm, h.small, fun j hj => h.bits j (by rw [← h.len]; exact hj)⟩
theorem PK.zero {m : Nat} {D l : List Nat} (h : PK m D l) (hl : l.length ≤ 8 * m) : PK (m + 1) (D ++ [0]) l := by
  have hlen := h.len
  refine ⟨by simp [hlen], fun j => ?_, fun j hj => ?_⟩
  · rcases Nat.lt_or_ge j D.length with g | g
    · rw [getD_app_l _ _ _ g]; exact h.small j
    · rw [getD_app_r _ _ _ g]
      rcases Nat.eq_zero_or_pos (j - D.length) with e | e
      · rw [e]; simp
      · simp [List.getD_eq_getElem?_getD, show ¬ (j - D.length < 1) by omega]
  · unfold bitL
    rcases Nat.lt_or_ge (j / 8) D.length with g | g
    · rw [getD_app_l _ _ _ g]; exact h.bits j (by omega)
    · rw [getD_app_r _ _ _ g, show j / 8 - D.length = 0 by omega]
      simp [List.getD_eq_getElem?_getD, show l.length ≤ j by omega]
theorem getD_set_self (D : List Nat) (i x : Nat) (h : i < D.length) : (D.set i x).getD i 0 = x := by simp [List.getD_eq_getElem?_getD, h]
theorem or_split (p e : Nat) : p * 2 ^ e = (p / 2) * 2 ^ (e + 1) ||| (p % 2) * 2 ^ e := by
  have h : p / 2 * 2 ^ (e + 1) = (p / 2 * 2) * 2 ^ e := by rw [Nat.pow_succ, Nat.mul_assoc, Nat.mul_comm 2]
  have hlt : p % 2 * 2 ^ e < 2 ^ (e + 1) := by
    have : p % 2 * 2 ^ e ≤ 1 * 2 ^ e := Nat.mul_le_mul_right _ (by omega)
    have := Nat.two_pow_pos e
    rw [Nat.pow_succ]; omega
  rw [nat_join (e + 1) _ _ (Nat.mul_mod_left _ _) hlt, h, ← Nat.add_mul]
  congr 1; omega
/-- k more bits within the last byte. -/
theorem PK.or_k {m : Nat} {D l : List Nat} (h : PK m D l) (k : Nat) : ∀ p, l.length / 8 + 1 = m → l.length % 8 + k ≤ 8 →
    PK m (D.set (m - 1) (D.getD (m - 1) 0 ||| p % 2 ^ k * 2 ^ (8 - l.length % 8 - k))) (l ++ nbits (p % 2 ^ k) k) := by
  induction k with
  | zero =>
    intro p hm hk
    have e : D.set (m - 1) (D.getD (m - 1) 0 ||| p % 2 ^ 0 * 2 ^ (8 - l.length % 8 - 0)) = D := by
      rw [Nat.pow_zero, Nat.mod_one, Nat.zero_mul, Nat.or_zero]
      apply List.ext_getElem (by simp)
      intro j h1 h2
      rw [List.getElem_set]
      by_cases hj : m - 1 = j
      · rw [if_pos hj]; subst hj; simp [List.getD_eq_getElem?_getD, h2]
      · rw [if_neg hj]
    rw [e]
    simpa [nbits] using h
  | succ k ih =>
    intro p hm hk
    have hlen := h.len
    have g := ih (p / 2) hm (by omega)
    have e1 : nbits (p % 2 ^ (k + 1)) (k + 1) = nbits (p / 2 % 2 ^ k) k ++ [p % 2] := by
      rw [nbits_add (p % 2 ^ (k + 1)) k 1, show p % 2 ^ (k + 1) / 2 ^ 1 = p / 2 % 2 ^ k by rw [Nat.pow_succ, Nat.mul_comm, Nat.pow_one, Nat.mod_mul_right_div_self]]
      simp [nbits, Nat.pow_succ, Nat.mul_comm _ 2, Nat.mod_mul_right_mod]
    have hl2 : (l ++ nbits (p / 2 % 2 ^ k) k).length = l.length + k := by rw [List.length_append, nbits_len]
    have q := packs_or (p % 2) (by omega) g.len g.small (by rw [hl2]; omega) g.bits
    rw [hl2, show (l.length + k) / 8 = m - 1 by omega, show 7 - (l.length + k) % 8 = 8 - l.length % 8 - (k + 1) by omega, getD_set_self _ _ _ (by omega), List.set_set, Nat.or_assoc,
      show 8 - l.length % 8 - k = 8 - l.length % 8 - (k + 1) + 1 by omega] at q
    have e2 : p / 2 % 2 ^ k * 2 ^ (8 - l.length % 8 - (k + 1) + 1) ||| p % 2 * 2 ^ (8 - l.length % 8 - (k + 1)) = p % 2 ^ (k + 1) * 2 ^ (8 - l.length % 8 - (k + 1)) := by
      rw [or_split (p % 2 ^ (k + 1)), show p % 2 ^ (k + 1) / 2 = p / 2 % 2 ^ k by rw [Nat.pow_succ, Nat.mul_comm, Nat.mod_mul_right_div_self],
        show p % 2 ^ (k + 1) % 2 = p % 2 by rw [Nat.pow_succ, Nat.mul_comm, Nat.mod_mul_right_mod]]
    rw [e2, List.append_assoc, ← e1] at q
    exact ⟨by simp [hlen], q.1, q.2⟩
end Go.Proofs.Ytaaahmfkdiogkaa
