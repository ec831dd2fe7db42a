/- Bits of byte strings, plain mathematics. No condition. -/
import Derived.Laws.BitsAllLaws
import Derived.IntWalk
import Derived.RowKit
namespace Go.Proofs.Ytembljihmnmmfaa
set_option linter.unusedVariables false
set_option linter.unusedSimpArgs false

theorem wrap_i64_n (n : Nat) (h : n < 9223372036854775808) : IntKind.i64.wrap (n : Int) = (n : Int) := IntWalk.i64_in _ (by omega)
theorem i64_or_nat (a b : Nat) (ha : a < 4611686018427387904) (hb : b < 4611686018427387904) : bits .or .i64 (a : Int) (b : Int) = ((a ||| b : Nat) : Int) := by
  show IntKind.i64.wrap ((BitVec.ofInt 64 (a : Int) ||| BitVec.ofInt 64 (b : Int)).toNat : Int) = _
  rw [BitVec.toNat_or, ofInt_u64 a (by omega), ofInt_u64 b (by omega)]
  exact wrap_i64_n _ (Nat.lt_of_lt_of_le (Nat.or_lt_two_pow (n := 62) (by omega) (by omega)) (by omega))
theorem i64_xor_nat (a b : Nat) (ha : a < 4611686018427387904) (hb : b < 4611686018427387904) : bits .xor .i64 (a : Int) (b : Int) = ((a ^^^ b : Nat) : Int) := by
  show IntKind.i64.wrap ((BitVec.ofInt 64 (a : Int) ^^^ BitVec.ofInt 64 (b : Int)).toNat : Int) = _
  rw [BitVec.toNat_xor, ofInt_u64 a (by omega), ofInt_u64 b (by omega)]
  exact wrap_i64_n _ (Nat.lt_of_lt_of_le (Nat.xor_lt_two_pow (n := 62) (by omega) (by omega)) (by omega))
theorem i64_and_nat (a b : Nat) (ha : a < 9223372036854775808) (hb : b < 9223372036854775808) : bits .and .i64 (a : Int) (b : Int) = ((a &&& b : Nat) : Int) := by
  show IntKind.i64.wrap ((BitVec.ofInt 64 (a : Int) &&& BitVec.ofInt 64 (b : Int)).toNat : Int) = _
  rw [BitVec.toNat_and, ofInt_u64 a (by omega), ofInt_u64 b (by omega)]
  exact wrap_i64_n _ (Nat.lt_of_le_of_lt Nat.and_le_left (by omega))
/-- A mask of k low bits on any int64. -/
theorem i64_mask (n : Int) (k : Nat) (hk : k < 63) : bits .and .i64 n ((2 ^ k - 1 : Nat) : Int) = n % ((2 ^ k : Nat) : Int) := by
  have hp : 2 ^ k < 2 ^ 63 := Nat.pow_lt_pow_right (by omega) hk
  have hp0 : 0 < 2 ^ k := Nat.two_pow_pos k
  have hd : (2 ^ k : Nat) ∣ 2 ^ 64 := Nat.pow_dvd_pow 2 (by omega)
  show IntKind.i64.wrap ((BitVec.ofInt 64 n &&& BitVec.ofInt 64 ((2 ^ k - 1 : Nat) : Int)).toNat : Int) = _
  rw [BitVec.toNat_and, ofInt_u64 (2 ^ k - 1) (by omega), BitVec.toNat_ofInt, Nat.and_two_pow_sub_one_eq_mod]
  have e : ((((n % ((2 ^ 64 : Nat) : Int)).toNat % 2 ^ k : Nat)) : Int) = n % ((2 ^ k : Nat) : Int) := by
    rw [Int.natCast_emod, Int.toNat_of_nonneg (Int.emod_nonneg _ (by decide))]
    exact Int.emod_emod_of_dvd _ (Int.natCast_dvd_natCast.2 hd)
  rw [wrap_i64_n _ (Nat.lt_trans (Nat.mod_lt _ hp0) (by omega)), e]

/-! ### bytes and bits -/
def byteAt (s : ByteArray) (j : Nat) : Nat := (s.data.toList.getD j 0).toNat
theorem byteAt_get (s : ByteArray) (j : Nat) (h : j < s.size) : s[j].toNat = byteAt s j := by
  unfold byteAt
  have h' : j < s.data.toList.length := by simpa using h
  rw [List.getD_eq_getElem?_getD, List.getElem?_eq_getElem h']
  rfl
theorem byteAt_lt (s : ByteArray) (j : Nat) : byteAt s j < 256 := UInt8.toNat_lt _
def bit (s : ByteArray) (k : Nat) : Nat := byteAt s (k / 8) / 2 ^ (7 - k % 8) % 2
theorem bit_lt (s : ByteArray) (k : Nat) : bit s k < 2 := Nat.mod_lt _ (by omega)

/-- n bits from the a-th on. -/
def row (s : ByteArray) (a n : Nat) : List Nat := (List.range n).map fun i => bit s (a + i)
theorem row_len (s : ByteArray) (a n : Nat) : (row s a n).length = n := by simp [row]
theorem row_zero (s : ByteArray) (a : Nat) : row s a 0 = [] := rfl
theorem row_succ (s : ByteArray) (a n : Nat) : row s a (n + 1) = row s a n ++ [bit s (a + n)] := by simp [row, List.range_succ]
theorem row_add (s : ByteArray) (a n m : Nat) : row s a (n + m) = row s a n ++ row s (a + n) m := by
  induction m with
  | zero => simp [row]
  | succ m ih => rw [← Nat.add_assoc, row_succ, ih, row_succ, List.append_assoc, Nat.add_assoc]
theorem row_bits (s : ByteArray) (a n : Nat) : ∀ b ∈ row s a n, b < 2 := by
  intro b hb
  simp only [row, List.mem_map] at hb
  obtain ⟨i, _, rfl⟩ := hb
  exact bit_lt _ _

def num (l : List Nat) : Nat := l.foldl (fun v b => 2 * v + b) 0
theorem foldl_num (l : List Nat) (v : Nat) : l.foldl (fun v b => 2 * v + b) v = v * 2 ^ l.length + num l := by
  induction l generalizing v with
  | nil => simp [num]
  | cons b l ih =>
    have e : num (b :: l) = b * 2 ^ l.length + num l := by show l.foldl _ (2 * 0 + b) = _; rw [ih]; simp
    rw [List.foldl_cons, ih, e, List.length_cons, Nat.pow_succ, Nat.add_mul]
    have : 2 * v * 2 ^ l.length = v * (2 ^ l.length * 2) := by rw [Nat.mul_comm 2 v, Nat.mul_assoc, Nat.mul_comm 2]
    omega
theorem num_append (l m : List Nat) : num (l ++ m) = num l * 2 ^ m.length + num m := by
  unfold num; rw [List.foldl_append, foldl_num]; rfl
theorem num_snoc (l : List Nat) (b : Nat) : num (l ++ [b]) = 2 * num l + b := by rw [num_append]; simp [num]; omega
theorem num_lt (l : List Nat) (h : ∀ b ∈ l, b < 2) : num l < 2 ^ l.length := by
  induction l with
  | nil => simp [num]
  | cons b l ih =>
    have e : num (b :: l) = b * 2 ^ l.length + num l := by show l.foldl _ (2 * 0 + b) = _; rw [foldl_num]; simp
    have h1 := ih fun c hc => h c (by simp [hc])
    have h2 := h b (by simp)
    have h3 : b * 2 ^ l.length ≤ 1 * 2 ^ l.length := Nat.mul_le_mul_right _ (by omega)
    rw [e, List.length_cons, Nat.pow_succ]
    omega
theorem num_row_lt (s : ByteArray) (a n : Nat) : num (row s a n) < 2 ^ n := by
  have := num_lt (row s a n) (row_bits s a n)
  rwa [row_len] at this
theorem num_row_succ (s : ByteArray) (a n : Nat) : num (row s a (n + 1)) = 2 * num (row s a n) + bit s (a + n) := by rw [row_succ, num_snoc]

/-- k bits of one byte are a part of it. -/
theorem num_in_byte (s : ByteArray) (a k : Nat) (h : a % 8 + k ≤ 8) : num (row s a k) = byteAt s (a / 8) / 2 ^ (8 - a % 8 - k) % 2 ^ k := by
  induction k with
  | zero => simp [row, num, Nat.mod_one]
  | succ k ih =>
    have h1 : (a + k) / 8 = a / 8 := by omega
    have h2 : 7 - (a + k) % 8 = 8 - a % 8 - (k + 1) := by omega
    have h3 : 8 - a % 8 - k = 8 - a % 8 - (k + 1) + 1 := by omega
    rw [num_row_succ, ih (by omega), bit, h1, h2, h3, Nat.pow_succ 2 k, Nat.mul_comm (2 ^ k) 2, Nat.mod_mul, Nat.pow_succ, ← Nat.div_div_eq_div_mul]
    omega

theorem wrap64_n (n : Nat) (h : n < 9223372036854775808) : RowKit.wrap64 (n : Int) = (n : Int) := IntWalk.wrap64_in _ (by omega)
/-- v << k | y, y below 2^k, all within 32 bits. -/
theorem shl_or (v k y : Nat) (hv : v < 2 ^ 32) (hk : k ≤ 8) (hy : y < 2 ^ k) : bits .or .i64 (RowKit.wrap64 ((v : Int) * 2 ^ k)) (y : Int) = ((v * 2 ^ k + y : Nat) : Int) := by
  have h8 : 2 ^ k ≤ 2 ^ 8 := Nat.pow_le_pow_right (by omega) hk
  have h1 : v * 2 ^ k ≤ 2 ^ 32 * 2 ^ 8 := Nat.mul_le_mul (by omega) h8
  have e : ((v : Int) * 2 ^ k) = ((v * 2 ^ k : Nat) : Int) := by simp
  rw [e, wrap64_n _ (by omega), i64_or_nat _ _ (by omega) (by omega), nat_join k _ _ (Nat.mul_mod_left _ _) hy]
theorem mask_nat (x k : Nat) (hk : k ≤ 8) (hx : x < 4611686018427387904) : bits .and .i64 (x : Int) (RowKit.wrap64 (RowKit.wrap64 (2 ^ k) - 1)) = ((x % 2 ^ k : Nat) : Int) := by
  have h8 : 2 ^ k ≤ 2 ^ 8 := Nat.pow_le_pow_right (by omega) hk
  have h0 : 0 < 2 ^ k := Nat.two_pow_pos k
  have e : ((2 : Int) ^ k) = ((2 ^ k : Nat) : Int) := by simp
  rw [e, wrap64_n _ (by omega), show (((2 ^ k : Nat) : Int) - 1) = ((2 ^ k - 1 : Nat) : Int) by omega, wrap64_n _ (by omega), i64_and_nat _ _ (by omega) (by omega), Nat.and_two_pow_sub_one_eq_mod]
/-- One step of reading: k bits of one byte behind the i that are read already. -/
theorem read_step (s : ByteArray) (at0 i p k : Nat) (h2 : p = at0 + i) (hi : i ≤ 32) (hk : k ≤ 8 - p % 8) (hp : p / 8 < s.size) :
    bits .or .i64 (RowKit.wrap64 ((num (row s at0 i) : Int) * 2 ^ k)) (bits .and .i64 (RowKit.wrap64 (s[p / 8].toNat : Int) / 2 ^ (8 - p % 8 - k)) (RowKit.wrap64 (RowKit.wrap64 (2 ^ k) - 1))) = ((num (row s at0 (i + k)) : Nat) : Int) := by
  have hb : s[p / 8].toNat < 256 := UInt8.toNat_lt _
  have e1 : RowKit.wrap64 (s[p / 8].toNat : Int) / 2 ^ (8 - p % 8 - k) = ((s[p / 8].toNat / 2 ^ (8 - p % 8 - k) : Nat) : Int) := by
    rw [wrap64_n _ (by omega)]; simp
  have hd : s[p / 8].toNat / 2 ^ (8 - p % 8 - k) ≤ s[p / 8].toNat := Nat.div_le_self _ _
  have hv : num (row s at0 i) < 2 ^ 32 := Nat.lt_of_lt_of_le (num_row_lt s at0 i) (Nat.pow_le_pow_right (by omega) hi)
  rw [e1, mask_nat _ _ (by omega) (by omega), shl_or _ _ _ hv (by omega) (Nat.mod_lt _ (Nat.two_pow_pos k)), byteAt_get, ← num_in_byte s p k (by omega), row_add, num_append, row_len, h2]
theorem read_step_all (s : ByteArray) (at0 i p : Nat) (h2 : p = at0 + i) (hi : i ≤ 32) (hp : p / 8 < s.size) :
    bits .or .i64 (RowKit.wrap64 ((num (row s at0 i) : Int) * 2 ^ (8 - p % 8))) (bits .and .i64 (RowKit.wrap64 (s[p / 8].toNat : Int)) (RowKit.wrap64 (RowKit.wrap64 (2 ^ (8 - p % 8)) - 1))) = ((num (row s at0 (i + (8 - p % 8))) : Nat) : Int) := by
  have h := read_step s at0 i p (8 - p % 8) h2 hi (Nat.le_refl _) hp
  rw [Nat.sub_self, Int.pow_zero, Int.ediv_one] at h
  exact h

/-! ### a valid row of bits -/
/-- b is valid: n within its range, the bytes as many as n bits need, the bits behind them 0. -/
def okB (s : ByteArray) (n : Int) : Bool := decide (0 ≤ n ∧ n ≤ 400000 ∧ s.size = (n.toNat + 7) / 8 ∧ ∀ k, k < 8 * s.size → n.toNat ≤ k → bit s k = 0)
theorem okB_iff (s : ByteArray) (n : Int) : okB s n = true ↔ 0 ≤ n ∧ n ≤ 400000 ∧ s.size = (n.toNat + 7) / 8 ∧ ∀ k, k < 8 * s.size → n.toNat ≤ k → bit s k = 0 := by simp [okB]
theorem okB_nat (s : ByteArray) (n : Nat) : okB s n = true ↔ n ≤ 400000 ∧ s.size = (n + 7) / 8 ∧ ∀ k, k < 8 * s.size → n ≤ k → bit s k = 0 := by
  rw [okB_iff]; simp; omega
theorem tail_small : ∀ m : Fin 8, ∀ x : Fin 256, 0 < m.val → ((x.val * 2 ^ m.val % 256 = 0) ↔ ∀ r : Fin 8, m.val ≤ r.val → x.val / 2 ^ (7 - r.val) % 2 = 0) := by decide +kernel
theorem tail_byte (s : ByteArray) (n : Nat) (hs : s.size = (n + 7) / 8) (hm : n % 8 ≠ 0) : (byteAt s (s.size - 1) * 2 ^ (n % 8) % 256 = 0) ↔ ∀ k, k < 8 * s.size → n ≤ k → bit s k = 0 := by
  have h := tail_small ⟨n % 8, by omega⟩ ⟨byteAt s (s.size - 1), byteAt_lt _ _⟩ (by simp; omega)
  simp only at h
  rw [h]
  constructor
  · intro g k hk hn
    have e : k / 8 = s.size - 1 := by omega
    have := g ⟨k % 8, by omega⟩ (by simp; omega)
    simp only at this
    rw [bit, e]; exact this
  · intro g r hr
    have := g (8 * (s.size - 1) + r.val) (by omega) (by omega)
    rw [bit] at this
    rwa [show (8 * (s.size - 1) + r.val) / 8 = s.size - 1 by omega, show (8 * (s.size - 1) + r.val) % 8 = r.val by omega] at this
end Go.Proofs.Ytembljihmnmmfaa
