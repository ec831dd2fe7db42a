/- Merged: CrcMath. -/
import Derived.Test.YteaohgipndmciaaMath
namespace Go.Proofs.Yteaohgipndmciaa
set_option linter.unusedVariables false
set_option linter.unusedSimpArgs false

/-- A word moved up by a bit. -/
def up (w : Nat) : Nat := if w / 2147483648 = 1 then (2 * w % 4294967296) ^^^ 79764919 else 2 * w % 4294967296
theorem up_lt (w : Nat) : up w < 4294967296 := by
  unfold up
  split
  · exact Nat.xor_lt_two_pow (n := 32) (by omega) (by omega)
  · omega
theorem up_bit (w i : Nat) (h : w < 4294967296) : (up w).testBit i = (((decide (i < 32) && decide (1 ≤ i)) && w.testBit (i - 1)) ^^ (w.testBit 31 && Nat.testBit 79764919 i)) := by
  have h31 : w.testBit 31 = decide (w / 2147483648 = 1) := by
    rw [Nat.testBit_eq_decide_div_mod_eq]
    congr 1
    show (w / 2147483648 % 2 = 1) = (w / 2147483648 = 1)
    apply propext; omega
  have hm : (2 * w % 4294967296).testBit i = ((decide (i < 32) && decide (1 ≤ i)) && w.testBit (i - 1)) := by
    rw [show (4294967296 : Nat) = 2 ^ 32 from rfl, Nat.testBit_mod_two_pow, show 2 * w = w <<< 1 by rw [Nat.shiftLeft_eq]; omega, Nat.testBit_shiftLeft]
    simp only [ge_iff_le, Bool.and_assoc]
  unfold up
  rw [h31]
  by_cases hc : w / 2147483648 = 1
  · rw [if_pos hc, Nat.testBit_xor, hm]; simp [hc]
  · rw [if_neg hc, hm]; simp [hc]
theorem xor_lt32 {x y : Nat} (hx : x < 4294967296) (hy : y < 4294967296) : x ^^^ y < 4294967296 := Nat.xor_lt_two_pow (n := 32) hx hy
theorem up_xor (x y : Nat) (hx : x < 4294967296) (hy : y < 4294967296) : up (x ^^^ y) = up x ^^^ up y := by
  apply Nat.eq_of_testBit_eq
  intro i
  rw [Nat.testBit_xor, up_bit _ _ (xor_lt32 hx hy), up_bit _ _ hx, up_bit _ _ hy, Nat.testBit_xor, Nat.testBit_xor]
  generalize (decide (i < 32) && decide (1 ≤ i)) = a
  generalize Nat.testBit 79764919 i = p
  generalize x.testBit (i - 1) = x1
  generalize y.testBit (i - 1) = y1
  generalize x.testBit 31 = x2
  generalize y.testBit 31 = y2
  cases a <;> cases p <;> cases x1 <;> cases y1 <;> cases x2 <;> cases y2 <;> rfl
theorem up_zero (z : Nat) (hz : z < 4294967296) (h : up z = 0) : z = 0 := by
  have hb : ∀ i, (up z).testBit i = false := fun i => by rw [h]; simp
  have h31 : z.testBit 31 = false := by
    have := hb 0
    rw [up_bit _ _ hz] at this
    simpa using this
  apply Nat.eq_of_testBit_eq
  intro i
  rw [Nat.zero_testBit]
  by_cases hi : i < 31
  · have := hb (i + 1)
    rw [up_bit _ _ hz, h31] at this
    simpa [show i + 1 < 32 by omega] using this
  · by_cases e : i = 31
    · rw [e]; exact h31
    · exact Nat.testBit_lt_two_pow (Nat.lt_of_lt_of_le hz (Nat.pow_le_pow_right (n := 2) (by omega) (show 32 ≤ i by omega)))
def upW : Nat → Nat → Nat
  | 0, w => w
  | k + 1, w => up (upW k w)
theorem upW_lt (k w : Nat) (h : w < 4294967296) : upW k w < 4294967296 := by
  cases k with
  | zero => exact h
  | succ k => exact up_lt _
theorem upW_xor (k x y : Nat) (hx : x < 4294967296) (hy : y < 4294967296) : upW k (x ^^^ y) = upW k x ^^^ upW k y := by
  induction k with
  | zero => rfl
  | succ k ih => show up (upW k _) = _; rw [ih, up_xor _ _ (upW_lt k x hx) (upW_lt k y hy)]; rfl
theorem upW_zero (k z : Nat) (hz : z < 4294967296) (h : upW k z = 0) : z = 0 := by
  induction k with
  | zero => exact h
  | succ k ih => exact ih (up_zero _ (upW_lt k z hz) h)
theorem upW_low (k z : Nat) (hk : k ≤ 8) (hz : z < 16777216) : upW k z = z * 2 ^ k := by
  induction k with
  | zero => simp [upW]
  | succ k ih =>
    have h8 : 2 ^ k ≤ 2 ^ 7 := Nat.pow_le_pow_right (by omega) (by omega)
    have h1 : z * 2 ^ k < 16777216 * 2 ^ 7 := Nat.lt_of_le_of_lt (Nat.mul_le_mul_left z h8) (by omega)
    show up (upW k z) = _
    rw [ih (by omega)]
    unfold up
    rw [show z * 2 ^ (k + 1) = z * 2 ^ k * 2 by rw [Nat.pow_succ, Nat.mul_assoc]]
    generalize z * 2 ^ k = q at h1 ⊢
    rw [if_neg (by omega)]
    omega
/-- What a byte brings. -/
def entry (b : Nat) : Nat := upW 8 (b * 16777216)
theorem entry_lt (b : Nat) (h : b < 256) : entry b < 4294967296 := upW_lt _ _ (by omega)
/-- One byte more. -/
def step (w b : Nat) : Nat := upW 8 (w ^^^ b * 16777216)
theorem step_lt (w b : Nat) (hw : w < 4294967296) (hb : b < 256) : step w b < 4294967296 := upW_lt _ _ (xor_lt32 hw (by omega))
theorem split_word (w b : Nat) (hw : w < 4294967296) (hb : b < 256) : w ^^^ b * 16777216 = ((w / 16777216 ^^^ b) * 16777216) ^^^ (w % 16777216) := by
  apply Nat.eq_of_testBit_eq
  intro i
  rw [show (16777216 : Nat) = 2 ^ 24 from rfl]
  simp only [Nat.testBit_xor, Nat.testBit_mul_two_pow, Nat.testBit_mod_two_pow, Nat.testBit_div_two_pow]
  by_cases h : 24 ≤ i
  · simp [h, show ¬ i < 24 by omega]
  · simp [h, show i < 24 by omega]
/-- A step by the table is a step by bits. -/
theorem step_table (w b : Nat) (hw : w < 4294967296) (hb : b < 256) : step w b = (w * 256 % 4294967296) ^^^ entry (w / 16777216 ^^^ b) := by
  have hx : w / 16777216 ^^^ b < 256 := Nat.xor_lt_two_pow (n := 8) (by omega) hb
  unfold step
  rw [split_word w b hw hb, upW_xor _ _ _ (by omega) (by omega), upW_low 8 (w % 16777216) (by omega) (by omega), Nat.xor_comm]
  congr 1
  show w % 16777216 * 256 = _
  omega
theorem xor_self_zero {a b : Nat} (h : a ^^^ b = 0) : a = b := by
  have : a ^^^ b ^^^ b = b := by rw [h, Nat.zero_xor]
  rwa [Nat.xor_assoc, Nat.xor_self, Nat.xor_zero] at this
theorem step_inj (w w' b b' : Nat) (hw : w < 4294967296) (hw' : w' < 4294967296) (hb : b < 256) (hb' : b' < 256) (h : step w b = step w' b') : w ^^^ b * 16777216 = w' ^^^ b' * 16777216 := by
  have h1 : upW 8 ((w ^^^ b * 16777216) ^^^ (w' ^^^ b' * 16777216)) = 0 := by
    rw [upW_xor _ _ _ (xor_lt32 hw (by omega)) (xor_lt32 hw' (by omega))]
    unfold step at h
    rw [h, Nat.xor_self]
  exact xor_self_zero (upW_zero 8 _ (xor_lt32 (xor_lt32 hw (by omega)) (xor_lt32 hw' (by omega))) h1)
theorem xor_cancel_l {a b c : Nat} (h : a ^^^ b = a ^^^ c) : b = c := by
  have : a ^^^ (a ^^^ b) = a ^^^ (a ^^^ c) := by rw [h]
  rwa [← Nat.xor_assoc, ← Nat.xor_assoc, Nat.xor_self, Nat.zero_xor, Nat.zero_xor] at this
theorem xor_cancel_r {a b c : Nat} (h : b ^^^ a = c ^^^ a) : b = c := by
  rw [Nat.xor_comm b, Nat.xor_comm c] at h; exact xor_cancel_l h
theorem step_inj_w (w w' b : Nat) (hw : w < 4294967296) (hw' : w' < 4294967296) (hb : b < 256) (h : step w b = step w' b) : w = w' := xor_cancel_r (step_inj w w' b b hw hw' hb hb h)
theorem step_inj_b (w b b' : Nat) (hw : w < 4294967296) (hb : b < 256) (hb' : b' < 256) (h : step w b = step w b') : b = b' := by
  have := xor_cancel_l (step_inj w w b b' hw hw hb hb' h)
  omega
/-- The bytes taken in, one after the other. -/
def crcL (w : Nat) (l : List Nat) : Nat := l.foldl step w
theorem crcL_lt (w : Nat) (l : List Nat) (hw : w < 4294967296) (hl : ∀ b ∈ l, b < 256) : crcL w l < 4294967296 := by
  induction l generalizing w with
  | nil => exact hw
  | cons b l ih => exact ih _ (step_lt w b hw (hl b (by simp))) fun c hc => hl c (by simp [hc])
theorem crcL_append (w : Nat) (l m : List Nat) : crcL w (l ++ m) = crcL (crcL w l) m := by unfold crcL; rw [List.foldl_append]
theorem crcL_snoc (w : Nat) (l : List Nat) (b : Nat) : crcL w (l ++ [b]) = step (crcL w l) b := by rw [crcL_append]; rfl
theorem crcL_inj (w w' : Nat) (l : List Nat) (hw : w < 4294967296) (hw' : w' < 4294967296) (hl : ∀ b ∈ l, b < 256) (h : crcL w l = crcL w' l) : w = w' := by
  induction l generalizing w w' with
  | nil => exact h
  | cons b l ih => exact step_inj_w w w' b hw hw' (hl b (by simp)) (ih _ _ (step_lt w b hw (hl b (by simp))) (step_lt w' b hw' (hl b (by simp))) (fun c hc => hl c (by simp [hc])) h)
/-- One byte turned: another sum. -/
theorem crcL_turned (w : Nat) (l m : List Nat) (x y : Nat) (hw : w < 4294967296) (hl : ∀ b ∈ l, b < 256) (hm : ∀ b ∈ m, b < 256) (hx : x < 256) (hy : y < 256) (hxy : x ≠ y) : crcL w (l ++ x :: m) ≠ crcL w (l ++ y :: m) := by
  intro h
  rw [crcL_append, crcL_append] at h
  have hc := crcL_lt w l hw hl
  exact hxy (step_inj_b _ _ _ hc hx hy (crcL_inj _ _ m (step_lt _ _ hc hx) (step_lt _ _ hc hy) hm h))
theorem mask_inj {a b : Nat} (h : a ^^^ 4294967295 = b ^^^ 4294967295) : a = b := xor_cancel_r h
end Go.Proofs.Yteaohgipndmciaa
