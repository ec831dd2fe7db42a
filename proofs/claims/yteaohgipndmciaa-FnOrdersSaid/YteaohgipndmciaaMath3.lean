/- Several bits at once into bytes, plain mathematics. No condition. -/
import Derived.Test.YteaohgipndmciaaMath2
namespace Go.Proofs.Yteaohgipndmciaa
set_option linter.unusedVariables false
set_option linter.unusedSimpArgs false

structure PK (m : Nat) (D l : List Nat) : Prop where
  len : D.length = m
  small : ∀ j, D.getD j 0 < 256
  bits : ∀ j, j < 8 * m → bitL D j = l.getD j 0
theorem Packs.pk {D l : List Nat} (h : Packs D l) : PK D.length D l := ⟨rfl, h.small, h.bits⟩
theorem PK.packs {m : Nat} {D l : List Nat} (h : PK m D l) (hm : m = (l.length + 7) / 8) : Packs D l := ⟨h.len.trans hm, h.small, fun j hj => h.bits j (by rw [← h.len]; exact hj)⟩
theorem PK.zero {m : Nat} {D l : List Nat} (h : PK m D l) (hl : l.length ≤ 8 * m) : PK (m + 1) (D ++ [0]) l := by
  have hlen := h.len
  refine ⟨by simp [hlen], fun j => ?_, fun j hj => ?_⟩
  · rcases Nat.lt_or_ge j D.length with g | g
    · rw [getD_app_l _ _ _ g]; exact h.small j
    · rw [getD_app_r _ _ _ g]
      rcases Nat.eq_zero_or_pos (j - D.length) with e | e
      · rw [e]; simp
      · simp [List.getD_eq_getElem?_getD, show ¬ (j - D.length < 1) by omega]
  · unfold bitL
    rcases Nat.lt_or_ge (j / 8) D.length with g | g
    · rw [getD_app_l _ _ _ g]; exact h.bits j (by omega)
    · rw [getD_app_r _ _ _ g, show j / 8 - D.length = 0 by omega]
      simp [List.getD_eq_getElem?_getD, show l.length ≤ j by omega]
theorem getD_set_self (D : List Nat) (i x : Nat) (h : i < D.length) : (D.set i x).getD i 0 = x := by simp [List.getD_eq_getElem?_getD, h]
theorem or_split (p e : Nat) : p * 2 ^ e = (p / 2) * 2 ^ (e + 1) ||| (p % 2) * 2 ^ e := by
  have h : p / 2 * 2 ^ (e + 1) = (p / 2 * 2) * 2 ^ e := by rw [Nat.pow_succ, Nat.mul_assoc, Nat.mul_comm 2]
  have hlt : p % 2 * 2 ^ e < 2 ^ (e + 1) := by
    have : p % 2 * 2 ^ e ≤ 1 * 2 ^ e := Nat.mul_le_mul_right _ (by omega)
    have := Nat.two_pow_pos e
    rw [Nat.pow_succ]; omega
  rw [nat_join (e + 1) _ _ (Nat.mul_mod_left _ _) hlt, h, ← Nat.add_mul]
  congr 1; omega
/-- k more bits within the last byte. -/
theorem PK.or_k {m : Nat} {D l : List Nat} (h : PK m D l) (k : Nat) : ∀ p, l.length / 8 + 1 = m → l.length % 8 + k ≤ 8 →
    PK m (D.set (m - 1) (D.getD (m - 1) 0 ||| p % 2 ^ k * 2 ^ (8 - l.length % 8 - k))) (l ++ nbits (p % 2 ^ k) k) := by
  induction k with
  | zero =>
    intro p hm hk
    have e : D.set (m - 1) (D.getD (m - 1) 0 ||| p % 2 ^ 0 * 2 ^ (8 - l.length % 8 - 0)) = D := by
      rw [Nat.pow_zero, Nat.mod_one, Nat.zero_mul, Nat.or_zero]
      apply List.ext_getElem (by simp)
      intro j h1 h2
      rw [List.getElem_set]
      by_cases hj : m - 1 = j
      · rw [if_pos hj]; subst hj; simp [List.getD_eq_getElem?_getD, h2]
      · rw [if_neg hj]
    rw [e]
    simpa [nbits] using h
  | succ k ih =>
    intro p hm hk
    have hlen := h.len
    have g := ih (p / 2) hm (by omega)
    have e1 : nbits (p % 2 ^ (k + 1)) (k + 1) = nbits (p / 2 % 2 ^ k) k ++ [p % 2] := by
      rw [nbits_add (p % 2 ^ (k + 1)) k 1, show p % 2 ^ (k + 1) / 2 ^ 1 = p / 2 % 2 ^ k by rw [Nat.pow_succ, Nat.mul_comm, Nat.pow_one, Nat.mod_mul_right_div_self]]
      simp [nbits, Nat.pow_succ, Nat.mul_comm _ 2, Nat.mod_mul_right_mod]
    have hl2 : (l ++ nbits (p / 2 % 2 ^ k) k).length = l.length + k := by rw [List.length_append, nbits_len]
    have q := packs_or (p % 2) (by omega) g.len g.small (by rw [hl2]; omega) g.bits
    rw [hl2, show (l.length + k) / 8 = m - 1 by omega, show 7 - (l.length + k) % 8 = 8 - l.length % 8 - (k + 1) by omega, getD_set_self _ _ _ (by omega), List.set_set, Nat.or_assoc,
      show 8 - l.length % 8 - k = 8 - l.length % 8 - (k + 1) + 1 by omega] at q
    have e2 : p / 2 % 2 ^ k * 2 ^ (8 - l.length % 8 - (k + 1) + 1) ||| p % 2 * 2 ^ (8 - l.length % 8 - (k + 1)) = p % 2 ^ (k + 1) * 2 ^ (8 - l.length % 8 - (k + 1)) := by
      rw [or_split (p % 2 ^ (k + 1)), show p % 2 ^ (k + 1) / 2 = p / 2 % 2 ^ k by rw [Nat.pow_succ, Nat.mul_comm, Nat.mod_mul_right_div_self],
        show p % 2 ^ (k + 1) % 2 = p % 2 by rw [Nat.pow_succ, Nat.mul_comm, Nat.mod_mul_right_mod]]
    rw [e2, List.append_assoc, ← e1] at q
    exact ⟨by simp [hlen], q.1, q.2⟩
end Go.Proofs.Yteaohgipndmciaa
