/- Chapter 3: frequencies, Kraft sums, costs: the model. -/
import Derived.Test.YteaohgipndmciaaInts
import Derived.Test.YteaohgipndmciaaMath
import Derived.Test.YteaohgipndmciaaPM
import Derived.RegionTactic
import Derived.ChangeAlike
import Derived.Deep.QuietTactic
import Derived.BigQuiet
namespace Go.Proofs.Yteaohgipndmciaa
set_option linter.unusedVariables false
set_option linter.unusedSimpArgs false
open Go.RowKit

/-- Are they numbers of times? -/
def fOk (zs : List Int) : Bool := decide (1 ≤ zs.length ∧ zs.length ≤ 260 ∧ ∀ k, k < zs.length → 0 ≤ zs.getD k 0 ∧ zs.getD k 0 ≤ 1000000)
theorem fOk_iff (zs : List Int) : fOk zs = true ↔ 1 ≤ zs.length ∧ zs.length ≤ 260 ∧ ∀ k, k < zs.length → 0 ≤ zs.getD k 0 ∧ zs.getD k 0 ≤ 1000000 := by simp [fOk]
theorem fOk_no {zs : List Int} (h : ¬ (1 ≤ zs.length ∧ zs.length ≤ 260 ∧ ∀ k, k < zs.length → 0 ≤ zs.getD k 0 ∧ zs.getD k 0 ≤ 1000000)) : fOk zs = false := by
  rw [Bool.eq_false_iff, Ne, fOk_iff]; exact h

/-- Lengths that a code may have. -/
def lRange (zs : List Int) : Prop := 1 ≤ zs.length ∧ zs.length ≤ 260 ∧ ∀ k, k < zs.length → 1 ≤ zs.getD k 0 ∧ zs.getD k 0 ≤ 20
instance (zs : List Int) : Decidable (lRange zs) := by unfold lRange; exact inferInstance
/-- How much of all codes the first k lengths take. -/
def kSum (zs : List Int) (k : Nat) : Nat := rsum k fun j => 2 ^ (20 - (zs.getD j 0).toNat)
theorem kSum_succ (zs : List Int) (k : Nat) : kSum zs (k + 1) = kSum zs k + 2 ^ (20 - (zs.getD k 0).toNat) := rfl
theorem kSum_le (zs : List Int) (k : Nat) : kSum zs k ≤ 1048576 * k := by
  induction k with
  | zero => exact Nat.le_refl _
  | succ k ih =>
    rw [kSum_succ]
    have : 2 ^ (20 - (zs.getD k 0).toNat) ≤ 2 ^ 20 := Nat.pow_le_pow_right (by omega) (by omega)
    omega
def kraftI (zs : List Int) : Int := if lRange zs then (kSum zs zs.length : Int) else -1
theorem kraftI_yes {zs : List Int} (h : lRange zs) : kraftI zs = (kSum zs zs.length : Int) := by unfold kraftI; rw [if_pos h]
theorem kraftI_no {zs : List Int} (h : ¬ lRange zs) : kraftI zs = -1 := by unfold kraftI; rw [if_neg h]
/-- Are there codes of such lengths? -/
def lOk (zs : List Int) : Bool := decide (0 ≤ kraftI zs ∧ kraftI zs ≤ 1048576)
theorem kraftI_range (zs : List Int) : -1 ≤ kraftI zs ∧ kraftI zs ≤ 272629760 := by
  by_cases h : lRange zs
  · rw [kraftI_yes h]
    have := kSum_le zs zs.length
    have := h.2.1
    omega
  · rw [kraftI_no h]; omega
theorem lOk_range {zs : List Int} (h : lOk zs = true) : lRange zs := by
  apply Classical.byContradiction
  intro g
  unfold lOk at h
  rw [kraftI_no g] at h
  simp at h
def cSum (fs ls : List Int) (k : Nat) : Nat := rsum k fun j => (fs.getD j 0).toNat * (ls.getD j 0).toNat
theorem cSum_succ (fs ls : List Int) (k : Nat) : cSum fs ls (k + 1) = cSum fs ls k + (fs.getD k 0).toNat * (ls.getD k 0).toNat := rfl
def costI (fs ls : List Int) : Int := if fOk fs = true ∧ lOk ls = true ∧ fs.length = ls.length then (cSum fs ls fs.length : Int) else -1
theorem costI_yes {fs ls : List Int} (h : fOk fs = true ∧ lOk ls = true ∧ fs.length = ls.length) : costI fs ls = (cSum fs ls fs.length : Int) := by unfold costI; rw [if_pos h]
theorem costI_no {fs ls : List Int} (h : ¬ (fOk fs = true ∧ lOk ls = true ∧ fs.length = ls.length)) : costI fs ls = -1 := by unfold costI; rw [if_neg h]
end Go.Proofs.Yteaohgipndmciaa
