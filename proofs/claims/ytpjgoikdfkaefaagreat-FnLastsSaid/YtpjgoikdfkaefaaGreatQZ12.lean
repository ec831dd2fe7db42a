/- Merged: C1Close, C1Open, C1SPut, C6, C1W. -/
import Derived.Test.YtpjgoikdfkaefaaGreatQZ3
import Derived.Test.YtpjgoikdfkaefaaGreatQZ1
import Derived.Test.YtpjgoikdfkaefaaGreatQZ5
import Derived.Test.YtpjgoikdfkaefaaGreatQZ8
import Derived.RegionTactic
import Derived.ChangeAlike
import Derived.Deep.QuietTactic
import Derived.BigQuiet
import Derived.Maps.AppendAt
import Derived.BigRegion
namespace Go.Proofs.YtpjgoikdfkaefaaGreat
set_option linter.unusedVariables false
set_option linter.unusedSimpArgs false
open Go.RowKit

/-- The first k bits of v (n bits), then zeros. -/
def half (v n k : Nat) : List Nat := nbits (v / 2 ^ (n - k)) k ++ List.replicate (n - k) 0
theorem half_len (v n k : Nat) (h : k ≤ n) : (half v n k).length = n := by simp [half, nbits_len]; omega
theorem half_zero (v n : Nat) : half v n 0 = List.replicate n 0 := by simp [half, nbits]
theorem half_all (v n : Nat) : half v n n = nbits v n := by simp [half]
theorem half_set (v n k : Nat) (h : k < n) : (half v n k).set k (v / 2 ^ (n - 1 - k) % 2) = half v n (k + 1) := by
  have e : nbits (v / 2 ^ (n - (k + 1))) (k + 1) = nbits (v / 2 ^ (n - k)) k ++ [v / 2 ^ (n - 1 - k) % 2] := by
    rw [nbits_add, Nat.div_div_eq_div_mul, ← Nat.pow_add, show n - (k + 1) + 1 = n - k by omega, show n - (k + 1) = n - 1 - k by omega]
    simp [nbits]
  unfold half
  rw [e, show n - k = (n - (k + 1)) + 1 by omega, List.replicate_succ, List.set_append_right _ _ (by rw [nbits_len]; exact Nat.le_refl _), nbits_len]
  simp
theorem made_u8s (n : Nat) : (madeCells #[Value.int .u8 0] n).toList = u8s (List.replicate n 0) := by
  rw [toList_madeCells_one]; simp [u8s]

theorem packs_nil : Packs [] [] := ⟨rfl, fun j => by simp, fun j hj => by simp at hj⟩
end Go.Proofs.YtpjgoikdfkaefaaGreat
namespace Go.Proofs.YtpjgoikdfkaefaaGreat
set_option linter.unusedVariables false
set_option linter.unusedSimpArgs false
open Go.RowKit

end Go.Proofs.YtpjgoikdfkaefaaGreat
namespace Go.Proofs.YtpjgoikdfkaefaaGreat
set_option linter.unusedVariables false
set_option linter.unusedSimpArgs false
open Go.RowKit

end Go.Proofs.YtpjgoikdfkaefaaGreat
namespace Go.Proofs.YtpjgoikdfkaefaaGreat
set_option linter.unusedVariables false
set_option linter.unusedSimpArgs false
open Go.RowKit

/-- How many bits a number has; -1 where it is none. -/
def gamOk (n : Int) : Bool := decide (1 ≤ n ∧ n ≤ 1048575)
theorem gamOk_iff (n : Int) : gamOk n = true ↔ 1 ≤ n ∧ n ≤ 1048575 := by simp [gamOk]
def gamB (n : Int) : Int := if gamOk n = true then ((gamL n.toNat).length : Int) else -1
end Go.Proofs.YtpjgoikdfkaefaaGreat
namespace Go.Proofs.YtpjgoikdfkaefaaGreat
set_option linter.unusedVariables false
set_option linter.unusedSimpArgs false
open Go.RowKit

/-- Every block but g, and but the rows of bytes, stays. -/
def Keeps (g : Nat) (a w : World) : Prop := ∀ b o, b ≠ g → (∀ cs fr, o ≠ Obj.cells cs 5 fr) → a.heap[b]? = some o → w.heap[b]? = some o
theorem Keeps.has {g : Nat} {a w : World} (h : Keeps g a w) {b : Nat} {T : TypeId} {cs : Array Value} (h1 : b ≠ g) (h2 : T ≠ 5) (h3 : Has a b T cs) : Has w b T cs :=
  h b _ h1 (fun cs fr e => by injection e with _ e2; exact h2 e2) h3
theorem heap_lt7 {w : World} {b : Nat} {o : Obj} (h : w.heap[b]? = some o) : b < w.heap.size := (Array.getElem?_eq_some_iff.1 h).1
theorem Keeps.refl (g : Nat) (w : World) : Keeps g w w := fun _ _ _ _ h => h
theorem Keeps.trans {g : Nat} {a b c : World} (h : Keeps g a b) (k : Keeps g b c) : Keeps g a c := fun b' o h1 h2 h3 => k b' o h1 h2 (h b' o h1 h2 h3)
theorem Keeps.alloc {g : Nat} {a w : World} (h : Keeps g a w) (o : Obj) : Keeps g a (w.alloc o) := fun b o2 h1 h2 h3 => (Below.heap_alloc w o b (heap_lt7 (h b o2 h1 h2 h3))).trans (h b o2 h1 h2 h3)
theorem Keeps.drewN {g : Nat} {a w : World} (h : Keeps g a w) (n : Nat) : Keeps g a (w.drewN n) := fun b o h1 h2 h3 => h b o h1 h2 h3
theorem Keeps.store {g : Nat} {a w : World} (h : Keeps g a w) (j : Nat) (u : Value) : Keeps g a (w.setCell ⟨g, j, none⟩ u) := fun b o h1 h2 h3 => (Below.heap_setCell w ⟨g, j, none⟩ u b h1).trans (h b o h1 h2 h3)
theorem Row.notOther {w : World} {base n : Nat} {v : Value} {xs : List Value} (hR : Row w base 5 v n xs) {b : Nat} {o : Obj} (ho : ∀ cs fr, o ≠ Obj.cells cs 5 fr) (hb : w.heap[b]? = some o) : v.ownBlock ≠ some b := by
  obtain ⟨g, cap, cur, fr, rfl, _, hh, _⟩ := hR
  intro e
  simp only [Value.ownBlock, Option.some.injEq] at e
  subst e
  rw [hh] at hb
  injection hb with hb
  exact ho _ _ hb.symm
theorem Keeps.storeRow {g gd n cp base : Nat} {xs : List Value} {a w : World} (h : Keeps g a w) (hR : Row w base 5 (.slice (some ⟨gd, 0, none⟩) n cp) n xs) (j : Nat) (u : Value) : Keeps g a (w.setCell ⟨gd, j, none⟩ u) :=
  fun b o h1 h2 h3 => (Below.heap_setCell w ⟨gd, j, none⟩ u b (fun e => hR.notOther h2 (h b o h1 h2 h3) (by rw [e]; rfl))).trans (h b o h1 h2 h3)
theorem Keeps.grown {g n base : Nat} {v : Value} {xs : List Value} {a w w' : World} (h : Keeps g a w) (hR : Row w base 5 v n xs) (hg : w.grownBy w' v.ownBlock) : Keeps g a w' :=
  fun b o h1 h2 h3 => (hg.block b (heap_lt7 (h b o h1 h2 h3)) (fun e => hR.notOther h2 (h b o h1 h2 h3) e.symm)).trans (h b o h1 h2 h3)
end Go.Proofs.YtpjgoikdfkaefaaGreat
