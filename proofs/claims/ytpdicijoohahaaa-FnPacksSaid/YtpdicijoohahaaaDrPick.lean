/- Draws: byte strings, picks, readers. -/
import Derived.Test.YtpdicijoohahaaaDr
import Derived.Test.YtpdicijoohahaaaRow
import Derived.WalkLawsBesides
namespace Go.Proofs.Ytpdicijoohahaaa
set_option linter.unusedVariables false
set_option linter.unusedSimpArgs false
open Go.RowKit

theorem own_only {w w' : World} {base g : Nat} {e : TypeId} {size : Nat} {v : Value} {n : Nat} {xs : List Value} (h : w.ownsRow base e size v n xs) (ho : Only g w w') (hg : g < base) : w'.ownsRow base e size v n xs :=
  h.kept (row := some g) ho (.inr (own_ne h hg).symm)
theorem Cur.grown {w w' : World} {g B : Nat} {row : Option Nat} (h : Cur w g B) (hg : w.grownBy w' row) (hr : ∀ k, row = some k → g < k) : Cur w' g B := by
  have hl := h.lt
  refine h.below (B' := g + 1) ⟨hg.os, hg.tape, hg.output, hg.size, fun i hi => hg.block i (by omega) (fun e => by have := hr i e.symm; omega)⟩ (by omega)
theorem Cur.alloc {w : World} {g B : Nat} (h : Cur w g B) (o : Obj) : Cur (w.alloc o) g B := h.below (B' := w.heap.size) ((Below.refl _ _).alloc (Nat.le_refl _) o) h.lt
theorem Cur.store {w : World} {g B : Nat} (h : Cur w g B) {p : Addr} (hp : g < p.block) (u : Value) : Cur (w.setCell p u) g B := h.below (B' := g + 1) ((Below.refl _ _).setCell hp u) (by omega)
theorem Cur.drew {w : World} {g B : Nat} (h : Cur w g B) : Cur w.drew g B := h
theorem Cur.drewN {w : World} {g B : Nat} (h : Cur w g B) (n : Nat) : Cur (w.drewN n) g B := h

theorem l1PickInt_any (g B gl n c : Nat) (zs : List Int) (w : World) (hcr : Cur w g B) (hn : 0 < n) (hn2 : n ≤ 1000) (hne : gl ≠ g) (hz : ∀ j, j < n → w.cell? ⟨gl, j, none⟩ = some (.int .i64 (zs.getD j 0))) :
    Calls Try.prog 54 #[.pointer (some ⟨g, 0, none⟩), .slice (some ⟨gl, 0, none⟩) n c] w fun e w' => ∃ j : Nat, j < n ∧ e = .returned (.int .i64 (zs.getD j 0)) ∧ Cur w' g B ∧ Only g w w' := by
  have hgll : gl < w.heap.size := by have := cell_lt (hz 0 hn); simpa using this
  go_enter Try.func54, Try.ntmps54
  go_wp2_with fail
  refine (l1Below_any g B _ _ hcr (by omega)).mono ?_
  rintro e w1 ⟨r, rfl, hr0, hr1, _, hc1, hO⟩
  obtain ⟨j, rfl⟩ : ∃ j : Nat, r = j := ⟨r.toNat, by omega⟩
  have hjn : j < n := by have := hr1 (by omega); omega
  have hcj : w1.cell? ⟨gl, j, none⟩ = some (.int .i64 (zs.getD j 0)) := by rw [(ocell hO).1 gl j hgll hne]; exact hz j hjn
  clear hz hr1
  go_wp2
  go_ret
  refine ⟨j, hjn, ?_, hc1, hO⟩
  rw [List.getD_eq_getElem?_getD]
  rfl
end Go.Proofs.Ytpdicijoohahaaa
