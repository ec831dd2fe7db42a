/- Chapter 1: the program's bit writer. -/
import Derived.Test.YteaohgipndmciaaC1Ok
import Derived.Test.YteaohgipndmciaaC1One
import Derived.RegionTactic
import Derived.ChangeAlike
import Derived.Deep.QuietTactic
import Derived.BigQuiet
import Derived.BigRegion
import Derived.Test.YteaohgipndmciaaMath3
import Derived.Test.YteaohgipndmciaaRow
namespace Go.Proofs.Yteaohgipndmciaa
set_option linter.unusedVariables false
set_option linter.unusedSimpArgs false
open Go.RowKit

/-- Block g is a writer of the bits l; its bytes lie in a row of the call's own, from block base on. -/
def Writes (w : World) (base g : Nat) (l : List Nat) : Prop :=
  ∃ (v : Value) (D : List Nat), Has w g 103 #[v, .int .i64 (l.length : Int)] ∧ Row w base 5 v D.length (u8s D) ∧ Packs D l ∧ some g ≠ v.ownBlock

theorem writerOf_any (s : ByteArray) (n : Nat) (w : World) (hok : okB s n = true) :
    Calls Try.prog 58 #[.agg #[.string s, .int .i64 n]] w fun e w' => ∃ g, e = .returned (.pointer (some ⟨g, 0, none⟩)) ∧ Writes w' w.heap.size g (row s 0 n) ∧ w.heap.size ≤ g ∧ Below w.heap.size w w' := by
  have hroom := okB_room hok
  have hcv := fun W : World => run_bytes_of_string (P := Try.prog) W 9 22 5 s Try.underlying9 Try.underlying22 Try.underlying5
  go_enter Try.func58, Try.ntmps58
  go_wp2
  go_ret
  have hrow := Row.ofString (w.alloc (.cells #[.string s, .int .i64 n] 25)) 5 s (by unfold maxLen; omega)
  have hpk := bitsOk_packs hok
  refine ⟨w.heap.size + 1 + 1, rfl, ⟨.slice (some ⟨w.heap.size + 1, 0, none⟩) s.size (grownCap (w.alloc (.cells #[.string s, .int .i64 n] 25)) s.size 0 5), bytesOf s, ?_, ?_, hpk, ?_⟩, by omega, ?_⟩
  · rw [row_len]
    exact Has.drew (Has.freshAt (by simp) _ _)
  · rw [bytesOf_len]
    have := ((hrow.alloc (.cells #[.slice (some ⟨w.heap.size + 1, 0, none⟩) s.size (grownCap (w.alloc (.cells #[.string s, .int .i64 n] 25)) s.size 0 5), .int .i64 n] 103)).mono (show w.heap.size ≤ _ by simp)).drew
    simpa using this
  · simp [Value.ownBlock]
  · repeat (first | exact Below.refl _ _ | assumption | refine Below.alloc ?_ (by (try simp); (try omega)) _ | refine Below.setCell ?_ (by (try simp); (try omega)) _ | refine Below.drew ?_ | refine bel_then (by assumption) (by (try simp); (try omega)) ?_ | refine only_then (by assumption) (by (try simp); (try omega)) (by (try simp); (try omega)) ?_ | refine bel_thenB (by assumption) (by (try simp); (try omega)) ?_)

theorem Writes.lt {w : World} {base g : Nat} {l : List Nat} (h : Writes w base g l) : g < w.heap.size := by
  obtain ⟨v, D, hB, _⟩ := h; exact hB.lt
theorem Writes.below {w w' : World} {base g : Nat} {l : List Nat} (h : Writes w base g l) (hb : Below w.heap.size w w') : Writes w' base g l := by
  obtain ⟨v, D, hB, hR, hP, hne⟩ := h
  exact ⟨v, D, hB.below hb hB.lt, hR.belowAll hb, hP, hne⟩
theorem Writes.alloc {w : World} {base g : Nat} {l : List Nat} (h : Writes w base g l) (o : Obj) : Writes (w.alloc o) base g l := by
  obtain ⟨v, D, hB, hR, hP, hne⟩ := h
  exact ⟨v, D, hB.alloc o, hR.alloc o, hP, hne⟩

theorem bits_any (g base : Nat) (l : List Nat) (w : World) (h : Writes w base g l) :
    Calls Try.prog 60 #[.pointer (some ⟨g, 0, none⟩)] w fun e w' => ∃ D, Packs D l ∧ e = .returned (.agg #[.string (strOf D), .int .i64 l.length]) ∧ Below w.heap.size w w' := by
  obtain ⟨v, D, hB, hR, hP, hne⟩ := h
  have hcv : ∀ W : World, W.heap.size = w.heap.size + 1 → Row W base 5 v D.length (u8s D) → (convert 22 9 v).run Try.prog W = .ok (.string (strOf D)) W :=
    fun W _ h => run_string_row Try.underlying22 Try.underlying5 Try.underlying9 h
  have hB1 := hB.alloc (.cells #[.string ⟨#[]⟩, .int .i64 0] 25)
  have hlt := hB.lt
  have c0 := hB1.cell 0
  have c1 := hB1.cell 1
  simp at c0 c1
  have hq := hcv _ (by simp) (hR.alloc (.cells #[.string ⟨#[]⟩, .int .i64 0] 25)).drew
  clear hcv
  go_enter Try.func60, Try.ntmps60
  go_wp2
  go_region
  all_goals go_wp2
  all_goals
    refine bodyPost_ret (v := .agg #[.string (strOf D), .int .i64 l.length]) (by simp [results, Try.results60, go_sem]) rfl ⟨D, hP, rfl, ?_⟩
    repeat (first | exact Below.refl _ _ | assumption | refine Below.alloc ?_ (by (try simp); (try omega)) _ | refine Below.setCell ?_ (by (try simp); (try omega)) _ | refine Below.drew ?_ | refine bel_then (by assumption) (by (try simp); (try omega)) ?_ | refine only_then (by assumption) (by (try simp); (try omega)) (by (try simp); (try omega)) ?_ | refine bel_thenB (by assumption) (by (try simp); (try omega)) ?_)

/-- Every block but g, and but the rows of bytes, stays. -/
def Keeps (g : Nat) (a w : World) : Prop := ∀ b o, b ≠ g → (∀ cs fr, o ≠ Obj.cells cs 5 fr) → a.heap[b]? = some o → w.heap[b]? = some o
theorem Keeps.has {g : Nat} {a w : World} (h : Keeps g a w) {b : Nat} {T : TypeId} {cs : Array Value} (h1 : b ≠ g) (h2 : T ≠ 5) (h3 : Has a b T cs) : Has w b T cs :=
  h b _ h1 (fun cs fr e => by injection e with _ e2; exact h2 e2) h3
theorem heap_lt7 {w : World} {b : Nat} {o : Obj} (h : w.heap[b]? = some o) : b < w.heap.size := (Array.getElem?_eq_some_iff.1 h).1
theorem Keeps.refl (g : Nat) (w : World) : Keeps g w w := fun _ _ _ _ h => h
theorem Keeps.trans {g : Nat} {a b c : World} (h : Keeps g a b) (k : Keeps g b c) : Keeps g a c := fun b' o h1 h2 h3 => k b' o h1 h2 (h b' o h1 h2 h3)
theorem Keeps.alloc {g : Nat} {a w : World} (h : Keeps g a w) (o : Obj) : Keeps g a (w.alloc o) := fun b o2 h1 h2 h3 => (Below.heap_alloc w o b (heap_lt7 (h b o2 h1 h2 h3))).trans (h b o2 h1 h2 h3)
theorem Keeps.drewN {g : Nat} {a w : World} (h : Keeps g a w) (n : Nat) : Keeps g a (w.drewN n) := fun b o h1 h2 h3 => h b o h1 h2 h3
theorem Keeps.store {g : Nat} {a w : World} (h : Keeps g a w) (j : Nat) (u : Value) : Keeps g a (w.setCell ⟨g, j, none⟩ u) := fun b o h1 h2 h3 => (Below.heap_setCell w ⟨g, j, none⟩ u b h1).trans (h b o h1 h2 h3)
theorem Row.notOther {w : World} {base n : Nat} {v : Value} {xs : List Value} (hR : Row w base 5 v n xs) {b : Nat} {o : Obj} (ho : ∀ cs fr, o ≠ Obj.cells cs 5 fr) (hb : w.heap[b]? = some o) : v.ownBlock ≠ some b := by
  obtain ⟨g, cap, cur, fr, rfl, _, hh, _⟩ := hR
  intro e
  simp only [Value.ownBlock, Option.some.injEq] at e
  subst e
  rw [hh] at hb
  injection hb with hb
  exact ho _ _ hb.symm
theorem Keeps.storeRow {g gd n cp base : Nat} {xs : List Value} {a w : World} (h : Keeps g a w) (hR : Row w base 5 (.slice (some ⟨gd, 0, none⟩) n cp) n xs) (j : Nat) (u : Value) : Keeps g a (w.setCell ⟨gd, j, none⟩ u) :=
  fun b o h1 h2 h3 => (Below.heap_setCell w ⟨gd, j, none⟩ u b (fun e => hR.notOther h2 (h b o h1 h2 h3) (by rw [e]; rfl))).trans (h b o h1 h2 h3)
theorem Keeps.grown {g n base : Nat} {v : Value} {xs : List Value} {a w w' : World} (h : Keeps g a w) (hR : Row w base 5 v n xs) (hg : w.grownBy w' v.ownBlock) : Keeps g a w' :=
  fun b o h1 h2 h3 => (hg.block b (heap_lt7 (h b o h1 h2 h3)) (fun e => hR.notOther h2 (h b o h1 h2 h3) e.symm)).trans (h b o h1 h2 h3)
theorem Writes.only {w w' : World} {base g b : Nat} {l : List Nat} {T : TypeId} {cs : Array Value} (h : Writes w base g l) (ho : Only b w w') (hb : Has w b T cs) (hT : 5 ≠ T) (hne : g ≠ b) : Writes w' base g l := by
  obtain ⟨v, D, hB, hR, hP, hn⟩ := h
  refine ⟨v, D, ho.has hB hne, hR.keep fun q hq => ho.block q (hR.lt q hq).2 ?_, hP, hn⟩
  intro e
  exact hR.neHas hb hT (by rw [hq, e])
end Go.Proofs.Yteaohgipndmciaa
