/- Texts of one reach, one behind the other: C1Close, C5, C6, C1W. What each is about stands in its theorems. -/
import Derived.Test.YtpngomjkapccdaaDoorG1
import Derived.Test.YtpngomjkapccdaaDoorG3
import Derived.Test.YtpngomjkapccdaaDoorG4
import Derived.Test.YtpngomjkapccdaaDoorG10
import Derived.BigQuiet
import Derived.BigRegion
import Derived.ChangeAlike
import Derived.Deep.QuietTactic
import Derived.Maps.AppendAt
import Derived.RegionTactic
import Derived.OwnWalk
namespace Go.Proofs.YtpngomjkapccdaaDoor
set_option linter.unusedVariables false
set_option linter.unusedSimpArgs false
open Go.RowKit

/-- The first k bits of v (n bits), then zeros. -/
def half (v n k : Nat) : List Nat := nbits (v / 2 ^ (n - k)) k ++ List.replicate (n - k) 0
theorem half_len (v n k : Nat) (h : k ≤ n) : (half v n k).length = n := by simp [half, nbits_len]; omega
theorem half_zero (v n : Nat) : half v n 0 = List.replicate n 0 := by simp [half, nbits]
theorem half_all (v n : Nat) : half v n n = nbits v n := by simp [half]
theorem half_set (v n k : Nat) (h : k < n) : (half v n k).set k (v / 2 ^ (n - 1 - k) % 2) = half v n (k + 1) := by
  have e : nbits (v / 2 ^ (n - (k + 1))) (k + 1) = nbits (v / 2 ^ (n - k)) k ++ [v / 2 ^ (n - 1 - k) % 2] := by
    rw [nbits_add, Nat.div_div_eq_div_mul, ← Nat.pow_add, show n - (k + 1) + 1 = n - k by omega, show n - (k + 1) = n - 1 - k by omega]
    simp [nbits]
  unfold half
  rw [e, show n - k = (n - (k + 1)) + 1 by omega, List.replicate_succ, List.set_append_right _ _ (by rw [nbits_len]; exact Nat.le_refl _), nbits_len]
  simp
theorem made_u8s (n : Nat) : (madeCells #[Value.int .u8 0] n).toList = u8s (List.replicate n 0) := by
  rw [toList_madeCells_one]; simp [u8s]

theorem packs_nil : Packs [] [] := ⟨rfl, fun j => by simp, fun j hj => by simp at hj⟩
end Go.Proofs.YtpngomjkapccdaaDoor
namespace Go.Proofs.YtpngomjkapccdaaDoor
set_option linter.unusedVariables false
set_option linter.unusedSimpArgs false
open Go.RowKit

theorem cell_two (w : World) (u v : Value) (T : TypeId) : ∀ (j : Nat) (x : Value), [u, v][j]? = some x → (w.alloc (.cells #[u, v] T)).cell? ((⟨w.heap.size, 0, none⟩ : Addr).add j) = some x := by
  intro j x h
  have hF := Has.fresh w T #[u, v]
  match j, h with
  | 0, h => simp at h; subst h; exact hF.cell 0
  | 1, h => simp at h; subst h; exact hF.cell 1
  | j + 2, h => simp at h
end Go.Proofs.YtpngomjkapccdaaDoor
namespace Go.Proofs.YtpngomjkapccdaaDoor
set_option linter.unusedVariables false
set_option linter.unusedSimpArgs false
open Go.RowKit

/-- How many bits a number has; -1 where it is none. -/
def gamOk (n : Int) : Bool := decide (1 ≤ n ∧ n ≤ 1048575)
theorem gamOk_iff (n : Int) : gamOk n = true ↔ 1 ≤ n ∧ n ≤ 1048575 := by simp [gamOk]
def gamB (n : Int) : Int := if gamOk n = true then ((gamL n.toNat).length : Int) else -1
end Go.Proofs.YtpngomjkapccdaaDoor
namespace Go.Proofs.YtpngomjkapccdaaDoor
set_option linter.unusedVariables false
set_option linter.unusedSimpArgs false
open Go.RowKit

/-- Block g is a writer of the bits l; its bytes lie in a row of the call's own, from block base on. -/
def Writes (w : World) (base g : Nat) (l : List Nat) : Prop :=
  ∃ (v : Value) (D : List Nat), Has w g 69 #[v, .int .i64 (l.length : Int)] ∧ Row w base 5 v D.length (u8s D) ∧ Packs D l ∧ some g ≠ v.ownBlock

theorem writerOf_any (s : ByteArray) (n : Nat) (w : World) (hok : okB s n = true) :
    Calls Tryd.prog 19 #[.agg #[.string s, .int .i64 n]] w fun e w' => ∃ g, e = .returned (.pointer (some ⟨g, 0, none⟩)) ∧ Writes w' w.heap.size g (row s 0 n) ∧ w.heap.size ≤ g ∧ Below w.heap.size w w' := by
  have hroom := okB_room hok
  have hcv := fun W : World => run_bytes_of_string (P := Tryd.prog) W 9 22 5 s Tryd.underlying9 Tryd.underlying22 Tryd.underlying5
  go_enter Tryd.func19, Tryd.ntmps19
  go_wp2
  go_ret
  have hrow := Row.ofString (w.alloc (.cells #[.string s, .int .i64 n] 25)) 5 s (by unfold maxLen; omega)
  have hpk := bitsOk_packs hok
  refine ⟨w.heap.size + 1 + 1, rfl, ⟨.slice (some ⟨w.heap.size + 1, 0, none⟩) s.size (grownCap (w.alloc (.cells #[.string s, .int .i64 n] 25)) s.size 0 5), bytesOf s, ?_, ?_, hpk, ?_⟩, by omega, ?_⟩
  · rw [row_len]
    exact Has.drew (Has.freshAt (by simp) _ _)
  · rw [bytesOf_len]
    have := ((hrow.alloc (.cells #[.slice (some ⟨w.heap.size + 1, 0, none⟩) s.size (grownCap (w.alloc (.cells #[.string s, .int .i64 n] 25)) s.size 0 5), .int .i64 n] 69)).mono (show w.heap.size ≤ _ by simp)).drew
    simpa using this
  · simp [Value.ownBlock]
  · repeat (first | exact Below.refl _ _ | assumption | refine Below.alloc ?_ (by (try simp); (try omega)) _ | refine Below.setCell ?_ (by (try simp); (try omega)) _ | refine Below.drew ?_ | refine bel_then (by assumption) (by (try simp); (try omega)) ?_ | refine only_then (by assumption) (by (try simp); (try omega)) (by (try simp); (try omega)) ?_ | refine bel_thenB (by assumption) (by (try simp); (try omega)) ?_)

theorem Writes.lt {w : World} {base g : Nat} {l : List Nat} (h : Writes w base g l) : g < w.heap.size := by
  obtain ⟨v, D, hB, _⟩ := h; exact hB.lt
theorem Writes.below {w w' : World} {base g : Nat} {l : List Nat} (h : Writes w base g l) (hb : Below w.heap.size w w') : Writes w' base g l := by
  obtain ⟨v, D, hB, hR, hP, hne⟩ := h
  exact ⟨v, D, hB.below hb hB.lt, hR.belowAll hb, hP, hne⟩
theorem Writes.alloc {w : World} {base g : Nat} {l : List Nat} (h : Writes w base g l) (o : Obj) : Writes (w.alloc o) base g l := by
  obtain ⟨v, D, hB, hR, hP, hne⟩ := h
  exact ⟨v, D, hB.alloc o, hR.alloc o, hP, hne⟩

theorem bits_any (g base : Nat) (l : List Nat) (w : World) (h : Writes w base g l) :
    Calls Tryd.prog 22 #[.pointer (some ⟨g, 0, none⟩)] w fun e w' => ∃ D, Packs D l ∧ e = .returned (.agg #[.string (strOf D), .int .i64 l.length]) ∧ Below w.heap.size w w' := by
  obtain ⟨v, D, hB, hR, hP, hne⟩ := h
  have hcv : ∀ W : World, W.heap.size = w.heap.size + 1 → Row W base 5 v D.length (u8s D) → (convert 22 9 v).run Tryd.prog W = .ok (.string (strOf D)) W :=
    fun W _ h => run_string_row Tryd.underlying22 Tryd.underlying5 Tryd.underlying9 h
  have hB1 := hB.alloc (.cells #[.string ⟨#[]⟩, .int .i64 0] 25)
  have hlt := hB.lt
  have c0 := hB1.cell 0
  have c1 := hB1.cell 1
  simp at c0 c1
  have hq := hcv _ (by simp) (hR.alloc (.cells #[.string ⟨#[]⟩, .int .i64 0] 25)).drew
  clear hcv
  go_enter Tryd.func22, Tryd.ntmps22
  go_wp2
  go_region
  all_goals go_wp2
  all_goals
    refine bodyPost_ret (v := .agg #[.string (strOf D), .int .i64 l.length]) (by simp [results, Tryd.results22, go_sem]) rfl ⟨D, hP, rfl, ?_⟩
    repeat (first | exact Below.refl _ _ | assumption | refine Below.alloc ?_ (by (try simp); (try omega)) _ | refine Below.setCell ?_ (by (try simp); (try omega)) _ | refine Below.drew ?_ | refine bel_then (by assumption) (by (try simp); (try omega)) ?_ | refine only_then (by assumption) (by (try simp); (try omega)) (by (try simp); (try omega)) ?_ | refine bel_thenB (by assumption) (by (try simp); (try omega)) ?_)

/-- Every block but g, and but the bytes' own, stays. -/
def Keeps (g : Nat) (a w : World) : Prop := ∀ b T cs, b ≠ g → T ≠ 5 → Has a b T cs → Has w b T cs
theorem Keeps.refl (g : Nat) (w : World) : Keeps g w w := fun _ _ _ _ _ h => h
theorem Keeps.trans {g : Nat} {a b c : World} (h : Keeps g a b) (k : Keeps g b c) : Keeps g a c := fun b' T cs h1 h2 h3 => k b' T cs h1 h2 (h b' T cs h1 h2 h3)
theorem Keeps.alloc {g : Nat} {a w : World} (h : Keeps g a w) (o : Obj) : Keeps g a (w.alloc o) := fun b T cs h1 h2 h3 => (h b T cs h1 h2 h3).alloc o
theorem Keeps.drewN {g : Nat} {a w : World} (h : Keeps g a w) (n : Nat) : Keeps g a (w.drewN n) := fun b T cs h1 h2 h3 => (h b T cs h1 h2 h3).drewN n
theorem Keeps.store {g : Nat} {a w : World} (h : Keeps g a w) (j : Nat) (u : Value) : Keeps g a (w.setCell ⟨g, j, none⟩ u) := fun b T cs h1 h2 h3 => (h b T cs h1 h2 h3).storeAway h1 u
theorem Keeps.storeRow {g gd n cp base : Nat} {xs : List Value} {a w : World} (h : Keeps g a w) (hR : Row w base 5 (.slice (some ⟨gd, 0, none⟩) n cp) n xs) (j : Nat) (u : Value) : Keeps g a (w.setCell ⟨gd, j, none⟩ u) :=
  fun b T cs h1 h2 h3 => (h b T cs h1 h2 h3).storeAway (fun e => hR.neHas (h b T cs h1 h2 h3) (fun e' => h2 e'.symm) (by rw [e]; rfl)) u
theorem Keeps.grown {g n base : Nat} {v : Value} {xs : List Value} {a w w' : World} (h : Keeps g a w) (hR : Row w base 5 v n xs) (hg : w.grownBy w' v.ownBlock) : Keeps g a w' :=
  fun b T cs h1 h2 h3 => (h b T cs h1 h2 h3).grown hg (fun e => hR.neHas (h b T cs h1 h2 h3) (fun e' => h2 e'.symm) e.symm)
theorem Writes.only {w w' : World} {base g b : Nat} {l : List Nat} {T : TypeId} {cs : Array Value} (h : Writes w base g l) (ho : Only b w w') (hb : Has w b T cs) (hT : 5 ≠ T) (hne : g ≠ b) : Writes w' base g l := by
  obtain ⟨v, D, hB, hR, hP, hn⟩ := h
  refine ⟨v, D, ho.has hB hne, hR.keep fun q hq => ho.block q (hR.lt q hq).2 ?_, hP, hn⟩
  intro e
  exact hR.neHas hb hT (by rw [hq, e])
end Go.Proofs.YtpngomjkapccdaaDoor
