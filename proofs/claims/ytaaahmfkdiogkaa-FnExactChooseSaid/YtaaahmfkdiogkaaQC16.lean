/- Merged: C3Least, C3Huff, C3I, WEx3, I3W. -/
import Derived.Test.YtaaahmfkdiogkaaQC10
import Derived.Test.YtaaahmfkdiogkaaQC3
import Derived.Test.YtaaahmfkdiogkaaQC4
import Derived.Deep.RegionHeld3
import Derived.Deep.DrawnRows
import Derived.RegionTactic
import Derived.ChangeAlike
import Derived.Deep.QuietTactic
import Derived.BigQuiet
import Derived.OwnWalk
namespace Go.Proofs.Ytaaahmfkdiogkaa
set_option linter.unusedVariables false
set_option linter.unusedSimpArgs false
open Go.RowKit

theorem step_append_at {P : Program} (w : World) {ops : Array Oper} {o : Oper} {a : Act} {K : Act → World → Prop} {Q : Exit → Act → World → Prop} {E : Prop} (hgd : o.guard = none) (s x : Operand) (t : TypeId)
    (ho : o.op = .call { callee := .builtin .append, args := #[s, x], argTypes := #[t, t] })
    (base : Nat) (e : TypeId) (i : TypeInfo) (z : Value) (size bytes : Nat) (ht : P.underlying t = some (.slice e)) (hi : P.info? e = some i) (hz : i.zero = some z)
    (hsize : i.size = size) (hby : i.bytes = bytes) (hzs : z.cells.size = size) (hsz : 0 < size)
    (v : Value) (n : Nat) (xs : List Value) (hs : a.eval s = v) (hown : w.ownsRow base e size v n xs)
    (ad : Addr) (m c : Nat) (news : List Value) (hx : a.eval x = .slice (some ad) m c) (hl : news.length = m * size) (hnews : ∀ j u, news[j]? = some u → w.cell? (ad.add j) = some u) (h1 : ∀ u ∈ news, u.oneCell' = true)
    (h63 : n + m ≤ maxLen) (hbytes : (n + m) * bytes ≤ 140737488355328) (hbase : base ≤ w.heap.size)
    (h : ∀ v' w', w'.ownsRow base e size v' (n + m) (xs ++ news) → w.grownBy w' v.ownBlock → K (a.put o.dst v') w') :
    if Region.wanted o (yielded ops a.tmps) = true then Oper.wp P o a w K Q else E := by
  have hw : Region.wanted o (yielded ops a.tmps) = true := by simp [Region.wanted, hgd]
  rw [if_pos hw]
  exact wp_append_own w s x t ho base e i z size bytes ht hi hz hsize hby hzs hsz v n xs hs hown ad m c news hx hl hnews h1 h63 hbytes hbase fun v' w' h2 h3 _ => h v' w' h2 h3
attribute [local go_sem ↓] Go.wp_at_zero Go.wp_at_succ
end Go.Proofs.Ytaaahmfkdiogkaa
namespace Go.Proofs.Ytaaahmfkdiogkaa
set_option linter.unusedVariables false
set_option linter.unusedSimpArgs false
open Go.RowKit

end Go.Proofs.Ytaaahmfkdiogkaa
namespace Go.Proofs.Ytaaahmfkdiogkaa
set_option linter.unusedVariables false
set_option linter.unusedSimpArgs false
open Go.RowKit

/-! ### what is asked of the program -/
def AskLens : Prop := ∀ (a : Option Addr) (cap B lim : Nat) (zs : List Int) (w : World), Ints w B a zs → B ≤ w.heap.size → lensOn zs lim →
  Calls Try.prog 101 #[.slice a zs.length cap, .int .i64 lim] w fun e w' => ∃ v, e = .returned (.tuple #[v, .bool true]) ∧ w'.ownsRow w.heap.size 3 1 v zs.length (intsV (lensF zs lim)) ∧ Below w.heap.size w w'
def AskLensNo : Prop := ∀ (a : Option Addr) (cap B : Nat) (lim : Int) (zs : List Int) (w : World), Ints w B a zs → -9223372036854775808 ≤ lim → lim ≤ 9223372036854775807 → ¬ lensOn zs lim →
  Calls Try.prog 101 #[.slice a zs.length cap, .int .i64 lim] w fun e w' => e = .returned (.tuple #[.slice none 0 0, .bool false]) ∧ Below w.heap.size w w'
def AskKraft : Prop := ∀ (a : Option Addr) (cap B : Nat) (zs : List Int) (w : World), Ints w B a zs → B ≤ w.heap.size →
  Calls Try.prog 105 #[.slice a zs.length cap] w fun e w' => e = .returned (.int .i64 (kraftI zs)) ∧ Below w.heap.size w w'
def AskLensOk : Prop := ∀ (a : Option Addr) (cap B : Nat) (zs : List Int) (w : World), Ints w B a zs → B ≤ w.heap.size →
  Calls Try.prog 64 #[.slice a zs.length cap] w fun e w' => e = .returned (.bool (lOk zs)) ∧ Below w.heap.size w w'
theorem lens112 : lensF [1, 1, 2] 20 = [2, 2, 1] := by
  have hp : List.Perm [((1 : Nat), (0 : Int)), (1, 1), (2, 2)] (items [1, 1, 2] ([1, 1, 2] : List Int).length) := List.Perm.of_eq (by decide)
  have hs : LexS [((1 : Nat), (0 : Int)), (1, 1), (2, 2)] := by unfold LexS lex; decide
  have e := leafL_eq hp hs
  unfold lensF
  rw [← e]
  decide +kernel
theorem huff112 {c : Nat} (h : HuffIs [1, 1, 2] c) : c = 6 := by
  have h1 : Huff [1, 1, 2] (1 + 1 + (2 + 2 + 0)) := Huff.two _ 1 1 [2] [2, 2] _ (List.Perm.refl _) (by decide) (by decide) (List.Perm.refl _)
    (Huff.two _ 2 2 [] [4] _ (List.Perm.refl _) (by decide) (by decide) (List.Perm.refl _) (Huff.one 4))
  exact huff_same (h.2.1 (by decide)) h1 (List.Perm.refl _)
theorem on112 : lensOn [1, 1, 2] (20 : Nat) := by decide +kernel
theorem kraft112 : kraftI [2, 2, 1] = 1048576 := by decide +kernel

theorem lit112 (w : World) : Ints (w.alloc (.cells #[.int .i64 1, .int .i64 1, .int .i64 2] 3)) (w.heap.size + 1) (some ⟨w.heap.size, 0, none⟩) [1, 1, 2] := Ints.lit w [1, 1, 2] (by decide) (by decide)
theorem lit221 (w : World) : Ints (w.alloc (.cells #[.int .i64 2, .int .i64 2, .int .i64 1] 3)) (w.heap.size + 1) (some ⟨w.heap.size, 0, none⟩) [2, 2, 1] := Ints.lit w [2, 2, 1] (by decide) (by decide)
theorem size_alloc (w : World) (o : Obj) : (w.alloc o).heap.size = w.heap.size + 1 := by simp
theorem same221 (a a2 : Addr) (c c2 B : Nat) (w : World) (h : Ints w B (some a) [2, 2, 1]) (h2 : Ints w B (some a2) [2, 2, 1]) :
    Calls Try.prog 47 #[.slice (some a) 3 c, .slice (some a2) 3 c2] w fun e w' => e = .returned (.bool true) ∧ Below w.heap.size w w' :=
  sameInts_any (some a) (some a2) c c2 B [2, 2, 1] [2, 2, 1] w h h2
theorem kraft221 (hK : AskKraft) (a : Addr) (c B : Nat) (w : World) (h : Ints w B (some a) [2, 2, 1]) (hB : B ≤ w.heap.size) :
    Calls Try.prog 105 #[.slice (some a) 3 c] w fun e w' => e = .returned (.int .i64 1048576) ∧ Below w.heap.size w w' := by
  have := hK (some a) c B [2, 2, 1] w h hB
  rw [kraft112] at this
  exact this
end Go.Proofs.Ytaaahmfkdiogkaa
namespace Go.Proofs.Ytaaahmfkdiogkaa
set_option linter.unusedVariables false
set_option linter.unusedSimpArgs false
open Go.RowKit Go.ChangeShapes Go.WideShapes Go.ChangeAt

theorem Ints.ofRow {w : World} {a : Option Addr} {len cap : Nat} {zs : List Int} (h : IsRow .i64 w a len cap zs) (hle : len ≤ 1048576) : ∃ ys : List Int, ys.length = len ∧ Ints w w.heap.size a ys := by
  rcases h with ⟨rfl, rfl, rfl, rfl⟩ | ⟨x, rfl, hl, hm, hz, hc, hwz⟩
  · exact ⟨[], rfl, by simp, by simp, fun h => by simp at h⟩
  · have hlen : (zs.take len).length = len := by rw [List.length_take]; omega
    refine ⟨zs.take len, hlen, by rw [hlen]; omega, fun n hn => ?_, fun h0 => ?_⟩
    · exact bounds_i64 (hwz n (List.mem_of_mem_take hn))
    · have h1 := hc 0 (by omega)
      obtain ⟨b, off, spot⟩ := x
      have hspot : spot = none := by simpa [Addr.add] using World.cell?_spot h1
      subst hspot
      refine ⟨b, off, rfl, ?_, fun i hi => ?_⟩
      · have := cell_lt h1
        simpa [Addr.add] using this
      · rw [hlen] at hi
        have := hc i (by omega)
        have e2 : (zs.take len).getD i 0 = zs.getD i 0 := by simp [List.getD_eq_getElem?_getD, List.getElem?_take, hi]
        rw [e2]
        by_cases e : i = 0
        · subst e; simpa [Addr.add] using this
        · simpa [Addr.add, e] using this
theorem isrow_len {w : World} {a : Option Addr} {len cap : Nat} {zs : List Int} (h : IsRow .i64 w a len cap zs) : len ≤ maxLen := by
  rcases h with ⟨rfl, rfl, rfl, rfl⟩ | ⟨x, rfl, hl, hm, hz, hc, hwz⟩ <;> omega
def AskFreqs : Prop := ∀ (a : Option Addr) (cap B : Nat) (zs : List Int) (w : World), Ints w B a zs → B ≤ w.heap.size →
  Calls Try.prog 127 #[.slice a zs.length cap] w fun e w' => e = .returned (.bool (fOk zs)) ∧ Below w.heap.size w w'
theorem toIntS_n {n : Nat} (a : Option Addr) (cap B : Nat) (zs : List Int) (w : World) (hn : zs.length = n) (hz : Ints w B a zs) (hB : B ≤ w.heap.size) (hlen : n ≤ 1048576) :
    Calls Try.prog 17 #[.slice a n cap] w fun e w' => ∃ g, e = .returned (.slice (some ⟨g, 0, none⟩) n n) ∧ Ints w' w'.heap.size (some ⟨g, 0, none⟩) zs ∧ w'.ownsRow w.heap.size 3 1 (.slice (some ⟨g, 0, none⟩) n n) n (intsV zs) ∧ Below w.heap.size w w' := by
  subst hn
  refine (toIntS_any a cap B zs w hz hB hlen).mono ?_
  rintro e w' ⟨g, rfl, hown, hb⟩
  exact ⟨g, rfl, (Ints.ofOwn hown (by omega) hz.2.1).2, hown, hb⟩
theorem eqSame_n {n : Nat} (p q : Option Addr) (c c2 B : Nat) (zs : List Int) (w : World) (hn : zs.length = n) (hz : Ints w B p zs) (hy : Ints w B q zs) :
    Calls Try.prog 20 #[.slice p n c, .slice q n c2] w fun e w' => e = .returned (.bool true) ∧ Below w.heap.size w w' := by
  subst hn
  have := eqIntS_any p q c c2 B zs zs w hz hy
  simpa using this

end Go.Proofs.Ytaaahmfkdiogkaa
namespace Go.Proofs.Ytaaahmfkdiogkaa
set_option linter.unusedVariables false
set_option linter.unusedSimpArgs false
open Go.RowKit

theorem implFreqsOk_any (a : Option Addr) (cap B : Nat) (zs : List Int) (w : World) (hz : Ints w B a zs) :
    Calls Try.prog 127 #[.slice a zs.length cap] w fun e w' => e = .returned (.bool (fOk zs)) ∧ w' = w := by
  have K := hidden (symsIn_any a cap B zs 0 1000000 w hz)
  rw [show symB zs 0 1000000 = fOk zs from rfl] at K
  go_enter Try.func127, Try.ntmps127
  go_wp2_with fail
  refine K.out.mono ?_
  rintro e w' ⟨rfl, rfl⟩
  go_wp2
  go_ret
  exact ⟨rfl, rfl⟩
theorem askFreqs : AskFreqs := fun a cap B zs w hz _ => (implFreqsOk_any a cap B zs w hz).mono (by rintro e w' ⟨rfl, rfl⟩; exact ⟨rfl, Below.refl _ _⟩)
theorem askKraft : AskKraft := fun a cap B zs w hz _ => (implKraft_any a cap B zs w hz).mono (by rintro e w' ⟨rfl, rfl⟩; exact ⟨rfl, Below.refl _ _⟩)
theorem askLensOk : AskLensOk := fun a cap B zs w hz _ => (implLensOk_any a cap B zs w hz).mono (by rintro e w' ⟨rfl, rfl⟩; exact ⟨rfl, Below.refl _ _⟩)
end Go.Proofs.Ytaaahmfkdiogkaa
