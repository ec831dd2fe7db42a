/- Merged: Base, Ret, Mem, Ints, PM, Items, Nats, Huff, HuffIs, Can, Rec, Alph, Str, Alph2, C1One, C1SRd0, C1Ok, C1IRd. -/
import Derived.Test.YtaaahmfkdiogkaaProg
import Derived.Test.YtaaahmfkdiogkaaQM1
import Derived.WalkKit
import Derived.ProofKit
import Derived.OpenShut
import Derived.ShutString
import Derived.ChangeOld
import Derived.Below
import Derived.Carry
import Derived.Lib.SmallJoins
import Derived.Deep.Draws
import Derived.OwnWalk
import Derived.Laws.OwnMore
import Derived.Laws.Rows
import Derived.Laws.BytesString
namespace Go.Proofs.Ytaaahmfkdiogkaa
set_option linter.unusedVariables false
set_option linter.unusedSimpArgs false
open Go.ChangeShapes Go.WideShapes Go.ChangeAt Go.RowKit Go.Joins Go.Deep

/-- A slice of integers that came in: nil, or a row of cells. -/
def IsRow (k : IntKind) (w : World) (a : Option Addr) (len cap : Nat) (zs : List Int) : Prop :=
  (a = none ∧ len = 0 ∧ cap = 0 ∧ zs = []) ∨
  ∃ x, a = some x ∧ len ≤ cap ∧ cap ≤ maxLen ∧ zs.length = cap ∧ (∀ i, i < zs.length → w.cell? (x.add i) = some (.int k (zs.getD i 0))) ∧ ∀ n ∈ zs, (Lit.int k n).wf = true

/-- A struct of a string and an int, by value. -/
theorem open_si {H : Type} {enc : TypeId × Value → H} {P : Program} {w : World} {base : Nat} {spare : Nat → Bool} {held : Bool} {r : Reach} {b0 : Nat} {t : TypeId} {v : Value} {d : DataW H} {p : List MemPlace}
    {f0 f1 : Field} (hs : P.underlying t = some (.struct #[f0, f1])) (hone : oneCellFields P #[f0, f1] = true) (hC : P.cellsOf t = 2) (e0 : P.underlying f0.type = some .string) (e1 : P.underlying f1.type = some (.int .i64))
    (hv : Value.okWide P w r b0 t v) (h : DataW.Trod enc P w base spare held t v d p) :
    ∃ (s : ByteArray) (n : Int), v = .agg #[.string s, .int .i64 n] ∧ s.size ≤ maxLen ∧ (Lit.int .i64 n).wf = true := by
  obtain ⟨c0, c1, y0, y1, m, rfl, _, _, hy0, hy1⟩ := open_agg2 hs hone hC hv h
  obtain ⟨s, q0, _, hsz⟩ := DataW.trod_string e0 hy0
  obtain ⟨n, q1, _, wn⟩ := DataW.trod_int e1 hy1
  simp at q0 q1
  subst q0 q1
  exact ⟨s, n, rfl, hsz, wn⟩

theorem bcell {W w1 : World} (hb : Below W.heap.size W w1) : (∀ b o, b < W.heap.size → w1.cell? ⟨b, o, none⟩ = W.cell? ⟨b, o, none⟩) ∧ (∀ b o, b < W.heap.size → w1.frozen? ⟨b, o, none⟩ = W.frozen? ⟨b, o, none⟩) :=
  ⟨fun b o h => hb.cell (p := ⟨b, o, none⟩) h, fun b o h => hb.frozen (p := ⟨b, o, none⟩) h⟩

theorem bcell3 {W w1 : World} (hb : Below W.heap.size W w1) : (∀ b o, b < W.heap.size → w1.cell? ⟨b, o, none⟩ = W.cell? ⟨b, o, none⟩) ∧ (∀ b o, b < W.heap.size → w1.frozen? ⟨b, o, none⟩ = W.frozen? ⟨b, o, none⟩) ∧ (∀ b, b < W.heap.size → b < w1.heap.size) :=
  ⟨fun b o h => hb.cell (p := ⟨b, o, none⟩) h, fun b o h => hb.frozen (p := ⟨b, o, none⟩) h, fun _ h => Nat.lt_of_lt_of_le h hb.size⟩
theorem bel_thenB {B B' : Nat} {a b c : World} (k : Below B' b c) (hB : B ≤ B') (h : Below B a b) : Below B a c := h.trans (k.mono hB)
theorem hidden {p : Prop} (h : p) : Hid p := h
theorem bel_then {B : Nat} {a b c : World} (k : Below b.heap.size b c) (hB : B ≤ b.heap.size) (h : Below B a b) : Below B a c := h.trans (k.mono hB)

end Go.Proofs.Ytaaahmfkdiogkaa
namespace Go.Proofs.Ytaaahmfkdiogkaa
set_option linter.unusedVariables false
set_option linter.unusedSimpArgs false
open Go.RowKit

theorem ret_int {k : IntKind} {a b : Int} (h : a = b) : Ending.returned (.int k a) = .returned (.int k b) := by rw [h]
theorem ret_bool {a b : Bool} (h : a = b) : Ending.returned (.bool a) = .returned (.bool b) := by rw [h]
theorem Try.info5 : (Try.prog.info? 5).map (fun i => (i.zero, i.size, i.bytes)) = some (some (.int .u8 0), 1, 1) := by kernel_rfl
end Go.Proofs.Ytaaahmfkdiogkaa
namespace Go.Proofs.Ytaaahmfkdiogkaa
set_option linter.unusedVariables false
set_option linter.unusedSimpArgs false
open Go.RowKit

/-- Block g is made of the cells cs, of element type t, none frozen. -/
def Has (w : World) (g : Nat) (t : TypeId) (cs : Array Value) : Prop := w.heap[g]? = some (.cells cs t (0, 0))
theorem Has.lt {w : World} {g : Nat} {t : TypeId} {cs : Array Value} (h : Has w g t cs) : g < w.heap.size := by
  unfold Has at h
  rcases Nat.lt_or_ge g w.heap.size with hl | hl
  · exact hl
  · rw [Array.getElem?_eq_none hl] at h; cases h
theorem Has.cell {w : World} {g : Nat} {t : TypeId} {cs : Array Value} (h : Has w g t cs) (i : Nat) : w.cell? ⟨g, i, none⟩ = cs[i]? := cell_of_row w g i cs t (0, 0) h
theorem Has.free {w : World} {g : Nat} {t : TypeId} {cs : Array Value} (h : Has w g t cs) (i : Nat) : w.frozen? ⟨g, i, none⟩ = false := by
  unfold Has at h; simp [World.frozen?, h]
theorem Has.store {w : World} {g : Nat} {t : TypeId} {cs : Array Value} (h : Has w g t cs) (i : Nat) (u : Value) : Has (w.setCell ⟨g, i, none⟩ u) g t (cs.setIfInBounds i u) := by
  unfold Has at h ⊢; simp [World.setCell, Array.getElem?_modify, h]
theorem Has.storeAway {w : World} {g : Nat} {t : TypeId} {cs : Array Value} (h : Has w g t cs) {p : Addr} (hp : g ≠ p.block) (u : Value) : Has (w.setCell p u) g t cs := (Below.heap_setCell w p u g hp).trans h
theorem Has.alloc {w : World} {g : Nat} {t : TypeId} {cs : Array Value} (h : Has w g t cs) (o : Obj) : Has (w.alloc o) g t cs := (Below.heap_alloc w o g h.lt).trans h
theorem Has.fresh (w : World) (t : TypeId) (cs : Array Value) : Has (w.alloc (.cells cs t)) w.heap.size t cs := heap_alloc_new w _
theorem Has.freshAt {w : World} {g : Nat} (h : w.heap.size = g) (t : TypeId) (cs : Array Value) : Has (w.alloc (.cells cs t)) g t cs := by subst h; exact Has.fresh _ _ _
theorem Has.drew {w : World} {g : Nat} {t : TypeId} {cs : Array Value} (h : Has w g t cs) : Has w.drew g t cs := h
theorem Has.drewN {w : World} {g : Nat} {t : TypeId} {cs : Array Value} (h : Has w g t cs) (n : Nat) : Has (w.drewN n) g t cs := h
theorem Has.below {w w' : World} {g B : Nat} {t : TypeId} {cs : Array Value} (h : Has w g t cs) (hb : Below B w w') (hg : g < B) : Has w' g t cs := (hb.block g hg).trans h
theorem Has.grown {w w' : World} {g : Nat} {row : Option Nat} {t : TypeId} {cs : Array Value} (h : Has w g t cs) (hb : w.grownBy w' row) (hg : some g ≠ row) : Has w' g t cs := (hb.block g h.lt hg).trans h

/-- Only block g (and what is new) may have turned from a to w. -/
def Only (g : Nat) (a w : World) : Prop := a.grownBy w (some g)
theorem Only.refl (g : Nat) (w : World) : Only g w w := World.grownBy.refl w _
theorem Only.drew {g : Nat} {a w : World} (h : Only g a w) : Only g a w.drew := ⟨h.os, h.tape, h.output, h.size, h.block⟩
theorem Only.drewN {g : Nat} {a w : World} (h : Only g a w) (n : Nat) : Only g a (w.drewN n) := ⟨h.os, h.tape, h.output, h.size, h.block⟩
theorem Only.alloc {g : Nat} {a w : World} (h : Only g a w) (o : Obj) : Only g a (w.alloc o) :=
  ⟨h.os, h.tape, h.output, Nat.le_trans h.size (by simp), fun i hi hne => (Below.heap_alloc w o i (Nat.lt_of_lt_of_le hi h.size)).trans (h.block i hi hne)⟩
theorem Only.store {g : Nat} {a w : World} (h : Only g a w) {p : Addr} (hp : p.block = g ∨ a.heap.size ≤ p.block) (u : Value) : Only g a (w.setCell p u) :=
  ⟨h.os, h.tape, h.output, by simpa [World.setCell] using h.size, fun i hi hne => (Below.heap_setCell w p u i (by
    rintro rfl
    rcases hp with hp | hp
    · exact hne (by rw [hp])
    · omega)).trans (h.block i hi hne)⟩
theorem Only.below {g B : Nat} {a w : World} (h : Only g a w) (hB : B ≤ g) (hs : B ≤ a.heap.size) : Below B a w :=
  ⟨h.os, h.tape, h.output, h.size, fun i hi => h.block i (Nat.lt_of_lt_of_le hi hs) (by simp; omega)⟩
theorem Only.has {g g' : Nat} {a w : World} {t : TypeId} {cs : Array Value} (h : Only g a w) (hh : Has a g' t cs) (hne : g' ≠ g) : Has w g' t cs := hh.grown h (by simpa using hne)
theorem bel_drewN {B : Nat} {a w : World} (h : Below B a w) (n : Nat) : Below B a (w.drewN n) := ⟨h.os, h.tape, h.output, h.size, h.block⟩
theorem ocell {g : Nat} {a w : World} (h : Only g a w) : (∀ b o, b < a.heap.size → b ≠ g → w.cell? ⟨b, o, none⟩ = a.cell? ⟨b, o, none⟩) ∧ (∀ b o, b < a.heap.size → b ≠ g → w.frozen? ⟨b, o, none⟩ = a.frozen? ⟨b, o, none⟩) :=
  ⟨fun b o h1 h2 => World.cell?_of_block (w := a) (a := ⟨b, o, none⟩) (h.block b h1 (by simpa using h2)), fun b o h1 h2 => World.frozen?_of_block (w := a) (a := ⟨b, o, none⟩) (h.block b h1 (by simpa using h2))⟩
theorem only_then {B g : Nat} {a b c : World} (k : Only g b c) (hg : B ≤ g) (hB : B ≤ b.heap.size) (h : Below B a b) : Below B a c := h.trans (k.below hg hB)
theorem Only.grownNew {g : Nat} {a w w' : World} {row : Option Nat} (h : Only g a w) (hg : w.grownBy w' row) (hr : ∀ k, row = some k → a.heap.size ≤ k) : Only g a w' :=
  ⟨hg.os.trans h.os, hg.tape.trans h.tape, hg.output.trans h.output, Nat.le_trans h.size hg.size, fun i hi hne => (hg.block i (Nat.lt_of_lt_of_le hi h.size) (fun e => by have := hr i e.symm; omega)).trans (h.block i hi hne)⟩
end Go.Proofs.Ytaaahmfkdiogkaa
namespace Go.Proofs.Ytaaahmfkdiogkaa
set_option linter.unusedVariables false
set_option linter.unusedSimpArgs false
open Go.RowKit

/-- The elements zs of a slice that lies at a, in a block below B (or is empty). -/
def Ints (w : World) (B : Nat) (a : Option Addr) (zs : List Int) : Prop :=
  zs.length ≤ 140737488355328 ∧ (∀ n ∈ zs, -9223372036854775808 ≤ n ∧ n ≤ 9223372036854775807) ∧
    (0 < zs.length → ∃ b off, a = some ⟨b, off, none⟩ ∧ b < B ∧ ∀ i, i < zs.length → w.cell? ⟨b, off + i, none⟩ = some (.int .i64 (zs.getD i 0)))
theorem Ints.keep {w w' : World} {B : Nat} {a : Option Addr} {zs : List Int} (h : Ints w B a zs) (hk : ∀ p : Addr, p.block < B → w'.cell? p = w.cell? p) : Ints w' B a zs :=
  ⟨h.1, h.2.1, fun h0 => by
    obtain ⟨b, off, e, hb, hc⟩ := h.2.2 h0
    exact ⟨b, off, e, hb, fun i hi => (hk _ hb).trans (hc i hi)⟩⟩
theorem Ints.below {w w' : World} {B : Nat} {a : Option Addr} {zs : List Int} (h : Ints w B a zs) (hb : Below B w w') : Ints w' B a zs := h.keep fun _ hp => hb.cell hp
theorem Ints.mono {w : World} {B B' : Nat} {a : Option Addr} {zs : List Int} (h : Ints w B a zs) (hB : B ≤ B') : Ints w B' a zs :=
  ⟨h.1, h.2.1, fun h0 => by
    obtain ⟨b, off, e, hb, hc⟩ := h.2.2 h0
    exact ⟨b, off, e, by omega, hc⟩⟩
theorem Ints.range {w : World} {B : Nat} {a : Option Addr} {zs : List Int} (h : Ints w B a zs) (k : Nat) : -9223372036854775808 ≤ zs.getD k 0 ∧ zs.getD k 0 ≤ 9223372036854775807 := by
  rcases Nat.lt_or_ge k zs.length with hk | hk
  · have e : zs.getD k 0 = zs[k] := by simp [List.getD_eq_getElem?_getD, hk]
    rw [e]; exact h.2.1 _ (List.getElem_mem hk)
  · have e : zs.getD k 0 = 0 := by simp [List.getD_eq_getElem?_getD, hk]
    rw [e]; omega
theorem mem_getD {zs : List Int} {x : Int} (h : x ∈ zs) : ∃ k, k < zs.length ∧ zs.getD k 0 = x := by
  obtain ⟨k, hk, e⟩ := List.getElem_of_mem h
  exact ⟨k, hk, by simp [List.getD_eq_getElem?_getD, hk, e]⟩
theorem getD_mem {zs : List Int} {k : Nat} (h : k < zs.length) : zs.getD k 0 ∈ zs := by
  have e : zs.getD k 0 = zs[k] := by simp [List.getD_eq_getElem?_getD, h]
  rw [e]; exact List.getElem_mem h
end Go.Proofs.Ytaaahmfkdiogkaa
namespace Go.Proofs.Ytaaahmfkdiogkaa
set_option linter.unusedVariables false
set_option linter.unusedSimpArgs false

/-! ### sums over the first n numbers -/
def rsum : Nat → (Nat → Nat) → Nat
  | 0, _ => 0
  | n + 1, f => rsum n f + f n
theorem rsum_congr {n : Nat} {f g : Nat → Nat} (h : ∀ j, j < n → f j = g j) : rsum n f = rsum n g := by
  induction n with
  | zero => rfl
  | succ n ih => show rsum n f + f n = rsum n g + g n; rw [ih fun j hj => h j (by omega), h n (by omega)]
theorem rsum_add (n : Nat) (f g : Nat → Nat) : rsum n (fun j => f j + g j) = rsum n f + rsum n g := by
  induction n with
  | zero => rfl
  | succ n ih => show rsum n _ + (f n + g n) = rsum n f + f n + (rsum n g + g n); rw [ih]; omega
theorem rsum_mul (n c : Nat) (f : Nat → Nat) : rsum n (fun j => c * f j) = c * rsum n f := by
  induction n with
  | zero => rfl
  | succ n ih => show rsum n _ + c * f n = c * (rsum n f + f n); rw [ih, Nat.mul_add]
theorem rsum_le {n : Nat} {f g : Nat → Nat} (h : ∀ j, j < n → f j ≤ g j) : rsum n f ≤ rsum n g := by
  induction n with
  | zero => exact Nat.le_refl _
  | succ n ih => exact Nat.add_le_add (ih fun j hj => h j (by omega)) (h n (by omega))
theorem rsum_one (n : Nat) : rsum n (fun _ => 1) = n := by
  induction n with
  | zero => rfl
  | succ n ih => show rsum n _ + 1 = _; rw [ih]
theorem rsum_zero (n : Nat) : rsum n (fun _ => 0) = 0 := by
  induction n with
  | zero => rfl
  | succ n ih => show rsum n _ + 0 = _; rw [ih]
theorem rsum_split (a b : Nat) (f : Nat → Nat) : rsum (a + b) f = rsum a f + rsum b (fun j => f (a + j)) := by
  induction b with
  | zero => rfl
  | succ b ih => show rsum (a + b) f + f (a + b) = rsum a f + (rsum b _ + f (a + b)); rw [ih]; omega
theorem rsum_if (n a : Nat) (f : Nat → Nat) (h : a ≤ n) : rsum n (fun j => if j < a then f j else 0) = rsum a f := by
  obtain ⟨b, rfl⟩ : ∃ b, n = a + b := ⟨n - a, by omega⟩
  rw [rsum_split, rsum_congr (f := fun j => if j < a then f j else 0) (g := f) (n := a) fun j hj => by simp [hj]]
  rw [rsum_congr (n := b) (g := fun _ => 0) fun j _ => if_neg (by omega), rsum_zero, Nat.add_zero]
theorem rsum_map (n : Nat) (f : Nat → Nat) : ((List.range n).map f).sum = rsum n f := by
  induction n with
  | zero => rfl
  | succ n ih => rw [List.range_succ, List.map_append, List.sum_append, ih]; simp [rsum]
theorem take_rsum (l : List Nat) (a : Nat) (h : a ≤ l.length) : (l.take a).sum = rsum a (fun j => l.getD j 0) := by
  induction a with
  | zero => rfl
  | succ a ih =>
    have hl : a < l.length := by omega
    rw [List.take_succ_eq_append_getElem hl, List.sum_append, ih (by omega)]
    simp [rsum, List.getD_eq_getElem?_getD, hl]
theorem filter_rsum (n : Nat) (p : Nat → Bool) (f : Nat → Nat) : (((List.range n).filter p).map f).sum = rsum n (fun j => if p j = true then f j else 0) := by
  induction n with
  | zero => rfl
  | succ n ih =>
    rw [List.range_succ, List.filter_append, List.map_append, List.sum_append, ih]
    show _ = rsum n _ + _
    by_cases h : p n = true
    · simp [List.filter_cons, h]
    · simp [List.filter_cons, h]
theorem filter_count (n : Nat) (p : Nat → Bool) : ((List.range n).filter p).length = rsum n (fun j => if p j = true then 1 else 0) := by
  induction n with
  | zero => rfl
  | succ n ih =>
    rw [List.range_succ, List.filter_append, List.length_append, ih]
    show _ = rsum n _ + _
    by_cases h : p n = true
    · simp [List.filter_cons, h]
    · simp [List.filter_cons, h]

/-! ### rows -/
def Sorted (l : List Nat) : Prop := l.Pairwise (· ≤ ·)
abbrev Item := Nat × Int
def wts (r : List Item) : List Nat := r.map Prod.fst
def isLeaf (x : Item) : Bool := decide (0 ≤ x.2)
/-- The packages of a row: its items in pairs. -/
def packs : List Item → List Nat
  | a :: b :: r => (a.1 + b.1) :: packs r
  | _ => []
/-- Leaves and packages, a leaf ahead of a package of its weight. -/
def mergeM : List Item → List Nat → List Item
  | L, [] => L
  | [], p :: P => (p, -1) :: mergeM [] P
  | x :: L, p :: P => if x.1 ≤ p then x :: mergeM L (p :: P) else (p, -1) :: mergeM (x :: L) P
termination_by L P => L.length + P.length
def rowM (L : List Item) : Nat → List Item
  | 0 => L
  | k + 1 => mergeM L (packs (rowM L k))

theorem packs_len (r : List Item) : (packs r).length = r.length / 2 := by
  induction r using packs.induct with
  | case1 a b r ih => simp only [packs, List.length_cons, ih]; omega
  | case2 r h => cases r with
    | nil => simp [packs]
    | cons a r => cases r with
      | nil => simp [packs]
      | cons b r => exact absurd rfl (h a b r)
theorem packs_take (r : List Item) (p : Nat) (h : 2 * p ≤ r.length) : ((packs r).take p).sum = (wts (r.take (2 * p))).sum := by
  induction r using packs.induct generalizing p with
  | case1 a b r ih =>
    cases p with
    | zero => rfl
    | succ p =>
      simp only [List.length_cons] at h
      rw [show 2 * (p + 1) = 2 * p + 1 + 1 by omega]
      simp only [packs, List.take_succ_cons, List.sum_cons, wts, List.map_cons]
      rw [ih p (by omega)]
      simp only [wts]; omega
  | case2 r h2 => cases r with
    | nil => simp [packs, wts]
    | cons a r => cases r with
      | nil => simp at h; have : p = 0 := by omega
               subst this; rfl
      | cons b r => exact absurd rfl (h2 a b r)
theorem packs_sorted (r : List Item) (h : Sorted (wts r)) : Sorted (packs r) ∧ ∀ c, (∀ x ∈ wts r, c ≤ x) → ∀ p ∈ packs r, c ≤ p := by
  induction r using packs.induct with
  | case1 a b r ih =>
    simp only [wts, List.map_cons, Sorted, List.pairwise_cons] at h
    obtain ⟨h1, h2, h3⟩ := h
    obtain ⟨i1, i2⟩ := ih h3
    refine ⟨?_, ?_⟩
    · simp only [packs, Sorted, List.pairwise_cons]
      refine ⟨fun p hp => ?_, i1⟩
      have : ∀ (r : List Item) (c : Nat), (∀ x ∈ wts r, c ≤ x) → ∀ p ∈ packs r, c + c ≤ p := by
        intro r
        induction r using packs.induct with
        | case1 a b r ih =>
          intro c hc p hp
          simp only [packs, List.mem_cons] at hp
          simp only [wts, List.map_cons, List.mem_cons] at hc
          have e1 := hc a.1 (.inl rfl)
          have e2 := hc b.1 (.inr (.inl rfl))
          rcases hp with rfl | hp
          · omega
          · exact ih c (fun x hx => hc x (.inr (.inr hx))) p hp
        | case2 r h => intro c _ p hp; cases r with
          | nil => simp [packs] at hp
          | cons a r => cases r with
            | nil => simp [packs] at hp
            | cons b r => exact absurd rfl (h a b r)
      have e := this r b.1 h2 p hp
      have e1 := h1 b.1 (by simp)
      omega
    · intro c hc p hp
      simp only [packs, List.mem_cons] at hp
      rcases hp with rfl | hp
      · have := hc a.1 (by simp [wts]); omega
      · exact i2 c (fun x hx => hc x (by simp [wts] at hx ⊢; exact .inr (.inr hx))) p hp
  | case2 r h2 => cases r with
    | nil => exact ⟨by simp [packs, Sorted], by simp [packs]⟩
    | cons a r => cases r with
      | nil => exact ⟨by simp [packs, Sorted], by simp [packs]⟩
      | cons b r => exact absurd rfl (h2 a b r)

theorem mergeM_len (L : List Item) (P : List Nat) : (mergeM L P).length = L.length + P.length := by
  induction L, P using mergeM.induct with
  | case1 L => simp [mergeM]
  | case2 p P ih => rw [mergeM, List.length_cons, ih]; simp
  | case3 x L p P h ih => rw [mergeM, if_pos h, List.length_cons, ih]; simp; omega
  | case4 x L p P h ih => rw [mergeM, if_neg h, List.length_cons, ih]; simp; omega
theorem mergeM_mem (L : List Item) (P : List Nat) : ∀ y ∈ wts (mergeM L P), y ∈ wts L ∨ y ∈ P := by
  induction L, P using mergeM.induct with
  | case1 L => intro y hy; rw [mergeM] at hy; exact .inl hy
  | case2 p P ih => intro y hy; rw [mergeM] at hy; simp only [wts, List.map_cons, List.mem_cons] at hy ⊢; rcases hy with rfl | hy
                    · exact .inr (.inl rfl)
                    · rcases ih y hy with h | h
                      · exact .inl h
                      · exact .inr (.inr h)
  | case3 x L p P h ih => intro y hy; rw [mergeM, if_pos h] at hy; simp only [wts, List.map_cons, List.mem_cons] at hy ⊢; rcases hy with rfl | hy
                          · exact .inl (.inl rfl)
                          · rcases ih y hy with h | h
                            · exact .inl (.inr h)
                            · exact .inr (by simpa using h)
  | case4 x L p P h ih => intro y hy; rw [mergeM, if_neg h] at hy; simp only [wts, List.map_cons, List.mem_cons] at hy ⊢; rcases hy with rfl | hy
                          · exact .inr (.inl rfl)
                          · rcases ih y hy with h | h
                            · exact .inl (by simpa [wts] using h)
                            · exact .inr (.inr h)
theorem mergeM_sorted (L : List Item) (P : List Nat) (hL : Sorted (wts L)) (hP : Sorted P) : Sorted (wts (mergeM L P)) := by
  induction L, P using mergeM.induct with
  | case1 L => rw [mergeM]; exact hL
  | case2 p P ih =>
    rw [mergeM]
    simp only [Sorted, List.pairwise_cons] at hP
    simp only [wts, List.map_cons, Sorted, List.pairwise_cons]
    refine ⟨fun y hy => ?_, ih hL hP.2⟩
    rcases mergeM_mem [] P y hy with h | h
    · simp [wts] at h
    · exact hP.1 y h
  | case3 x L p P h ih =>
    rw [mergeM, if_pos h]
    have hL' := hL
    simp only [wts, List.map_cons, Sorted, List.pairwise_cons] at hL
    simp only [wts, List.map_cons, Sorted, List.pairwise_cons]
    refine ⟨fun y hy => ?_, ih hL.2 hP⟩
    rcases mergeM_mem L (p :: P) y hy with h1 | h1
    · exact hL.1 y h1
    · simp only [Sorted, List.pairwise_cons] at hP
      rcases List.mem_cons.1 h1 with rfl | h1
      · exact h
      · exact Nat.le_trans h (hP.1 y h1)
  | case4 x L p P h ih =>
    rw [mergeM, if_neg h]
    have hP' := hP
    simp only [Sorted, List.pairwise_cons] at hP
    simp only [wts, List.map_cons, Sorted, List.pairwise_cons]
    refine ⟨fun y hy => ?_, ih hL hP.2⟩
    rcases mergeM_mem (x :: L) P y hy with h1 | h1
    · simp only [wts, List.map_cons, Sorted, List.pairwise_cons] at hL h1
      rcases List.mem_cons.1 h1 with rfl | h1
      · omega
      · have := hL.1 y h1; omega
    · exact hP.1 y h1
theorem rowM_sorted (L : List Item) (hL : Sorted (wts L)) (k : Nat) : Sorted (wts (rowM L k)) := by
  induction k with
  | zero => exact hL
  | succ k ih => exact mergeM_sorted _ _ hL (packs_sorted _ ih).1
theorem rowM_len (L : List Item) (k : Nat) : (rowM L (k + 1)).length = L.length + (rowM L k).length / 2 := by
  show (mergeM L (packs (rowM L k))).length = _
  rw [mergeM_len, packs_len]

/-- How many of the first m items are leaves. -/
def cntL (r : List Item) (m : Nat) : Nat := (r.take m).countP isLeaf
theorem cntL_cons (x : Item) (r : List Item) (m : Nat) : cntL (x :: r) (m + 1) = cntL r m + if isLeaf x = true then 1 else 0 := by
  unfold cntL; rw [List.take_succ_cons, List.countP_cons]
theorem cntL_le (r : List Item) (m : Nat) : cntL r m ≤ m := by
  unfold cntL
  exact Nat.le_trans List.countP_le_length (by rw [List.length_take]; omega)
theorem cntL_all (L : List Item) (hL : ∀ x ∈ L, isLeaf x = true) (m : Nat) (h : m ≤ L.length) : cntL L m = m := by
  unfold cntL
  rw [List.countP_eq_length.2 fun x hx => hL x (List.mem_of_mem_take hx), List.length_take]; omega
theorem pack_leaf (p : Nat) : isLeaf (p, -1) = false := rfl
theorem cntL_leaf {x : Item} (h : isLeaf x = true) (r : List Item) (m : Nat) : cntL (x :: r) (m + 1) = cntL r m + 1 := by rw [cntL_cons, if_pos h]
theorem cntL_pack (p : Nat) (r : List Item) (m : Nat) : cntL ((p, -1) :: r) (m + 1) = cntL r m := by rw [cntL_cons, if_neg (by simp [pack_leaf])]; rfl
theorem filter_pack (p : Nat) (r : List Item) : ((p, (-1 : Int)) :: r).filter isLeaf = r.filter isLeaf := List.filter_cons_of_neg (by simp [pack_leaf])
/-- The first m items of a merged row: the first leaves, and the first packages. -/
theorem mergeM_take (L : List Item) (P : List Nat) (hL : ∀ x ∈ L, isLeaf x = true) (m : Nat) (hm : m ≤ (mergeM L P).length) :
    cntL (mergeM L P) m ≤ L.length ∧ m - cntL (mergeM L P) m ≤ P.length ∧ ((mergeM L P).take m).filter isLeaf = L.take (cntL (mergeM L P) m) ∧
    (wts ((mergeM L P).take m)).sum = (wts (L.take (cntL (mergeM L P) m))).sum + (P.take (m - cntL (mergeM L P) m)).sum := by
  induction L, P using mergeM.induct generalizing m with
  | case1 L =>
    simp only [mergeM] at hm ⊢
    rw [cntL_all L hL m hm]
    refine ⟨hm, by omega, List.filter_eq_self.2 fun x hx => hL x (List.mem_of_mem_take hx), by simp⟩
  | case2 p P ih =>
    cases m with
    | zero => simp [cntL, wts]
    | succ m =>
      rw [mergeM] at hm ⊢
      obtain ⟨i1, i2, i3, i4⟩ := ih hL m (by simpa using hm)
      have hle := cntL_le (mergeM [] P) m
      rw [cntL_pack, List.take_succ_cons, filter_pack, show m + 1 - cntL (mergeM [] P) m = m - cntL (mergeM [] P) m + 1 by omega]
      simp only [wts, List.map_cons, List.take_succ_cons, List.sum_cons, List.length_cons] at i4 ⊢
      exact ⟨i1, by omega, i3, by omega⟩
  | case3 x L p P h ih =>
    cases m with
    | zero => simp [cntL, wts]
    | succ m =>
      rw [mergeM, if_pos h] at hm ⊢
      obtain ⟨i1, i2, i3, i4⟩ := ih (fun y hy => hL y (by simp [hy])) m (by simpa using hm)
      have hx := hL x (by simp)
      rw [cntL_leaf hx, List.take_succ_cons, List.filter_cons_of_pos hx, i3, show m + 1 - (cntL (mergeM L (p :: P)) m + 1) = m - cntL (mergeM L (p :: P)) m by omega]
      simp only [wts, List.map_cons, List.take_succ_cons, List.sum_cons, List.length_cons] at i2 i4 ⊢
      exact ⟨by omega, by omega, trivial, by omega⟩
  | case4 x L p P h ih =>
    cases m with
    | zero => simp [cntL, wts]
    | succ m =>
      rw [mergeM, if_neg h] at hm ⊢
      obtain ⟨i1, i2, i3, i4⟩ := ih hL m (by simpa using hm)
      have hle := cntL_le (mergeM (x :: L) P) m
      rw [cntL_pack, List.take_succ_cons, filter_pack, i3, show m + 1 - cntL (mergeM (x :: L) P) m = m - cntL (mergeM (x :: L) P) m + 1 by omega]
      simp only [wts, List.map_cons, List.take_succ_cons, List.sum_cons, List.length_cons] at i4 ⊢
      exact ⟨i1, by omega, trivial, by omega⟩
/-- A leaf that is not taken is heavier than the last package that is. -/
theorem mergeM_rest (L : List Item) (P : List Nat) (hL : ∀ x ∈ L, isLeaf x = true) (hs : Sorted (wts L)) (m : Nat) (hm : m ≤ (mergeM L P).length) (hp : 0 < m - cntL (mergeM L P) m) :
    ∀ y ∈ wts (L.drop (cntL (mergeM L P) m)), P.getD (m - cntL (mergeM L P) m - 1) 0 < y := by
  induction L, P using mergeM.induct generalizing m with
  | case1 L =>
    simp only [mergeM] at hm hp
    rw [cntL_all L hL m hm] at hp; omega
  | case2 p P ih => intro y hy; simp [wts] at hy
  | case3 x L p P h ih =>
    cases m with
    | zero => simp at hp
    | succ m =>
      rw [mergeM, if_pos h] at hm hp ⊢
      have hx := hL x (by simp)
      rw [cntL_leaf hx] at hp ⊢
      rw [show m + 1 - (cntL (mergeM L (p :: P)) m + 1) = m - cntL (mergeM L (p :: P)) m by omega] at hp ⊢
      simp only [wts, List.map_cons, Sorted, List.pairwise_cons] at hs
      exact ih (fun y hy => hL y (by simp [hy])) hs.2 m (by simpa using hm) hp
  | case4 x L p P h ih =>
    cases m with
    | zero => simp at hp
    | succ m =>
      rw [mergeM, if_neg h] at hm hp ⊢
      have hle := cntL_le (mergeM (x :: L) P) m
      rw [cntL_pack] at hp ⊢
      by_cases h0 : 0 < m - cntL (mergeM (x :: L) P) m
      · have := ih hL hs m (by simpa using hm) h0
        rw [show m + 1 - cntL (mergeM (x :: L) P) m - 1 = (m - cntL (mergeM (x :: L) P) m - 1) + 1 by omega]
        simpa using this
      · rw [show m + 1 - cntL (mergeM (x :: L) P) m - 1 = 0 by omega]
        intro y hy
        have hy2 : y ∈ wts (x :: L) := by
          simp only [wts, List.mem_map] at hy ⊢
          obtain ⟨z, hz, rfl⟩ := hy
          exact ⟨z, List.mem_of_mem_drop hz, rfl⟩
        simp only [wts, List.map_cons, Sorted, List.pairwise_cons, List.mem_cons] at hs hy2
        show p < y
        rcases hy2 with rfl | hy2
        · omega
        · have := hs.1 y hy2; omega

/-! ### the least sum -/
theorem sublist_min (S : List Nat) (hs : Sorted S) : ∀ T : List Nat, T.Sublist S → (S.take T.length).sum ≤ T.sum := by
  induction S with
  | nil => intro T h; rw [List.sublist_nil.1 h]; exact Nat.le_refl _
  | cons x S ih =>
    simp only [Sorted, List.pairwise_cons] at hs
    intro T h
    rcases List.sublist_cons_iff.1 h with h | ⟨T', rfl, h2⟩
    · cases T with
      | nil => simp
      | cons t T' =>
        have i := ih hs.2 T' ((List.sublist_cons_self t T').trans h)
        have := hs.1 t (h.subset (by simp))
        simp only [List.length_cons, List.take_succ_cons, List.sum_cons]
        omega
    · have i := ih hs.2 T' h2
      simp only [List.length_cons, List.take_succ_cons, List.sum_cons]
      omega
theorem take_last (x : Nat) (P : List Nat) (h : Sorted P) (hx : ∀ y ∈ P, x ≤ y) (q : Nat) (hq : q < P.length) : x + (P.take q).sum ≤ (P.take (q + 1)).sum := by
  rw [List.take_succ_eq_append_getElem hq, List.sum_append]
  have := hx P[q] (List.getElem_mem hq)
  simp; omega
theorem merge_min (L : List Item) (P : List Nat) (hL : Sorted (wts L)) (hP : Sorted P) : ∀ T : List Nat, T.Sublist (wts L) → ∀ p, p ≤ P.length → ((wts (mergeM L P)).take (T.length + p)).sum ≤ T.sum + (P.take p).sum := by
  induction L, P using mergeM.induct with
  | case1 L =>
    intro T h p hp
    have : p = 0 := by simpa using hp
    subst this
    rw [mergeM]
    simpa using sublist_min _ hL T h
  | case2 p0 P ih =>
    intro T h p hp
    have hT : T = [] := List.sublist_nil.1 (by simpa [wts] using h)
    subst hT
    simp only [Sorted, List.pairwise_cons] at hP
    cases p with
    | zero => simp
    | succ p =>
      have := ih hL hP.2 [] (List.nil_sublist _) p (by simpa using hp)
      rw [mergeM]
      simp only [List.length_nil, Nat.zero_add, wts, List.map_cons, List.take_succ_cons, List.sum_cons, List.sum_nil] at this ⊢
      omega
  | case3 x L p0 P hx ih =>
    intro T h p hp
    have hL0 := hL
    simp only [wts, List.map_cons, Sorted, List.pairwise_cons] at hL
    have IH := ih hL.2 hP
    rw [mergeM, if_pos hx]
    simp only [wts, List.map_cons] at h
    have hxP : ∀ y ∈ p0 :: P, x.1 ≤ y := by
      simp only [Sorted, List.pairwise_cons] at hP
      intro y hy
      rcases List.mem_cons.1 hy with rfl | hy
      · exact hx
      · exact Nat.le_trans hx (hP.1 y hy)
    rcases List.sublist_cons_iff.1 h with h | ⟨T', rfl, h2⟩
    · cases T with
      | nil =>
        cases p with
        | zero => simp
        | succ q =>
          have i := IH [] (List.nil_sublist _) q (by omega)
          have t := take_last x.1 (p0 :: P) hP hxP q (by omega)
          simp only [List.length_nil, Nat.zero_add, wts, List.map_cons, List.take_succ_cons, List.sum_cons, List.sum_nil] at i t ⊢
          omega
      | cons t T' =>
        have i := IH T' ((List.sublist_cons_self t T').trans h) p hp
        have := hL.1 t (h.subset (by simp))
        rw [show (t :: T').length + p = T'.length + p + 1 by simp; omega]
        simp only [wts, List.map_cons, List.take_succ_cons, List.sum_cons] at i ⊢
        omega
    · have i := IH T' h2 p hp
      rw [show (x.1 :: T').length + p = T'.length + p + 1 by simp; omega]
      simp only [wts, List.map_cons, List.take_succ_cons, List.sum_cons] at i ⊢
      omega
  | case4 x L p0 P hx ih =>
    intro T h p hp
    have hL0 := hL
    simp only [wts, List.map_cons, Sorted, List.pairwise_cons] at hL
    have hP0 := hP
    simp only [Sorted, List.pairwise_cons] at hP
    have IH := ih hL0 hP.2
    rw [mergeM, if_neg hx]
    cases p with
    | zero =>
      cases T with
      | nil => simp
      | cons t T' =>
        have i := IH T' ((List.sublist_cons_self t T').trans h) 0 (Nat.zero_le _)
        have ht : x.1 ≤ t := by
          have := h.subset (show t ∈ t :: T' by simp)
          simp only [wts, List.map_cons, List.mem_cons] at this
          rcases this with rfl | this
          · exact Nat.le_refl _
          · exact hL.1 t this
        simp only [List.length_cons, Nat.add_zero, wts, List.map_cons, List.take_succ_cons, List.sum_cons, List.take_zero, List.sum_nil] at i ⊢
        omega
    | succ q =>
      have i := IH T h q (by simpa using hp)
      rw [← Nat.add_assoc]
      simp only [wts, List.map_cons, List.take_succ_cons, List.sum_cons] at i ⊢
      omega
theorem wts_take (r : List Item) (m : Nat) : wts (r.take m) = (wts r).take m := by simp [wts, List.map_take]
theorem sum_take_mono (l : List Nat) {a b : Nat} (h : a ≤ b) : (l.take a).sum ≤ (l.take b).sum := by
  obtain ⟨c, rfl⟩ : ∃ c, b = a + c := ⟨b - a, by omega⟩
  rw [List.take_add, List.sum_append]; omega

/-! ### what the descent takes -/
theorem rowM_filter (L : List Item) (hL : ∀ x ∈ L, isLeaf x = true) (k m : Nat) (hm : m ≤ (rowM L k).length) : cntL (rowM L k) m ≤ L.length ∧ ((rowM L k).take m).filter isLeaf = L.take (cntL (rowM L k) m) := by
  cases k with
  | zero =>
    show cntL L m ≤ _ ∧ (L.take m).filter isLeaf = L.take (cntL L m)
    rw [cntL_all L hL m hm]
    exact ⟨hm, List.filter_eq_self.2 fun x hx => hL x (List.mem_of_mem_take hx)⟩
  | succ k => have := mergeM_take L (packs (rowM L k)) hL m hm; exact ⟨this.1, this.2.2.1⟩
theorem packs_top (r : List Item) (hs : Sorted (wts r)) (p : Nat) (hp : 0 < p) (h : 2 * p ≤ r.length) : ∀ y ∈ wts (r.take (2 * p)), y ≤ (packs r).getD (p - 1) 0 := by
  induction r using packs.induct generalizing p with
  | case1 a b r ih =>
    simp only [wts, List.map_cons, Sorted, List.pairwise_cons] at hs
    simp only [List.length_cons] at h
    intro y hy
    obtain ⟨q, rfl⟩ : ∃ q, p = q + 1 := ⟨p - 1, by omega⟩
    rw [show 2 * (q + 1) = 2 * q + 1 + 1 by omega] at hy
    simp only [wts, List.take_succ_cons, List.map_cons, List.mem_cons] at hy
    cases q with
    | zero =>
      simp only [Nat.mul_zero, List.take_zero, List.map_nil, List.not_mem_nil, or_false] at hy
      show y ≤ a.1 + b.1
      omega
    | succ q =>
      have hq : q < (packs r).length := by rw [packs_len]; omega
      have hmem : (packs r).getD q 0 ∈ packs r := by
        rw [List.getD_eq_getElem?_getD, List.getElem?_eq_getElem hq]; exact List.getElem_mem hq
      have hb := (packs_sorted r hs.2.2).2 b.1 hs.2.1 _ hmem
      have hab := hs.1 b.1 (by simp)
      have i := ih hs.2.2 (q + 1) (by omega) (by omega)
      show y ≤ (packs r).getD q 0
      rcases hy with rfl | rfl | hy
      · omega
      · exact hb
      · exact i y hy
  | case2 r h2 => cases r with
    | nil => simp at h; omega
    | cons a r => cases r with
      | nil => simp at h; omega
      | cons b r => exact absurd rfl (h2 a b r)
theorem pm_room (L : List Item) (hL : ∀ x ∈ L, isLeaf x = true) (k m : Nat) (hm : m ≤ (rowM L (k + 1)).length) : 2 * (m - cntL (rowM L (k + 1)) m) ≤ (rowM L k).length := by
  have := (mergeM_take L (packs (rowM L k)) hL m hm).2.1
  rw [packs_len] at this
  show 2 * (m - cntL (mergeM L (packs (rowM L k))) m) ≤ _
  omega
theorem pm_nest (L : List Item) (hL : ∀ x ∈ L, isLeaf x = true) (hs : Sorted (wts L)) (k m : Nat) (hm : m ≤ (rowM L (k + 1)).length) :
    cntL (rowM L k) (2 * (m - cntL (rowM L (k + 1)) m)) ≤ cntL (rowM L (k + 1)) m := by
  have hroom := pm_room L hL k m hm
  obtain ⟨a, ha⟩ : ∃ a, a = cntL (rowM L (k + 1)) m := ⟨_, rfl⟩
  rw [← ha] at hroom ⊢
  by_cases hp : 0 < m - a
  · have hrest := mergeM_rest L (packs (rowM L k)) hL hs m hm (by show 0 < m - cntL (rowM L (k + 1)) m; rw [← ha]; exact hp)
    have hrest' : ∀ y ∈ wts (L.drop a), (packs (rowM L k)).getD (m - a - 1) 0 < y := by rw [ha]; exact hrest
    have htop := packs_top (rowM L k) (rowM_sorted L hs k) (m - a) hp hroom
    have hf := rowM_filter L hL k (2 * (m - a)) hroom
    rcases Nat.lt_or_ge a (cntL (rowM L k) (2 * (m - a))) with hlt | hge
    · exfalso
      have haL : a < L.length := by omega
      have hin : L[a] ∈ L.take (cntL (rowM L k) (2 * (m - a))) := List.mem_take_iff_getElem.2 ⟨a, by omega, rfl⟩
      rw [← hf.2, List.mem_filter] at hin
      have h1 := htop L[a].1 (List.mem_map_of_mem hin.1)
      have h2 := hrest' L[a].1 (List.mem_map_of_mem (List.mem_drop_iff_getElem.2 ⟨0, by omega, by simp⟩))
      omega
    · exact hge
  · have : m - a = 0 := by omega
    rw [this]; simp [cntL]

/-- How many of the rows k .. 0 take the leaf at place j, where m items of row k are taken. -/
def lenJ (L : List Item) : Nat → Nat → Nat → Nat
  | 0, m, j => if j < cntL (rowM L 0) m then 1 else 0
  | k + 1, m, j => (if j < cntL (rowM L (k + 1)) m then 1 else 0) + lenJ L k (2 * (m - cntL (rowM L (k + 1)) m)) j
theorem lenJ_le (L : List Item) (k m j : Nat) : lenJ L k m j ≤ k + 1 := by
  induction k generalizing m with
  | zero => unfold lenJ; split <;> omega
  | succ k ih => unfold lenJ; have := ih (2 * (m - cntL (rowM L (k + 1)) m)); split <;> omega
theorem lenJ_zero (L : List Item) (hL : ∀ x ∈ L, isLeaf x = true) (hs : Sorted (wts L)) (k m j : Nat) (hm : m ≤ (rowM L k).length) (hj : cntL (rowM L k) m ≤ j) : lenJ L k m j = 0 := by
  induction k generalizing m with
  | zero => unfold lenJ; rw [if_neg (by omega)]
  | succ k ih =>
    unfold lenJ
    rw [if_neg (by omega), ih _ (pm_room L hL k m hm) (Nat.le_trans (pm_nest L hL hs k m hm) hj)]
theorem lenJ_pos (L : List Item) (k m j : Nat) (hj : j < cntL (rowM L k) m) : 1 ≤ lenJ L k m j := by
  cases k with
  | zero => unfold lenJ; rw [if_pos hj]; omega
  | succ k => unfold lenJ; rw [if_pos hj]; omega
/-- A leaf further ahead is taken by no fewer rows. -/
theorem lenJ_mono (L : List Item) (k m i j : Nat) (h : i ≤ j) : lenJ L k m j ≤ lenJ L k m i := by
  induction k generalizing m with
  | zero => unfold lenJ; split <;> split <;> omega
  | succ k ih => unfold lenJ; have := ih (2 * (m - cntL (rowM L (k + 1)) m)); split <;> split <;> omega
theorem pm_cost (L : List Item) (hL : ∀ x ∈ L, isLeaf x = true) (k m : Nat) (hm : m ≤ (rowM L k).length) :
    rsum L.length (fun j => (wts L).getD j 0 * lenJ L k m j) = (wts ((rowM L k).take m)).sum := by
  have hw : (wts L).length = L.length := by simp [wts]
  have base : ∀ a, a ≤ L.length → rsum L.length (fun j => (wts L).getD j 0 * if j < a then 1 else 0) = (wts (L.take a)).sum := by
    intro a ha
    rw [wts_take, take_rsum _ _ (by omega), ← rsum_if L.length a _ ha]
    exact rsum_congr fun j _ => by split <;> simp
  induction k generalizing m with
  | zero =>
    have hc : cntL (rowM L 0) m = m := cntL_all L hL m hm
    rw [rsum_congr (g := fun j => (wts L).getD j 0 * if j < m then 1 else 0) fun j _ => by unfold lenJ; rw [hc]]
    exact base m hm
  | succ k ih =>
    have ht := mergeM_take L (packs (rowM L k)) hL m hm
    have hroom := pm_room L hL k m hm
    have i := ih _ hroom
    obtain ⟨a, ha⟩ : ∃ a, a = cntL (rowM L (k + 1)) m := ⟨_, rfl⟩
    have e1 : (wts ((rowM L (k + 1)).take m)).sum = (wts (L.take a)).sum + ((packs (rowM L k)).take (m - a)).sum := by rw [ha]; exact ht.2.2.2
    rw [← ha] at hroom i
    rw [e1, packs_take _ _ hroom, ← i, ← base a (by rw [ha]; exact ht.1), ← rsum_add]
    exact rsum_congr fun j _ => by
      show _ * lenJ L (k + 1) m j = _
      rw [lenJ, ← ha, Nat.mul_add]
theorem pm_kraft (L : List Item) (hL : ∀ x ∈ L, isLeaf x = true) (hs : Sorted (wts L)) (k m : Nat) (hm : m ≤ (rowM L k).length) :
    rsum (cntL (rowM L k) m) (fun j => 2 ^ (k + 1 - lenJ L k m j)) + m * 2 ^ k = 2 * cntL (rowM L k) m * 2 ^ k := by
  induction k generalizing m with
  | zero =>
    have hc : cntL (rowM L 0) m = m := cntL_all L hL m hm
    rw [hc, rsum_congr (g := fun _ => 1) fun j hj => by rw [lenJ, hc, if_pos hj], rsum_one]
    omega
  | succ k ih =>
    have hroom := pm_room L hL k m hm
    have hn := pm_nest L hL hs k m hm
    have i := ih _ hroom
    have hle := cntL_le (rowM L (k + 1)) m
    obtain ⟨a, ha⟩ : ∃ a, a = cntL (rowM L (k + 1)) m := ⟨_, rfl⟩
    obtain ⟨c, hc⟩ : ∃ c, c = cntL (rowM L k) (2 * (m - a)) := ⟨_, rfl⟩
    rw [← ha] at hroom hn i hle ⊢
    rw [← hc] at hn i
    obtain ⟨d, rfl⟩ : ∃ d, a = c + d := ⟨a - c, by omega⟩
    rw [rsum_split]
    have e1 : rsum c (fun j => 2 ^ (k + 1 + 1 - lenJ L (k + 1) m j)) = rsum c (fun j => 2 ^ (k + 1 - lenJ L k (2 * (m - (c + d))) j)) :=
      rsum_congr fun j hj => by
        rw [lenJ, ← ha, if_pos (by omega)]
        congr 1; omega
    have e2 : rsum d (fun j => 2 ^ (k + 1 + 1 - lenJ L (k + 1) m (c + j))) = rsum d (fun _ => 2 ^ (k + 1) * 1) :=
      rsum_congr fun j hj => by
        rw [lenJ, ← ha, if_pos (by omega), lenJ_zero L hL hs k _ (c + j) hroom (by omega)]
        simp
    rw [e1, e2, rsum_mul, rsum_one]
    obtain ⟨p, hp⟩ : ∃ p, m = c + d + p := ⟨m - (c + d), by omega⟩
    rw [show m - (c + d) = p by omega] at i ⊢
    rw [hp, Nat.pow_succ]
    generalize 2 ^ k = q at i ⊢
    generalize rsum c (fun j => 2 ^ (k + 1 - lenJ L k (2 * p) j)) = R at i ⊢
    have h1 : (c + d + p) * (q * 2) = c * q * 2 + d * q * 2 + p * q * 2 := by rw [← Nat.mul_assoc, Nat.add_mul, Nat.add_mul, Nat.add_mul, Nat.add_mul]
    have h2 : 2 * (c + d) * (q * 2) = c * q * 4 + d * q * 4 := by
      rw [show 2 * (c + d) * (q * 2) = (c + d) * q * 4 by rw [Nat.mul_comm 2, Nat.mul_assoc, ← Nat.mul_assoc 2 q 2, Nat.mul_comm 2 q, Nat.mul_assoc q 2 2, ← Nat.mul_assoc], Nat.add_mul, Nat.add_mul]
    have h3 : 2 * p * q = p * q * 2 := by rw [Nat.mul_assoc, Nat.mul_comm]
    have h4 : 2 * c * q = c * q * 2 := by rw [Nat.mul_assoc, Nat.mul_comm]
    have h5 : q * 2 * d = d * q * 2 := by rw [Nat.mul_comm, ← Nat.mul_assoc]
    rw [h3, h4] at i
    rw [h1, h2, h5]
    omega
theorem row_most (L : List Item) (k : Nat) : (rowM L k).length ≤ 2 * L.length := by
  induction k with
  | zero => show L.length ≤ _; omega
  | succ k ih => rw [rowM_len]; omega
theorem row_big (L : List Item) (k : Nat) (h : L.length ≤ 2 ^ (k + 1)) : 2 * L.length - 2 ≤ (rowM L k).length := by
  have key : ∀ k, 2 ^ k * (2 * L.length - (rowM L k).length) < L.length + 2 ^ k := by
    intro k
    induction k with
    | zero => show 1 * (2 * L.length - L.length) < _; simp; omega
    | succ k ih =>
      have hm := row_most L k
      have hl := rowM_len L k
      obtain ⟨c, hc⟩ : ∃ c, c = 2 * L.length - (rowM L k).length := ⟨_, rfl⟩
      rw [← hc] at ih
      have e : 2 * L.length - (rowM L (k + 1)).length ≤ (c + 1) / 2 := by omega
      have h1 : 2 ^ (k + 1) * (2 * L.length - (rowM L (k + 1)).length) ≤ 2 ^ (k + 1) * ((c + 1) / 2) := Nat.mul_le_mul_left _ e
      have h2 : 2 ^ (k + 1) * ((c + 1) / 2) ≤ 2 ^ k * (c + 1) := by
        rw [Nat.pow_succ, Nat.mul_assoc]; exact Nat.mul_le_mul_left _ (by omega)
      rw [Nat.mul_add] at h2
      rw [Nat.pow_succ] at h1 h2 ⊢
      omega
  have h0 := key k
  rw [Nat.pow_succ] at h
  rcases Nat.lt_or_ge (2 * L.length - (rowM L k).length) 3 with h3 | h3
  · omega
  · have := Nat.mul_le_mul_left (2 ^ k) h3
    omega
theorem pm_top (L : List Item) (hL : ∀ x ∈ L, isLeaf x = true) (hs : Sorted (wts L)) (h2 : 2 ≤ L.length) (k m : Nat) (hm : m ≤ (rowM L k).length) (h : 2 * L.length - 2 ≤ m) : cntL (rowM L k) m = L.length := by
  have hle := (rowM_filter L hL k m hm).1
  induction k generalizing m with
  | zero =>
    have hc : cntL (rowM L 0) m = m := cntL_all L hL m hm
    have : m ≤ L.length := hm
    rw [hc] at hle ⊢; omega
  | succ k ih =>
    rcases Nat.lt_or_ge (cntL (rowM L (k + 1)) m) L.length with hlt | hge
    · exfalso
      have hroom := pm_room L hL k m hm
      have := ih _ hroom (by omega) (rowM_filter L hL k _ hroom).1
      have hn := pm_nest L hL hs k m hm
      omega
    · omega
/-- The lengths use all codes: their Kraft sum is whole. -/
theorem pm_whole (L : List Item) (hL : ∀ x ∈ L, isLeaf x = true) (hs : Sorted (wts L)) (h2 : 2 ≤ L.length) (k : Nat) (hk : L.length ≤ 2 ^ (k + 1)) :
    rsum L.length (fun j => 2 ^ (k + 1 - lenJ L k (2 * L.length - 2) j)) = 2 ^ (k + 1) := by
  have hm := row_big L k hk
  have ht := pm_top L hL hs h2 k _ hm (Nat.le_refl _)
  have := pm_kraft L hL hs k _ hm
  rw [ht] at this
  rw [Nat.pow_succ]
  have e : 2 * L.length * 2 ^ k = (2 * L.length - 2) * 2 ^ k + 2 * 2 ^ k := by rw [← Nat.add_mul]; congr 1; omega
  omega

/-! ### none need less -/
theorem pm_best (L : List Item) (hL : ∀ x ∈ L, isLeaf x = true) (hs : Sorted (wts L)) (k : Nat) (l : Nat → Nat) (h1 : ∀ j, j < L.length → 1 ≤ l j ∧ l j ≤ k + 1)
    (hK : rsum L.length (fun j => 2 ^ (k + 1 - l j)) ≤ 2 ^ (k + 1)) :
    (wts ((rowM L k).take (2 * L.length - 2))).sum ≤ rsum L.length (fun j => (wts L).getD j 0 * l j) := by
  have hw : (wts L).length = L.length := by simp [wts]
  have hwr : wts L = (List.range L.length).map fun j => (wts L).getD j 0 := by
    apply List.ext_getElem (by simp [hw])
    intro j g1 g2
    simp [List.getD_eq_getElem?_getD, g1]
  -- the leaves that code lengths l take in row i
  let T : Nat → List Nat := fun i => ((List.range L.length).filter fun j => decide (k + 1 ≤ l j + i)).map fun j => (wts L).getD j 0
  have hsub : ∀ i, (T i).Sublist (wts L) := by
    intro i
    rw [hwr]
    exact List.Sublist.map _ List.filter_sublist
  have hTs : ∀ i, (T i).sum = rsum L.length (fun j => if k + 1 ≤ l j + i then (wts L).getD j 0 else 0) := fun i => by
    show (List.map _ _).sum = _
    rw [filter_rsum]; exact rsum_congr fun j _ => by simp
  have hTl : ∀ i, (T i).length = rsum L.length (fun j => if k + 1 ≤ l j + i then 1 else 0) := fun i => by
    show (List.map _ _).length = _
    rw [List.length_map, filter_count]; exact rsum_congr fun j _ => by simp
  have hTn : ∀ i, (T i).length ≤ L.length := fun i => by have := (hsub i).length_le; omega
  -- by rows
  have key : ∀ i, i ≤ k → ∃ M, M ≤ (rowM L i).length ∧ (wts ((rowM L i).take M)).sum ≤ rsum (i + 1) (fun q => (T q).sum) ∧
      2 * (T i).length * 2 ^ i < M * 2 ^ i + rsum L.length (fun j => if k + 1 ≤ l j + i then 2 ^ (k + 1 - l j) else 0) + 2 ^ i := by
    intro i hi
    induction i with
    | zero =>
      refine ⟨(T 0).length, hTn 0, ?_, ?_⟩
      · have := sublist_min (wts L) hs (T 0) (hsub 0)
        show (wts (L.take _)).sum ≤ 0 + (T 0).sum
        rw [wts_take]; omega
      · have e : rsum L.length (fun j => if k + 1 ≤ l j + 0 then 2 ^ (k + 1 - l j) else 0) = (T 0).length := by
          rw [hTl]
          exact rsum_congr fun j hj => by
            have := h1 j hj
            split
            · rw [show k + 1 - l j = 0 by omega]
            · rfl
        rw [e]; simp; omega
    | succ i ih =>
      obtain ⟨M, hM1, hM2, hM3⟩ := ih (by omega)
      refine ⟨(T (i + 1)).length + M / 2, ?_, ?_, ?_⟩
      · rw [rowM_len]; have := hTn (i + 1); omega
      · have hmm := merge_min L (packs (rowM L i)) hs (packs_sorted _ (rowM_sorted L hs i)).1 (T (i + 1)) (hsub _) (M / 2) (by rw [packs_len]; omega)
        rw [packs_take _ _ (by omega)] at hmm
        have hmono := sum_take_mono (wts (rowM L i)) (show 2 * (M / 2) ≤ M by omega)
        rw [wts_take] at hM2 hmm
        show (wts ((mergeM L (packs (rowM L i))).take _)).sum ≤ rsum (i + 1) _ + (T (i + 1)).sum
        rw [wts_take]
        omega
      · have e : rsum L.length (fun j => if k + 1 ≤ l j + (i + 1) then 2 ^ (k + 1 - l j) else 0) + (T i).length * 2 ^ (i + 1) = rsum L.length (fun j => if k + 1 ≤ l j + i then 2 ^ (k + 1 - l j) else 0) + (T (i + 1)).length * 2 ^ (i + 1) := by
          rw [hTl, hTl, Nat.mul_comm _ (2 ^ (i + 1)), Nat.mul_comm _ (2 ^ (i + 1)), ← rsum_mul, ← rsum_mul, ← rsum_add, ← rsum_add]
          refine rsum_congr fun j hj => ?_
          have := h1 j hj
          by_cases c1 : k + 1 ≤ l j + i
          · rw [if_pos c1, if_pos c1, if_pos (show k + 1 ≤ l j + (i + 1) by omega), if_pos (show k + 1 ≤ l j + (i + 1) by omega)]
          · rw [if_neg c1, if_neg c1]
            by_cases c2 : k + 1 ≤ l j + (i + 1)
            · rw [if_pos c2, if_pos c2, show k + 1 - l j = i + 1 by omega]; omega
            · rw [if_neg c2, if_neg c2]
        have hd : M ≤ 2 * (M / 2) + 1 := by omega
        have hd2 := Nat.mul_le_mul_right (2 ^ i) hd
        generalize rsum L.length (fun j => if k + 1 ≤ l j + (i + 1) then 2 ^ (k + 1 - l j) else 0) = A at e ⊢
        generalize rsum L.length (fun j => if k + 1 ≤ l j + i then 2 ^ (k + 1 - l j) else 0) = B at e hM3
        generalize (T i).length = x at e hM3
        generalize (T (i + 1)).length = y at e ⊢
        generalize M / 2 = h at hd hd2 ⊢
        rw [Nat.pow_succ] at e ⊢
        generalize 2 ^ i = q at e hM3 hd2 ⊢
        have g1 : 2 * x * q = x * (q * 2) := by rw [Nat.mul_comm 2 x, Nat.mul_assoc, Nat.mul_comm 2 q]
        have g2 : (2 * h + 1) * q = h * (q * 2) + q := by rw [Nat.add_mul, Nat.mul_comm 2 h, Nat.mul_assoc, Nat.mul_comm 2 q, Nat.one_mul]
        have g3 : 2 * y * (q * 2) = y * (q * 2) + y * (q * 2) := by rw [Nat.mul_assoc, Nat.two_mul]
        have g4 : (y + h) * (q * 2) = y * (q * 2) + h * (q * 2) := Nat.add_mul _ _ _
        rw [g1] at hM3
        rw [g2] at hd2
        rw [g3, g4]
        omega
  obtain ⟨M, hM1, hM2, hM3⟩ := key k (Nat.le_refl _)
  have eall : rsum L.length (fun j => if k + 1 ≤ l j + k then 2 ^ (k + 1 - l j) else 0) = rsum L.length (fun j => 2 ^ (k + 1 - l j)) :=
    rsum_congr fun j hj => by rw [if_pos (by have := h1 j hj; omega)]
  have elen : (T k).length = L.length := by
    rw [hTl, rsum_congr (g := fun _ => 1) fun j hj => by rw [if_pos (by have := h1 j hj; omega)], rsum_one]
  rw [eall, elen] at hM3
  rw [Nat.pow_succ] at hK
  have hMbig : 2 * L.length - 2 ≤ M := by
    rcases Nat.lt_or_ge M (2 * L.length - 2) with hlt | hge
    · exfalso
      have := Nat.mul_le_mul_right (2 ^ k) (show M + 3 ≤ 2 * L.length by omega)
      rw [Nat.add_mul] at this
      omega
    · exact hge
  have hmono := sum_take_mono (wts (rowM L k)) hMbig
  have htot : ∀ i, rsum i (fun q => (T q).sum) = rsum L.length (fun j => (wts L).getD j 0 * (i - (k + 1 - l j))) := by
    intro i
    induction i with
    | zero =>
      have : rsum L.length (fun j => (wts L).getD j 0 * (0 - (k + 1 - l j))) = rsum L.length (fun _ => 0) := rsum_congr fun j _ => by rw [Nat.zero_sub, Nat.mul_zero]
      rw [this, rsum_zero]; rfl
    | succ i ih =>
      show rsum i _ + (T i).sum = _
      rw [ih, hTs, ← rsum_add]
      refine rsum_congr fun j hj => ?_
      have := h1 j hj
      by_cases c : k + 1 ≤ l j + i
      · rw [if_pos c, show i + 1 - (k + 1 - l j) = i - (k + 1 - l j) + 1 by omega, Nat.mul_add, Nat.mul_one]
      · rw [if_neg c, show i + 1 - (k + 1 - l j) = 0 by omega, show i - (k + 1 - l j) = 0 by omega]; simp
  rw [htot] at hM2
  rw [rsum_congr (g := fun j => (wts L).getD j 0 * l j) fun j hj => by have := h1 j hj; rw [show k + 1 - (k + 1 - l j) = l j by omega]] at hM2
  rw [wts_take] at hM2 ⊢
  omega
end Go.Proofs.Ytaaahmfkdiogkaa
namespace Go.Proofs.Ytaaahmfkdiogkaa
set_option linter.unusedVariables false
set_option linter.unusedSimpArgs false
open Go.RowKit

/-- The cells of a row of items. -/
def icells : List Item → List Value
  | [] => []
  | x :: r => .int .i64 (x.1 : Int) :: .int .i64 x.2 :: icells r
theorem icells_len (r : List Item) : (icells r).length = r.length * 2 := by
  induction r with
  | nil => rfl
  | cons x r ih => simp only [icells, List.length_cons, ih]; omega
theorem icells_append (r s : List Item) : icells (r ++ s) = icells r ++ icells s := by
  induction r with
  | nil => rfl
  | cons x r ih => simp [icells, ih]
theorem icells_one (x : Item) : icells [x] = [.int .i64 (x.1 : Int), .int .i64 x.2] := rfl
theorem icells_fst (r : List Item) (j : Nat) (h : j < r.length) : (icells r)[j * 2]? = some (.int .i64 (r[j].1 : Int)) := by
  induction r generalizing j with
  | nil => simp at h
  | cons x r ih =>
    cases j with
    | zero => rfl
    | succ j =>
      rw [show (j + 1) * 2 = j * 2 + 1 + 1 by omega]
      simp only [icells, List.getElem?_cons_succ, List.getElem_cons_succ]
      exact ih j (by simpa using h)
theorem icells_snd (r : List Item) (j : Nat) (h : j < r.length) : (icells r)[j * 2 + 1]? = some (.int .i64 r[j].2) := by
  induction r generalizing j with
  | nil => simp at h
  | cons x r ih =>
    cases j with
    | zero => rfl
    | succ j =>
      rw [show (j + 1) * 2 + 1 = j * 2 + 1 + 1 + 1 by omega]
      simp only [icells, List.getElem?_cons_succ, List.getElem_cons_succ]
      exact ih j (by simpa using h)
theorem icells_set (r : List Item) (j : Nat) (x : Item) : icells (r.set j x) = ((icells r).set (j * 2) (.int .i64 (x.1 : Int))).set (j * 2 + 1) (.int .i64 x.2) := by
  induction r generalizing j with
  | nil => rfl
  | cons y r ih =>
    cases j with
    | zero => rfl
    | succ j =>
      rw [show (j + 1) * 2 = j * 2 + 1 + 1 by omega]
      simp only [List.set_cons_succ, icells]
      rw [ih]
theorem icells_cell1 (r : List Item) : ∀ u ∈ icells r, u.oneCell' = true := by
  induction r with
  | nil => simp [icells]
  | cons x r ih =>
    intro u hu
    simp only [icells, List.mem_cons] at hu
    rcases hu with rfl | rfl | hu
    · rfl
    · rfl
    · exact ih u hu

/-- By weight, and for equal weights by symbol. -/
def lex (a b : Item) : Prop := a.1 < b.1 ∨ (a.1 = b.1 ∧ a.2 < b.2)
def LexS (L : List Item) : Prop := L.Pairwise lex
theorem LexS.sorted {L : List Item} (h : LexS L) : Sorted (wts L) := by
  unfold Sorted wts
  rw [List.pairwise_map]
  exact h.imp fun {a b} hab => by rcases hab with h | h <;> omega
theorem lex_unique {L M : List Item} (h : LexS L) (h' : LexS M) (hp : L.Perm M) : L = M :=
  List.Perm.eq_of_pairwise (le := lex) (fun a b _ _ h1 h2 => by
    rcases h1 with h1 | h1 <;> rcases h2 with h2 | h2 <;> first | omega | (exfalso; omega)) h h' hp
/-- A weight: 1 at least. -/
def wgt (x : Int) : Nat := if x = 0 then 1 else x.toNat
def items (zs : List Int) (k : Nat) : List Item := (List.range k).map fun i => (wgt (zs.getD i 0), (i : Int))
theorem items_succ (zs : List Int) (k : Nat) : items zs (k + 1) = items zs k ++ [(wgt (zs.getD k 0), (k : Int))] := by simp [items, List.range_succ]
theorem items_sym (zs : List Int) (k : Nat) : ∀ x ∈ items zs k, 0 ≤ x.2 ∧ x.2 < k := by
  intro x hx
  simp only [items, List.mem_map, List.mem_range] at hx
  obtain ⟨i, hi, rfl⟩ := hx
  simp; omega
theorem items_len (zs : List Int) (k : Nat) : (items zs k).length = k := by simp [items]
/-- One more symbol, at its place. -/
theorem leaf_in {zs : List Int} {k : Nat} {L : List Item} (hp : L.Perm (items zs k)) (hs : LexS L) (at0 : Nat) (hat : at0 ≤ L.length)
    (hl : ∀ x ∈ L.take at0, x.1 ≤ wgt (zs.getD k 0)) (hr : ∀ x ∈ L.drop at0, wgt (zs.getD k 0) < x.1) :
    (L.take at0 ++ (wgt (zs.getD k 0), (k : Int)) :: L.drop at0).Perm (items zs (k + 1)) ∧ LexS (L.take at0 ++ (wgt (zs.getD k 0), (k : Int)) :: L.drop at0) := by
  constructor
  · rw [items_succ]
    refine List.perm_middle.trans ((List.Perm.cons _ ?_).trans (List.perm_append_singleton _ _).symm)
    rw [List.take_append_drop]; exact hp
  · have hd : LexS (L.drop at0) := List.Pairwise.sublist (List.drop_sublist _ _) hs
    have ht : LexS (L.take at0) := List.Pairwise.sublist (List.take_sublist _ _) hs
    unfold LexS at *
    rw [List.pairwise_append]
    refine ⟨ht, ?_, ?_⟩
    · rw [List.pairwise_cons]
      exact ⟨fun y hy => .inl (hr y hy), hd⟩
    · intro x hx y hy
      have hxs := items_sym zs k x (hp.mem_iff.1 (List.mem_of_mem_take hx))
      rcases List.mem_cons.1 hy with rfl | hy
      · have := hl x hx
        rcases Nat.lt_or_ge x.1 (wgt (zs.getD k 0)) with h | h
        · exact .inl h
        · exact .inr ⟨by show x.1 = wgt _; omega, hxs.2⟩
      · have h1 := hl x hx
        have h2 := hr y hy
        exact .inl (by omega)
end Go.Proofs.Ytaaahmfkdiogkaa
namespace Go.Proofs.Ytaaahmfkdiogkaa
set_option linter.unusedVariables false
set_option linter.unusedSimpArgs false
open Go.RowKit

theorem own_bel {w w' : World} {base : Nat} {e : TypeId} {size : Nat} {v : Value} {n : Nat} {xs : List Value} (h : w.ownsRow base e size v n xs) (hb : Below w.heap.size w w') : w'.ownsRow base e size v n xs :=
  h.kept (row := none) ⟨hb.os, hb.tape, hb.output, hb.size, fun i hi _ => hb.block i hi⟩ (by
    rcases h.2 with ⟨rfl, _⟩ | ⟨g, _, _, rfl, _⟩
    · exact .inl rfl
    · exact .inr (by simp [Value.ownBlock]))
theorem own_shape {w : World} {base size n : Nat} {e : TypeId} {v : Value} {xs : List Value} (h : w.ownsRow base e size v n xs) : ∃ a c, v = .slice a n c := by
  rcases h.2 with ⟨rfl, rfl⟩ | ⟨g, cap, cur, rfl, _⟩
  · exact ⟨none, 0, rfl⟩
  · exact ⟨_, cap, rfl⟩
def natsL (D : List Nat) : List Value := D.map fun (x : Nat) => Value.int .i64 (x : Int)
theorem natsL_len (D : List Nat) : (natsL D).length = D.length := by simp [natsL]
theorem natsL_get (D : List Nat) (j : Nat) (h : j < D.length) : (natsL D)[j]? = some (.int .i64 (D[j] : Int)) := by simp [natsL, h]
theorem natsL_append (D E : List Nat) : natsL (D ++ E) = natsL D ++ natsL E := by simp [natsL]
theorem natsL_one (D : List Nat) : ∀ u ∈ natsL D, u.oneCell' = true := by
  intro u hu
  simp only [natsL, List.mem_map] at hu
  obtain ⟨x, _, rfl⟩ := hu
  rfl
theorem own_neq {w : World} {base size n g m c : Nat} {e : TypeId} {v : Value} {xs : List Value} (h : w.ownsRow base e size v n xs) (hg : g < base) : Value.ownBlock (.slice (some ⟨g, 0, none⟩) m c) ≠ v.ownBlock := by
  intro he
  have := (h.lt g (by rw [← he]; rfl)).1
  omega
theorem natsL_take {w : World} {base g n c : Nat} {E : TypeId} {D : List Nat} (h : w.ownsRow base E 1 (.slice (some ⟨g, 0, none⟩) n c) n (natsL D)) (k : Nat) : ∀ (j : Nat) (u : Value), (natsL (D.take k))[j]? = some u → w.cell? ((⟨g, 0, none⟩ : Addr).add j) = some u := by
  intro j u hu
  refine h.cells (g := g) rfl j u ?_
  simp only [natsL, List.map_take, List.getElem?_take] at hu ⊢
  split at hu
  · exact hu
  · cases hu
theorem natsL_drop {w : World} {base g n c : Nat} {E : TypeId} {D : List Nat} (h : w.ownsRow base E 1 (.slice (some ⟨g, 0, none⟩) n c) n (natsL D)) (k : Nat) : ∀ (j : Nat) (u : Value), (natsL (D.drop k))[j]? = some u → w.cell? ((⟨g, k, none⟩ : Addr).add j) = some u := by
  intro j u hu
  have e : (⟨g, k, none⟩ : Addr).add j = ⟨g, k + j, none⟩ := by unfold Addr.add; split <;> simp_all
  have hu2 : (natsL D)[k + j]? = some u := by
    simp only [natsL, List.map_drop, List.getElem?_drop] at hu ⊢; exact hu
  have hl := h.1
  have hj : k + j < n * 1 := by rw [← hl]; exact (List.getElem?_eq_some_iff.1 hu2).1
  rw [e, h.cellAt _ hj, hu2]
def nats (n : Nat) (f : Nat → Nat) : List Value := (List.range n).map fun s => Value.int .i64 (f s : Int)
theorem nats_len (n : Nat) (f : Nat → Nat) : (nats n f).length = n := by simp [nats]
theorem nats_get (n : Nat) (f : Nat → Nat) (s : Nat) (h : s < n) : (nats n f)[s]? = some (.int .i64 (f s : Int)) := by simp [nats, h]
theorem nats_set (n : Nat) (f : Nat → Nat) (s : Nat) (x : Nat) : (nats n f).set s (.int .i64 (x : Int)) = nats n (fun t => if t = s then x else f t) := by
  apply List.ext_getElem (by simp [nats])
  intro i h1 h2
  by_cases e : s = i
  · subst e; simp [nats]
  · have : ¬ i = s := fun h => e h.symm
    simp [nats, List.getElem_set, e, this]
theorem nats_congr {n : Nat} {f g : Nat → Nat} (h : ∀ s, s < n → f s = g s) : nats n f = nats n g := by
  unfold nats
  exact List.map_congr_left fun s hs => by rw [h s (List.mem_range.1 hs)]
theorem Try.infoInt : (Try.prog.info? 3).map (fun i => (i.zero, i.size, i.bytes)) = some (some (.int .i64 0), 1, 8) := by kernel_rfl
theorem own_types {w : World} {b1 b2 s1 s2 n1 n2 g : Nat} {e1 e2 : TypeId} {v1 v2 : Value} {xs ys : List Value} (h : w.ownsRow b1 e1 s1 v1 n1 xs) (h' : w.ownsRow b2 e2 s2 v2 n2 ys) (hne : e1 ≠ e2) (hg : v1.ownBlock = some g) : v2.ownBlock ≠ some g := by
  intro he
  rcases h.2 with ⟨rfl, _⟩ | ⟨ga, _, ca, rfl, _, ha, _⟩
  · cases hg
  · rcases h'.2 with ⟨rfl, _⟩ | ⟨gb, _, cb, rfl, _, hb, _⟩
    · cases he
    · simp only [Value.ownBlock, Option.some.injEq] at hg he
      subst hg he
      rw [ha] at hb
      injection hb with hb
      injection hb with _ h2
      exact hne h2
theorem made_nats (n : Nat) : (madeCells #[Value.int .i64 0] n).toList = nats n (fun _ => 0) := by
  rw [toList_madeCells_one]
  apply List.ext_getElem (by simp [nats])
  intro i h1 h2
  simp [nats]
theorem cell_one (w : World) (u : Value) (T : TypeId) : ∀ (j : Nat) (v : Value), [u][j]? = some v → (w.alloc (.cells #[u] T)).cell? ((⟨w.heap.size, 0, none⟩ : Addr).add j) = some v := by
  intro j v hv
  have hj : j = 0 := by
    have := (List.getElem?_eq_some_iff.1 hv).1
    simpa using this
  subst hj
  have := (Has.fresh w T #[u]).cell 0
  have e : (⟨w.heap.size, 0, none⟩ : Addr).add 0 = ⟨w.heap.size, 0, none⟩ := by simp [Addr.add]
  rw [e, this]
  simpa using hv
theorem natsL_nats (L : List Nat) : natsL L = nats L.length (fun s => L.getD s 0) := by
  apply List.ext_getElem (by simp [natsL, nats])
  intro i h1 h2
  have h : i < L.length := by simpa [natsL] using h1
  simp [natsL, nats, List.getD_eq_getElem?_getD, h]
theorem own_away {w : World} {base n S : Nat} {E : TypeId} {v : Value} {xs : List Value} (h : w.ownsRow base E S v n xs) {p : Addr} (hp : p.block < base) (u : Value) : (w.setCell p u).ownsRow base E S v n xs :=
  h.kept ((Only.refl p.block w).store (.inl rfl) u) (.inr (fun he => by have := (h.lt _ he).1; omega))
end Go.Proofs.Ytaaahmfkdiogkaa
namespace Go.Proofs.Ytaaahmfkdiogkaa
set_option linter.unusedVariables false
set_option linter.unusedSimpArgs false

theorem perm_sum {l m : List Nat} (h : l.Perm m) : l.sum = m.sum := by
  induction h with
  | nil => rfl
  | cons x _ ih => simp [ih]
  | swap x y l => simp; omega
  | trans _ _ a b => exact a.trans b
/-- Weights with their lengths. -/
abbrev WL := Nat × Nat
def costP (P : List WL) : Nat := (P.map fun z => z.1 * z.2).sum
def krP (D : Nat) (P : List WL) : Nat := (P.map fun z => 2 ^ (D - z.2)).sum
theorem costP_perm {P Q : List WL} (h : P.Perm Q) : costP P = costP Q := perm_sum (h.map _)
theorem krP_perm {D : Nat} {P Q : List WL} (h : P.Perm Q) : krP D P = krP D Q := perm_sum (h.map _)
theorem krP_snd (D : Nat) {P Q : List WL} (h : (P.map Prod.snd).Perm (Q.map Prod.snd)) : krP D P = krP D Q := by
  have := perm_sum (h.map fun l => 2 ^ (D - l))
  simpa [krP, Function.comp_def] using this
/-- Pairs by their weights: one is taken out. -/
theorem take_out {P : List WL} {x : Nat} {l : List Nat} (h : (P.map Prod.fst).Perm (x :: l)) : ∃ a R, P.Perm ((x, a) :: R) ∧ (R.map Prod.fst).Perm l := by
  have hx : x ∈ P.map Prod.fst := h.mem_iff.2 (by simp)
  rw [List.mem_map] at hx
  obtain ⟨⟨x', a⟩, hm, rfl⟩ := hx
  obtain ⟨P1, P2, rfl⟩ := List.append_of_mem hm
  refine ⟨a, P1 ++ P2, List.perm_middle, ?_⟩
  have h2 : (((x', a) :: (P1 ++ P2)).map Prod.fst).Perm (x' :: l) := (List.perm_middle.symm.map Prod.fst).trans h
  rw [List.map_cons] at h2
  exact List.Perm.cons_inv h2
/-- .. and all brought into the order of the weights. -/
theorem line_up {l : List Nat} : ∀ {P : List WL}, (P.map Prod.fst).Perm l → ∃ Q : List WL, Q.Perm P ∧ Q.map Prod.fst = l := by
  induction l with
  | nil => intro P h; exact ⟨[], by have := h.eq_nil; rw [List.map_eq_nil_iff] at this; rw [this], rfl⟩
  | cons x l ih =>
    intro P h
    obtain ⟨a, R, hP, hR⟩ := take_out h
    obtain ⟨Q, hQ, e⟩ := ih hR
    exact ⟨(x, a) :: Q, (hQ.cons _).trans hP.symm, by simp [e]⟩

/-- The sums of two least weights, till one is left. -/
inductive Huff : List Nat → Nat → Prop
  | one (x : Nat) : Huff [x] 0
  | two (l : List Nat) (x y : Nat) (r r' : List Nat) (c : Nat) (hl : l.Perm (x :: y :: r)) (hx : ∀ z ∈ y :: r, x ≤ z) (hy : ∀ z ∈ r, y ≤ z) (hr : r'.Perm ((x + y) :: r)) (h : Huff r' c) : Huff l (x + y + c)

theorem swap_in (x a M : Nat) (Q : List WL) (hx : ∀ z ∈ Q, x ≤ z.1) (hM : ∀ z ∈ (x, a) :: Q, z.2 ≤ M) (hin : ∃ z ∈ (x, a) :: Q, z.2 = M) :
    ∃ Q', Q'.map Prod.fst = Q.map Prod.fst ∧ costP ((x, M) :: Q') ≤ costP ((x, a) :: Q) ∧ (M :: Q'.map Prod.snd).Perm (a :: Q.map Prod.snd) := by
  by_cases ha : a = M
  · subst ha; exact ⟨Q, rfl, Nat.le_refl _, List.Perm.refl _⟩
  · obtain ⟨z, hz, hzM⟩ := hin
    rcases List.mem_cons.1 hz with rfl | hz
    · exact absurd hzM ha
    · obtain ⟨w, m⟩ := z
      simp only at hzM
      subst hzM
      have hxw := hx _ hz
      have ham := hM (x, a) (by simp)
      simp only at hxw ham
      obtain ⟨Q1, Q2, rfl⟩ := List.append_of_mem hz
      refine ⟨Q1 ++ (w, a) :: Q2, by simp, ?_, ?_⟩
      · simp only [costP, List.map_cons, List.map_append, List.sum_cons, List.sum_append]
        obtain ⟨d, rfl⟩ : ∃ d, w = x + d := ⟨w - x, by omega⟩
        obtain ⟨e, rfl⟩ : ∃ e, m = a + e := ⟨m - a, by omega⟩
        have h1 : x * (a + e) = x * a + x * e := Nat.mul_add _ _ _
        have h2 : (x + d) * a = x * a + d * a := Nat.add_mul _ _ _
        have h3 : (x + d) * (a + e) = x * a + x * e + (d * a + d * e) := by rw [Nat.add_mul, Nat.mul_add, Nat.mul_add]
        rw [h1, h2, h3]; omega
      · simp only [List.map_append, List.map_cons]
        have e1 : (m :: (Q1.map Prod.snd ++ a :: Q2.map Prod.snd)).Perm (m :: a :: (Q1.map Prod.snd ++ Q2.map Prod.snd)) := List.perm_middle.cons _
        have e2 : (a :: (Q1.map Prod.snd ++ m :: Q2.map Prod.snd)).Perm (a :: m :: (Q1.map Prod.snd ++ Q2.map Prod.snd)) := List.perm_middle.cons _
        exact e1.trans ((List.Perm.swap a m _).trans e2.symm)
theorem kr_dvd (D M : Nat) (hM : M ≤ D) (Q : List WL) (h : ∀ z ∈ Q, z.2 < M) : 2 ^ (D - M + 1) ∣ krP D Q := by
  induction Q with
  | nil => exact Nat.dvd_zero _
  | cons z Q ih =>
    have hz := h z (by simp)
    have : krP D (z :: Q) = 2 ^ (D - z.2) + krP D Q := by simp [krP]
    rw [this]
    exact Nat.dvd_add (Nat.pow_dvd_pow 2 (by omega)) (ih fun y hy => h y (by simp [hy]))
theorem max_in (P : List WL) (h : P ≠ []) : ∃ M, (∀ z ∈ P, z.2 ≤ M) ∧ ∃ z ∈ P, z.2 = M := by
  induction P with
  | nil => exact absurd rfl h
  | cons z P ih =>
    by_cases hP : P = []
    · subst hP; exact ⟨z.2, by simp, z, by simp, rfl⟩
    · obtain ⟨M, h1, y, hy, he⟩ := ih hP
      by_cases hc : z.2 ≤ M
      · refine ⟨M, fun u hu => ?_, y, by simp [hy], he⟩
        rcases List.mem_cons.1 hu with rfl | hu
        · exact hc
        · exact h1 u hu
      · refine ⟨z.2, fun u hu => ?_, z, by simp, rfl⟩
        rcases List.mem_cons.1 hu with rfl | hu
        · exact Nat.le_refl _
        · have := h1 u hu; omega
theorem huff_low {l : List Nat} {c : Nat} (hh : Huff l c) : ∀ (P : List WL) (D : Nat), (P.map Prod.fst).Perm l → (∀ z ∈ P, z.2 ≤ D) → krP D P = 2 ^ D → c ≤ costP P := by
  induction hh with
  | one x => intro P D _ _ _; exact Nat.zero_le _
  | two l x y r r' c hl hx hy hr h ih =>
    intro P D hP hD hK
    obtain ⟨a, R1, h1, hR1⟩ := take_out (hP.trans hl)
    obtain ⟨b, R, h2, hR⟩ := take_out hR1
    have hp : P.Perm ((x, a) :: (y, b) :: R) := h1.trans (h2.cons _)
    rw [costP_perm hp]
    rw [krP_perm hp] at hK
    have hD2 : ∀ z ∈ (x, a) :: (y, b) :: R, z.2 ≤ D := fun z hz => hD z (hp.mem_iff.2 hz)
    have hRw : ∀ z ∈ R, z.1 ∈ r := fun z hz => hR.mem_iff.1 (List.mem_map_of_mem hz)
    have hxQ : ∀ z ∈ (y, b) :: R, x ≤ z.1 := by
      intro z hz
      rcases List.mem_cons.1 hz with rfl | hz
      · exact hx y (by simp)
      · exact hx z.1 (by simp [hRw z hz])
    have hyQ : ∀ z ∈ R, y ≤ z.1 := fun z hz => hy z.1 (hRw z hz)
    clear hP hl h1 h2 hR1 hp hD
    obtain ⟨M, hM, hMin⟩ := max_in ((x, a) :: (y, b) :: R) (by simp)
    have hMD : M ≤ D := by obtain ⟨z, hz, rfl⟩ := hMin; exact hD2 z hz
    obtain ⟨Q', e1, c1, p1⟩ := swap_in x a M _ hxQ hM hMin
    obtain ⟨b', R', rfl⟩ : ∃ b' R', Q' = (y, b') :: R' := by
      cases Q' with
      | nil => simp at e1
      | cons q Q' => obtain ⟨q1, q2⟩ := q; simp only [List.map_cons, List.cons.injEq] at e1; exact ⟨q2, Q', by rw [e1.1]⟩
    simp only [List.map_cons, List.cons.injEq, true_and] at e1
    have hlen : ∀ u ∈ M :: b' :: R'.map Prod.snd, u ≤ M := by
      intro u hu
      have hu2 := (p1.mem_iff (a := u)).1 (by simpa using hu)
      have : u ∈ ((x, a) :: (y, b) :: R).map Prod.snd := by simpa using hu2
      rw [List.mem_map] at this
      obtain ⟨z, hz, rfl⟩ := this
      exact hM z hz
    have hK1 : krP D ((x, M) :: (y, b') :: R') = 2 ^ D := by rw [← hK]; exact krP_snd D (by simpa using p1)
    -- a second one of the greatest length
    have hM1 : 1 ≤ M := by
      rcases Nat.eq_zero_or_pos M with h0 | h0
      · exfalso
        have hb := hlen b' (by simp)
        have : krP D ((x, M) :: (y, b') :: R') = 2 ^ (D - M) + (2 ^ (D - b') + krP D R') := by simp [krP]
        rw [this, show b' = 0 by omega, h0] at hK1
        have := Nat.two_pow_pos (D - 0)
        simp only [Nat.sub_zero] at hK1 this
        omega
      · exact h0
    have hin2 : ∃ z ∈ (y, b') :: R', z.2 = M := by
      apply Classical.byContradiction
      intro hno
      have hlt : ∀ z ∈ (y, b') :: R', z.2 < M := by
        intro z hz
        have h3 : z.2 ≤ M := hlen z.2 (by
          have : z.2 ∈ ((y, b') :: R').map Prod.snd := List.mem_map_of_mem hz
          simp only [List.map_cons] at this
          exact List.mem_cons_of_mem _ this)
        have h4 : z.2 ≠ M := fun e => hno ⟨z, hz, e⟩
        omega
      have hd := kr_dvd D M hMD _ hlt
      have hd2 : 2 ^ (D - M + 1) ∣ 2 ^ D := Nat.pow_dvd_pow 2 (by omega)
      have e : krP D ((x, M) :: (y, b') :: R') = 2 ^ (D - M) + krP D ((y, b') :: R') := by simp [krP]
      rw [e] at hK1
      have hd3 : 2 ^ (D - M + 1) ∣ 2 ^ (D - M) := by
        rw [← hK1] at hd2
        exact (Nat.dvd_add_left hd).1 hd2
      have := Nat.le_of_dvd (Nat.two_pow_pos _) hd3
      rw [Nat.pow_succ] at this
      have := Nat.two_pow_pos (D - M)
      omega
    have hyR' : ∀ z ∈ R', y ≤ z.1 := by
      intro z hz
      have : z.1 ∈ R.map Prod.fst := by rw [← e1]; exact List.mem_map_of_mem hz
      rw [List.mem_map] at this
      obtain ⟨u, hu, he⟩ := this
      rw [← he]; exact hyQ u hu
    have hM2 : ∀ z ∈ (y, b') :: R', z.2 ≤ M := by
      intro z hz
      refine hlen z.2 ?_
      have : z.2 ∈ ((y, b') :: R').map Prod.snd := List.mem_map_of_mem hz
      simp only [List.map_cons] at this
      exact List.mem_cons_of_mem _ this
    obtain ⟨R'', e2, c2, p2⟩ := swap_in y b' M R' hyR' hM2 hin2
    have hK2 : krP D ((x, M) :: (y, M) :: R'') = 2 ^ D := by
      rw [← hK1]
      exact krP_snd D (by simpa using p2)
    have e3 : krP D ((x + y, M - 1) :: R'') = 2 ^ D := by
      rw [← hK2]
      simp only [krP, List.map_cons, List.sum_cons]
      rw [show D - (M - 1) = D - M + 1 by omega, Nat.pow_succ]
      omega
    have hfst : (((x + y, M - 1) :: R'').map Prod.fst).Perm r' := by
      simp only [List.map_cons]
      rw [e2, e1]
      exact (hR.cons _).trans hr.symm
    have hDD : ∀ z ∈ (x + y, M - 1) :: R'', z.2 ≤ D := by
      intro z hz
      rcases List.mem_cons.1 hz with rfl | hz
      · show M - 1 ≤ D; omega
      · have h5 : z.2 ∈ M :: R''.map Prod.snd := List.mem_cons_of_mem _ (List.mem_map_of_mem hz)
        have h6 : z.2 ∈ b' :: R'.map Prod.snd := p2.mem_iff.1 h5
        have := hlen z.2 (List.mem_cons_of_mem _ h6)
        omega
    have i := ih _ D hfst hDD e3
    have f1 : costP ((x, M) :: (y, b') :: R') = x * M + costP ((y, b') :: R') := by simp [costP]
    have f2 : costP ((y, M) :: R'') = y * M + costP R'' := by simp [costP]
    have f3 : costP ((x + y, M - 1) :: R'') = (x + y) * (M - 1) + costP R'' := by simp [costP]
    rw [f3] at i
    rw [f1] at c1
    rw [f2] at c2
    obtain ⟨N, rfl⟩ : ∃ N, M = N + 1 := ⟨M - 1, by omega⟩
    have g1 : x * (N + 1) = x * N + x := Nat.mul_succ _ _
    have g2 : y * (N + 1) = y * N + y := Nat.mul_succ _ _
    have g3 : (x + y) * (N + 1 - 1) = x * N + y * N := by rw [Nat.add_sub_cancel, Nat.add_mul]
    rw [g3] at i
    rw [g1] at c1
    rw [g2] at c2
    omega
theorem huff_len {l : List Nat} {c : Nat} (hh : Huff l c) : 1 ≤ l.length := by
  induction hh with
  | one x => simp
  | two l x y r r' c hl hx hy hr h ih => rw [hl.length_eq]; simp
theorem kr_double (D : Nat) (Q : List WL) (h : ∀ z ∈ Q, z.2 ≤ D) : krP (D + 1) Q = 2 * krP D Q := by
  induction Q with
  | nil => rfl
  | cons z Q ih =>
    have hz := h z (by simp)
    simp only [krP, List.map_cons, List.sum_cons] at ih ⊢
    rw [ih fun y hy => h y (by simp [hy]), show D + 1 - z.2 = D - z.2 + 1 by omega, Nat.pow_succ]
    omega
theorem huff_up {l : List Nat} {c : Nat} (hh : Huff l c) : ∃ P : List WL, P.map Prod.fst = l ∧ (∀ z ∈ P, z.2 ≤ l.length - 1) ∧ (2 ≤ l.length → ∀ z ∈ P, 1 ≤ z.2) ∧ krP (l.length - 1) P = 2 ^ (l.length - 1) ∧ costP P = c := by
  induction hh with
  | one x => exact ⟨[(x, 0)], by simp, by simp, by simp, by simp [krP], by simp [costP]⟩
  | two l x y r r' c hl hx hy hr h ih =>
    obtain ⟨P, e, hb, h1, hk, hc⟩ := ih
    obtain ⟨Q, hQ, eQ⟩ := line_up (P := P) (l := (x + y) :: r) (by rw [e]; exact hr)
    obtain ⟨d, R, rfl⟩ : ∃ d R, Q = (x + y, d) :: R := by
      cases Q with
      | nil => simp at eQ
      | cons q Q => obtain ⟨q1, q2⟩ := q; simp only [List.map_cons, List.cons.injEq] at eQ; exact ⟨q2, Q, by rw [eQ.1]⟩
    simp only [List.map_cons, List.cons.injEq, true_and] at eQ
    have hlen : r'.length = r.length + 1 := by rw [hr.length_eq]; simp
    have hlen2 : l.length = r.length + 2 := by rw [hl.length_eq]; simp
    rw [hlen, Nat.add_sub_cancel] at hb hk
    have hbQ : ∀ z ∈ (x + y, d) :: R, z.2 ≤ r.length := fun z hz => hb z (hQ.mem_iff.1 hz)
    have hkQ : krP r.length ((x + y, d) :: R) = 2 ^ r.length := by rw [krP_perm hQ]; exact hk
    have hcQ : costP ((x + y, d) :: R) = c := by rw [costP_perm hQ]; exact hc
    obtain ⟨S, hS, eS⟩ := line_up (P := (x, d + 1) :: (y, d + 1) :: R) (l := l) (by simp only [List.map_cons]; rw [eQ]; exact hl.symm)
    have hd := hbQ (x + y, d) (by simp)
    simp only at hd
    refine ⟨S, eS, ?_, ?_, ?_, ?_⟩
    · intro z hz
      have := hS.mem_iff.1 hz
      simp only [List.mem_cons] at this
      rw [hlen2]
      rcases this with rfl | rfl | h3
      · show d + 1 ≤ _; omega
      · show d + 1 ≤ _; omega
      · have := hbQ z (by simp [h3]); omega
    · intro _ z hz
      have := hS.mem_iff.1 hz
      simp only [List.mem_cons] at this
      rcases this with rfl | rfl | h3
      · show 1 ≤ d + 1; omega
      · show 1 ≤ d + 1; omega
      · have hR : 1 ≤ R.length := by cases R with
          | nil => simp at h3
          | cons _ _ => simp
        have : 1 ≤ r.length := by rw [← eQ]; simpa using hR
        exact h1 (by omega) z (hQ.mem_iff.1 (by simp [h3]))
    · rw [krP_perm hS, hlen2, show r.length + 2 - 1 = r.length + 1 by omega]
      have e1 : krP (r.length + 1) ((x, d + 1) :: (y, d + 1) :: R) = 2 ^ (r.length + 1 - (d + 1)) + (2 ^ (r.length + 1 - (d + 1)) + krP (r.length + 1) R) := by simp [krP]
      have e2 : krP r.length ((x + y, d) :: R) = 2 ^ (r.length - d) + krP r.length R := by simp [krP]
      rw [e1, kr_double _ _ fun z hz => hbQ z (by simp [hz]), show r.length + 1 - (d + 1) = r.length - d by omega, Nat.pow_succ]
      rw [e2] at hkQ
      omega
    · rw [costP_perm hS]
      have e1 : costP ((x, d + 1) :: (y, d + 1) :: R) = x * (d + 1) + (y * (d + 1) + costP R) := by simp [costP]
      have e2 : costP ((x + y, d) :: R) = (x + y) * d + costP R := by simp [costP]
      rw [e1]
      rw [e2, Nat.add_mul] at hcQ
      rw [Nat.mul_succ, Nat.mul_succ]
      omega
/-- Whichever way the two least are chosen, the sum is one. -/
theorem huff_same {l l' : List Nat} {c c' : Nat} (h : Huff l c) (h' : Huff l' c') (hp : l.Perm l') : c = c' := by
  obtain ⟨P, e, hb, _, hk, hc⟩ := huff_up h
  obtain ⟨P', e', hb', _, hk', hc'⟩ := huff_up h'
  have a := huff_low h P' _ (by rw [e']; exact hp.symm) hb' hk'
  have b := huff_low h' P _ (by rw [e]; exact hp) hb hk
  omega
end Go.Proofs.Ytaaahmfkdiogkaa
namespace Go.Proofs.Ytaaahmfkdiogkaa
set_option linter.unusedVariables false
set_option linter.unusedSimpArgs false
open Go.RowKit

def wl (zs : List Int) (k : Nat) : List Nat := (List.range k).map fun i => wgt (zs.getD i 0)
theorem wl_succ (zs : List Int) (k : Nat) : wl zs (k + 1) = wl zs k ++ [wgt (zs.getD k 0)] := by simp [wl, List.range_succ]
theorem wl_len (zs : List Int) (k : Nat) : (wl zs k).length = k := by simp [wl]
theorem take_out_perm (D : List Nat) (k x : Nat) (h : D[k]? = some x) : D.Perm (x :: (D.take k ++ D.drop (k + 1))) := by
  obtain ⟨hk, he⟩ := List.getElem?_eq_some_iff.1 h
  have : D = D.take k ++ x :: D.drop (k + 1) := by
    rw [← he, List.getElem_cons_drop, List.take_append_drop]
  exact (List.Perm.of_eq this).trans List.perm_middle
theorem huff_step {D D1 D2 : List Nat} {x y c : Nat} (h1 : D.Perm (x :: D1)) (hx : ∀ z ∈ D, x ≤ z) (h2 : D1.Perm (y :: D2)) (hy : ∀ z ∈ D1, y ≤ z) (h : Huff (D2 ++ [x + y]) c) : Huff D (x + y + c) :=
  Huff.two D x y D2 (D2 ++ [x + y]) c (h1.trans (h2.cons _)) (fun z hz => hx z (h1.mem_iff.2 (List.mem_cons_of_mem _ (h2.mem_iff.2 hz)))) (fun z hz => hy z (h2.mem_iff.2 (List.mem_cons_of_mem _ hz))) (List.perm_append_singleton _ _) h
/-- What HuffCost answers for valid frequencies. -/
def HuffIs (zs : List Int) (c : Nat) : Prop := (zs.length = 1 → c = wgt (zs.getD 0 0)) ∧ (2 ≤ zs.length → Huff (wl zs zs.length) c) ∧ c ≤ 70000000000
end Go.Proofs.Ytaaahmfkdiogkaa
namespace Go.Proofs.Ytaaahmfkdiogkaa
set_option linter.unusedVariables false
set_option linter.unusedSimpArgs false

/-! ### lengths l 0 .. l (n-1), each 1 .. 20 -/
def bef (l : Nat → Nat) (t s : Nat) : Bool := decide (l t < l s ∨ (l t = l s ∧ t < s))
theorem bef_iff (l : Nat → Nat) (t s : Nat) : bef l t s = true ↔ l t < l s ∨ (l t = l s ∧ t < s) := by simp [bef]
/-- What the codes ahead of s take of all. -/
def kBef (n : Nat) (l : Nat → Nat) (s : Nat) : Nat := rsum n fun t => if bef l t s = true then 2 ^ (20 - l t) else 0
def codeN (n : Nat) (l : Nat → Nat) (s : Nat) : Nat := kBef n l s / 2 ^ (20 - l s)
theorem rsum_dvd {n d : Nat} {f : Nat → Nat} (h : ∀ t, t < n → d ∣ f t) : d ∣ rsum n f := by
  induction n with
  | zero => exact Nat.dvd_zero _
  | succ n ih => exact Nat.dvd_add (ih fun t ht => h t (by omega)) (h n (by omega))
theorem kBef_dvd (n : Nat) (l : Nat → Nat) (s : Nat) : 2 ^ (20 - l s) ∣ kBef n l s := by
  refine rsum_dvd fun t ht => ?_
  by_cases h : bef l t s = true
  · rw [if_pos h]
    have := (bef_iff l t s).1 h
    exact Nat.pow_dvd_pow 2 (by omega)
  · rw [if_neg h]; exact Nat.dvd_zero _
theorem codeN_mul (n : Nat) (l : Nat → Nat) (s : Nat) : codeN n l s * 2 ^ (20 - l s) = kBef n l s := Nat.div_mul_cancel (kBef_dvd n l s)
theorem rsum_one_le {n : Nat} {f : Nat → Nat} {t : Nat} (h : t < n) : f t ≤ rsum n f := by
  induction n with
  | zero => omega
  | succ n ih =>
    show f t ≤ rsum n f + f n
    rcases Nat.lt_or_ge t n with h2 | h2
    · have := ih h2; omega
    · rw [show t = n by omega]; omega
theorem rsum_point (n t x : Nat) (h : t < n) : rsum n (fun j => if j = t then x else 0) = x := by
  induction n with
  | zero => omega
  | succ n ih =>
    show rsum n _ + (if n = t then x else 0) = x
    rcases Nat.lt_or_ge t n with h2 | h2
    · rw [ih h2, if_neg (by omega), Nat.add_zero]
    · have e : t = n := by omega
      subst e
      rw [if_pos rfl, rsum_congr (g := fun _ => 0) fun j hj => if_neg (by omega), rsum_zero, Nat.zero_add]
theorem kBef_step (n : Nat) (l : Nat → Nat) (t s : Nat) (ht : t < n) (h : bef l t s = true) : kBef n l t + 2 ^ (20 - l t) ≤ kBef n l s := by
  unfold kBef
  rw [← rsum_point n t (2 ^ (20 - l t)) ht, ← rsum_add]
  refine rsum_le fun j hj => ?_
  have hts := (bef_iff l t s).1 h
  by_cases e : j = t
  · subst e
    rw [if_pos rfl, if_pos h, if_neg (by rw [bef_iff]; omega), Nat.zero_add]
    exact Nat.le_refl _
  · rw [if_neg e, Nat.add_zero]
    by_cases h2 : bef l j t = true
    · have := (bef_iff l j t).1 h2
      rw [if_pos h2, if_pos ((bef_iff l j s).2 (by omega))]
      exact Nat.le_refl _
    · rw [if_neg h2]; exact Nat.zero_le _
theorem kBef_top (n : Nat) (l : Nat → Nat) (s : Nat) (hs : s < n) : kBef n l s + 2 ^ (20 - l s) ≤ rsum n fun t => 2 ^ (20 - l t) := by
  unfold kBef
  rw [← rsum_point n s (2 ^ (20 - l s)) hs, ← rsum_add]
  refine rsum_le fun j hj => ?_
  by_cases e : j = s
  · subst e
    rw [if_pos rfl, if_neg (by rw [bef_iff]; omega), Nat.zero_add]
    exact Nat.le_refl _
  · rw [if_neg e, Nat.add_zero]
    split
    · exact Nat.le_refl _
    · exact Nat.zero_le _
theorem bef_total (l : Nat → Nat) {t s : Nat} (h : t ≠ s) : bef l t s = true ∨ bef l s t = true := by
  rw [bef_iff, bef_iff]; omega
theorem codeN_lt (n : Nat) (l : Nat → Nat) (s : Nat) (hs : s < n) (h20 : l s ≤ 20) (hk : rsum n (fun t => 2 ^ (20 - l t)) ≤ 2 ^ 20) : codeN n l s < 2 ^ l s := by
  have h1 := kBef_top n l s hs
  have h2 := codeN_mul n l s
  have h3 : 2 ^ l s * 2 ^ (20 - l s) = 2 ^ 20 := by rw [← Nat.pow_add]; congr 1; omega
  have h4 : (codeN n l s + 1) * 2 ^ (20 - l s) ≤ 2 ^ l s * 2 ^ (20 - l s) := by rw [Nat.add_mul, Nat.one_mul, h2, h3]; omega
  exact Nat.lt_of_succ_le (Nat.le_of_mul_le_mul_right h4 (Nat.two_pow_pos _))
/-- No code begins another. -/
theorem codeN_free (n : Nat) (l : Nat → Nat) (i k : Nat) (hi : i < n) (hk : k < n) (hne : i ≠ k) (hle : l i ≤ l k) (h20 : l k ≤ 20) : codeN n l k / 2 ^ (l k - l i) ≠ codeN n l i := by
  intro e
  have hki : codeN n l k / 2 ^ (l k - l i) = kBef n l k / 2 ^ (20 - l i) := by
    rw [codeN, Nat.div_div_eq_div_mul, ← Nat.pow_add]
    congr 2; omega
  rw [hki] at e
  have hp : 0 < 2 ^ (20 - l i) := Nat.two_pow_pos _
  have hm := codeN_mul n l i
  rw [← e] at hm
  have h1 := Nat.div_mul_le_self (kBef n l k) (2 ^ (20 - l i))
  have h2 := Nat.lt_div_mul_add hp (a := kBef n l k)
  rcases bef_total l hne with h | h
  · have := kBef_step n l i k hi h
    omega
  · have h3 := kBef_step n l k i hk h
    have h4 := (bef_iff l k i).1 h
    have h5 : l k = l i := by omega
    have : 0 < 2 ^ (20 - l k) := Nat.two_pow_pos _
    omega
/-- Two symbols of one length and one code are one. -/
theorem codeN_inj (n : Nat) (l : Nat → Nat) (i k : Nat) (hi : i < n) (hk : k < n) (h20 : l k ≤ 20) (hl : l i = l k) (hc : codeN n l i = codeN n l k) : i = k := by
  apply Classical.byContradiction
  intro hne
  refine codeN_free n l i k hi hk hne (by omega) h20 ?_
  rw [hl, Nat.sub_self, Nat.pow_zero, Nat.div_one, hc]

/-! ### the order -/
def lenIs (n : Nat) (l : Nat → Nat) (m i : Nat) : List Nat := (List.range i).filter fun s => decide (l s = m)
def ordU (n : Nat) (l : Nat → Nat) : Nat → List Nat
  | 0 => []
  | m + 1 => ordU n l m ++ lenIs n l (m + 1) n
theorem lenIs_succ (n : Nat) (l : Nat → Nat) (m i : Nat) : lenIs n l m (i + 1) = if l i = m then lenIs n l m i ++ [i] else lenIs n l m i := by
  unfold lenIs
  rw [List.range_succ, List.filter_append]
  by_cases h : l i = m
  · rw [if_pos h]; simp [h]
  · rw [if_neg h]; simp [h]
theorem mem_lenIs (n : Nat) (l : Nat → Nat) (m i s : Nat) : s ∈ lenIs n l m i ↔ s < i ∧ l s = m := by simp [lenIs]
theorem mem_ordU (n : Nat) (l : Nat → Nat) (m s : Nat) : s ∈ ordU n l m ↔ s < n ∧ 1 ≤ l s ∧ l s ≤ m := by
  induction m with
  | zero => simp [ordU]; omega
  | succ m ih => rw [ordU, List.mem_append, ih, mem_lenIs]; omega
theorem lenIs_bef (n : Nat) (l : Nat → Nat) (m i : Nat) : (lenIs n l m i).Pairwise (fun a b => bef l a b = true) := by
  unfold lenIs
  have h := (List.pairwise_lt_range (n := i)).filter (fun s => decide (l s = m))
  refine List.Pairwise.imp_of_mem ?_ h
  intro a b ha hb hab
  have h1 : l a = m := by simpa using (List.mem_filter.1 ha).2
  have h2 : l b = m := by simpa using (List.mem_filter.1 hb).2
  rw [bef_iff]; omega
theorem ordU_bef (n : Nat) (l : Nat → Nat) (m : Nat) : (ordU n l m).Pairwise (fun a b => bef l a b = true) := by
  induction m with
  | zero => exact List.Pairwise.nil
  | succ m ih =>
    rw [ordU, List.pairwise_append]
    refine ⟨ih, lenIs_bef n l (m + 1) n, fun a ha b hb => ?_⟩
    have h1 := (mem_ordU n l m a).1 ha
    have h2 := (mem_lenIs n l (m + 1) n b).1 hb
    rw [bef_iff]; omega
theorem bef_ne {l : Nat → Nat} {a b : Nat} (h : bef l a b = true) : a ≠ b := by
  rintro rfl
  rw [bef_iff] at h; omega
theorem ordU_nodup (n : Nat) (l : Nat → Nat) (m : Nat) : (ordU n l m).Nodup := (ordU_bef n l m).imp fun h => bef_ne h
theorem ordU_perm (n : Nat) (l : Nat → Nat) (h : ∀ s, s < n → 1 ≤ l s ∧ l s ≤ 20) : (ordU n l 20).Perm (List.range n) := by
  rw [List.perm_ext_iff_of_nodup (ordU_nodup n l 20) List.nodup_range]
  intro s
  rw [mem_ordU, List.mem_range]
  exact ⟨fun h => h.1, fun hs => ⟨hs, h s hs⟩⟩
theorem ordU_len (n : Nat) (l : Nat → Nat) (h : ∀ s, s < n → 1 ≤ l s ∧ l s ≤ 20) : (ordU n l 20).length = n := by rw [(ordU_perm n l h).length_eq, List.length_range]
theorem lenIs_length (n : Nat) (l : Nat → Nat) (m i : Nat) : (lenIs n l m i).length ≤ i := by
  unfold lenIs; exact Nat.le_trans (List.length_filter_le _ _) (by simp)
theorem count_two (R : List Nat) (p q r : Nat → Bool) (h : ∀ s, r s = (p s || q s)) (hd : ∀ s, p s = true → q s = false) : R.countP p + R.countP q = R.countP r := by
  induction R with
  | nil => rfl
  | cons x R ih =>
    rw [List.countP_cons, List.countP_cons, List.countP_cons, ← ih, h x]
    cases hp : p x
    · cases hq : q x <;> simp <;> omega
    · rw [hd x hp]; simp; omega
theorem ordU_count (n : Nat) (l : Nat → Nat) (m : Nat) : (ordU n l m).length = (List.range n).countP fun s => decide (1 ≤ l s ∧ l s ≤ m) := by
  induction m with
  | zero =>
    rw [List.countP_eq_zero.2]
    · rfl
    · intro s _; simp; omega
  | succ m ih =>
    rw [ordU, List.length_append, ih]
    unfold lenIs
    rw [← List.countP_eq_length_filter]
    refine count_two _ _ _ _ (fun s => ?_) (fun s hs => ?_)
    · by_cases h1 : 1 ≤ l s ∧ l s ≤ m
      · simp [h1]; omega
      · by_cases h2 : l s = m + 1
        · simp [h2]
        · simp [h1, h2]; omega
    · simp only [decide_eq_true_eq, decide_eq_false_iff_not] at hs ⊢; omega
theorem ordU_length (n : Nat) (l : Nat → Nat) (m : Nat) : (ordU n l m).length ≤ n := by
  rw [ordU_count]
  exact Nat.le_trans List.countP_le_length (by simp)
theorem ordP_length (n : Nat) (l : Nat → Nat) (m i : Nat) (hi : i ≤ n) : (ordU n l m ++ lenIs n l (m + 1) i).length ≤ n := by
  have h1 := ordU_length n l (m + 1)
  rw [ordU, List.length_append] at h1
  have h2 : (lenIs n l (m + 1) i).length ≤ (lenIs n l (m + 1) n).length := by
    unfold lenIs
    have : List.Sublist (List.range i) (List.range n) := List.range_sublist.2 hi
    exact (this.filter _).length_le
  rw [List.length_append]; omega
theorem perm_sumN {a b : List Nat} (h : a.Perm b) : a.sum = b.sum := by
  induction h with
  | nil => rfl
  | cons x _ ih => simp [ih]
  | swap x y l => simp; omega
  | trans _ _ ih1 ih2 => exact ih1.trans ih2
theorem sum_zeros : ∀ (L : List Nat), (∀ x ∈ L, x = 0) → L.sum = 0 := by
  intro L
  induction L with
  | nil => intro _; rfl
  | cons x L ih => intro h; rw [List.sum_cons, h x (by simp), ih fun y hy => h y (by simp [hy])]
/-- What lies ahead of the k-th of the order are just the k first. -/
theorem kBef_list (n : Nat) (l : Nat → Nat) (O : List Nat) (hp : O.Perm (List.range n)) (hO : O.Pairwise (fun a b => bef l a b = true)) (k : Nat) (hk : k < O.length) : kBef n l O[k] = ((O.take k).map fun t => 2 ^ (20 - l t)).sum := by
  obtain ⟨s, hs⟩ : ∃ s, O[k] = s := ⟨_, rfl⟩
  rw [List.pairwise_iff_getElem] at hO
  have h1 : ((O.take k).map fun t => if bef l t s = true then 2 ^ (20 - l t) else 0) = (O.take k).map fun t => 2 ^ (20 - l t) := by
    refine List.map_congr_left fun t ht => ?_
    obtain ⟨j, hj, rfl⟩ := List.getElem_of_mem ht
    rw [List.length_take] at hj
    have h3 := hO j k (by omega) hk (by omega)
    rw [hs] at h3
    rw [List.getElem_take, if_pos h3]
  have h2 : ((O.drop k).map fun t => if bef l t s = true then 2 ^ (20 - l t) else 0).sum = 0 := by
    refine sum_zeros _ fun x hx => ?_
    rw [List.mem_map] at hx
    obtain ⟨t, ht, rfl⟩ := hx
    obtain ⟨j, hj, rfl⟩ := List.getElem_of_mem ht
    rw [List.length_drop] at hj
    rw [List.getElem_drop, if_neg]
    intro hb
    rcases Nat.eq_zero_or_pos j with h0 | h0
    · subst h0
      rw [show O[k + 0] = s from hs] at hb
      exact bef_ne hb rfl
    · have h3 := hO k (k + j) hk (by omega) (by omega)
      rw [hs] at h3
      rw [bef_iff] at h3 hb
      omega
  rw [hs]
  unfold kBef
  rw [← rsum_map, perm_sumN (hp.symm.map _)]
  have e : O = O.take k ++ O.drop k := (List.take_append_drop k O).symm
  have e2 : (O.map fun t => if bef l t s = true then 2 ^ (20 - l t) else 0) = ((O.take k).map fun t => if bef l t s = true then 2 ^ (20 - l t) else 0) ++ ((O.drop k).map fun t => if bef l t s = true then 2 ^ (20 - l t) else 0) := by rw [← List.map_append, ← e]
  rw [e2, List.sum_append, h1, h2, Nat.add_zero]
theorem kBef_take (n : Nat) (l : Nat → Nat) (h : ∀ s, s < n → 1 ≤ l s ∧ l s ≤ 20) (k : Nat) (hk : k < (ordU n l 20).length) : kBef n l (ordU n l 20)[k] = (((ordU n l 20).take k).map fun t => 2 ^ (20 - l t)).sum :=
  kBef_list n l _ (ordU_perm n l h) (ordU_bef n l 20) k hk
theorem code_first (n : Nat) (l : Nat → Nat) (h : ∀ s, s < n → 1 ≤ l s ∧ l s ≤ 20) (hk : 0 < (ordU n l 20).length) : codeN n l (ordU n l 20)[0] = 0 := by
  unfold codeN
  rw [kBef_take n l h 0 hk]
  simp
theorem code_step (n : Nat) (l : Nat → Nat) (O : List Nat) (hp : O.Perm (List.range n)) (hO : O.Pairwise (fun a b => bef l a b = true)) (k : Nat) (hk : k + 1 < O.length) (t s : Nat) (ht : O[k] = t) (hs : O[k + 1] = s) (h20 : l s ≤ 20) :
    l t ≤ l s ∧ codeN n l s = (codeN n l t + 1) * 2 ^ (l s - l t) := by
  have hb := List.pairwise_iff_getElem.1 hO k (k + 1) (by omega) hk (by omega)
  rw [ht, hs] at hb
  have hle := (bef_iff _ _ _).1 hb
  have hlt : l t ≤ l s := by omega
  refine ⟨hlt, ?_⟩
  have e1 := kBef_list n l O hp hO k (by omega)
  have e2 := kBef_list n l O hp hO (k + 1) hk
  rw [List.take_succ_eq_append_getElem (by omega), List.map_append, List.sum_append, ← e1, ht] at e2
  simp only [List.map_cons, List.map_nil, List.sum_cons, List.sum_nil, Nat.add_zero] at e2
  rw [hs] at e2
  have m1 := codeN_mul n l t
  have m2 := codeN_mul n l s
  refine Nat.eq_of_mul_eq_mul_right (Nat.two_pow_pos (20 - l s)) ?_
  rw [m2, e2, Nat.mul_assoc, ← Nat.pow_add, show l s - l t + (20 - l s) = 20 - l t by omega, Nat.add_mul, Nat.one_mul, m1]
end Go.Proofs.Ytaaahmfkdiogkaa
namespace Go.Proofs.Ytaaahmfkdiogkaa
set_option linter.unusedVariables false
set_option linter.unusedSimpArgs false

/-- Are they symbols of an alphabet of n? -/
def rOk (z : List Int) (n : Int) : Bool := decide (1 ≤ n ∧ n ≤ 256 ∧ z.length ≤ 600 ∧ ∀ x ∈ z, 0 ≤ x ∧ x < n)
theorem rOk_iff (z : List Int) (n : Int) : rOk z n = true ↔ 1 ≤ n ∧ n ≤ 256 ∧ z.length ≤ 600 ∧ ∀ x ∈ z, 0 ≤ x ∧ x < n := by simp [rOk]
/-- Numbers as integers. -/
def ints (L : List Nat) : List Int := L.map fun (x : Nat) => (x : Int)
theorem ints_len (L : List Nat) : (ints L).length = L.length := by simp [ints]
theorem ints_get (L : List Nat) (k : Nat) : (ints L).getD k 0 = ((L.getD k 0 : Nat) : Int) := by
  unfold ints
  simp only [List.getD_eq_getElem?_getD, List.getElem?_map]
  cases L[k]? <;> rfl
theorem ints_snoc (L : List Nat) (x : Nat) : ints (L ++ [x]) = ints L ++ [(x : Int)] := by simp [ints]
/-- A valid list is one of numbers. -/
theorem rOk_nats {z : List Int} {n : Int} (h : rOk z n = true) : ∃ (L : List Nat) (m : Nat), z = ints L ∧ n = m ∧ 1 ≤ m ∧ m ≤ 256 ∧ L.length ≤ 600 ∧ ∀ x ∈ L, x < m := by
  obtain ⟨h1, h2, h3, h4⟩ := (rOk_iff z n).1 h
  have hz : z = ints (z.map Int.toNat) := by
    unfold ints
    rw [List.map_map]
    conv => lhs; rw [← List.map_id z]
    apply List.map_congr_left
    intro x hx
    have := h4 x hx
    simp only [id, Function.comp]
    omega
  refine ⟨z.map Int.toNat, n.toNat, hz, by omega, by omega, by omega, by simpa using h3, ?_⟩
  intro x hx
  obtain ⟨y, hy, rfl⟩ := List.mem_map.1 hx
  have := h4 y hy
  omega
theorem rOk_of {L : List Nat} {m : Nat} (h1 : 1 ≤ m) (h2 : m ≤ 256) (h3 : L.length ≤ 600) (h4 : ∀ x ∈ L, x < m) : rOk (ints L) m = true := by
  rw [rOk_iff]
  refine ⟨by omega, by omega, by rw [ints_len]; exact h3, ?_⟩
  intro x hx
  obtain ⟨y, hy, rfl⟩ := List.mem_map.1 hx
  have := h4 y hy
  omega

/-- A machine's answers, one for each number of a list. -/
def runF {σ : Type} (f : σ → Nat → Nat × σ) : σ → List Nat → List Nat
  | _, [] => []
  | s, x :: xs => (f s x).1 :: runF f (f s x).2 xs
/-- What state the machine is in behind a list. -/
def endF {σ : Type} (f : σ → Nat → Nat × σ) : σ → List Nat → σ
  | s, [] => s
  | s, x :: xs => endF f (f s x).2 xs
theorem runF_len {σ : Type} (f : σ → Nat → Nat × σ) : ∀ (L : List Nat) (s : σ), (runF f s L).length = L.length
  | [], _ => rfl
  | x :: xs, s => by simp [runF, runF_len f xs]
theorem drop_cons (L : List Nat) (k : Nat) (h : k < L.length) : L.drop k = L.getD k 0 :: L.drop (k + 1) := by
  rw [List.drop_eq_getElem_cons h]
  congr 1
  simp [List.getD_eq_getElem?_getD, h]
theorem getD_mem7 (L : List Nat) (k : Nat) (h : k < L.length) : L.getD k 0 ∈ L := by
  have e : L.getD k 0 = L[k] := by simp [List.getD_eq_getElem?_getD, h]
  rw [e]; exact List.getElem_mem h

/-- The one at place k comes to the front. -/
def frontL (r : List Nat) (k : Nat) : List Nat := r.getD k 0 :: r.eraseIdx k
theorem eraseIdx_td (r : List Nat) (k : Nat) : r.eraseIdx k = r.take k ++ r.drop (k + 1) := List.eraseIdx_eq_take_drop_succ r k
theorem frontL_len (r : List Nat) (k : Nat) (h : k < r.length) : (frontL r k).length = r.length := by
  unfold frontL
  rw [List.length_cons, List.length_eraseIdx]
  split <;> omega
theorem split_at (r : List Nat) (k : Nat) (h : k < r.length) : r = r.take k ++ r.getD k 0 :: r.drop (k + 1) := by
  rw [← drop_cons r k h, List.take_append_drop]
theorem frontL_perm (r : List Nat) (k : Nat) (h : k < r.length) : (frontL r k).Perm r := by
  unfold frontL
  rw [eraseIdx_td]
  conv => rhs; rw [split_at r k h]
  exact List.perm_middle.symm
/-- One step of move-to-front, one of its inverse. -/
def mtfF (r : List Nat) (x : Nat) : Nat × List Nat := (r.idxOf x, frontL r (r.idxOf x))
def umtF (r : List Nat) (k : Nat) : Nat × List Nat := (r.getD k 0, frontL r k)
/-- A row of the numbers below n, in some order. -/
def PermN (n : Nat) (r : List Nat) : Prop := r.Perm (List.range n)
theorem PermN.len {n : Nat} {r : List Nat} (h : PermN n r) : r.length = n := by rw [h.length_eq, List.length_range]
theorem PermN.mem {n : Nat} {r : List Nat} (h : PermN n r) (x : Nat) : x ∈ r ↔ x < n := by rw [h.mem_iff, List.mem_range]
theorem PermN.nodup {n : Nat} {r : List Nat} (h : PermN n r) : r.Nodup := h.nodup_iff.2 List.nodup_range
theorem PermN.idx {n : Nat} {r : List Nat} (h : PermN n r) {x : Nat} (hx : x < n) : r.idxOf x < n := by
  have := List.idxOf_lt_length_of_mem ((h.mem x).2 hx)
  rwa [h.len] at this
theorem PermN.at {n : Nat} {r : List Nat} (h : PermN n r) {k : Nat} (hk : k < n) : r.getD k 0 < n := (h.mem _).1 (getD_mem7 r k (by rw [h.len]; exact hk))
theorem PermN.front {n : Nat} {r : List Nat} (h : PermN n r) {k : Nat} (hk : k < n) : PermN n (frontL r k) := (frontL_perm r k (by rw [h.len]; exact hk)).trans h
theorem PermN.start (n : Nat) : PermN n (List.range n) := List.Perm.refl _
theorem idx_at (r : List Nat) {x : Nat} (h : x ∈ r) : r.getD (r.idxOf x) 0 = x := by
  have h2 := List.idxOf_lt_length_of_mem h
  simp [List.getD_eq_getElem?_getD, h2]
theorem idx_first (r : List Nat) (x j : Nat) (h : j < r.idxOf x) : r.getD j 0 ≠ x := by
  intro e
  have hle := List.idxOf_le_length (a := x) (l := r)
  have hj : j < r.length := by omega
  have e2 : r[j] = x := by simpa [List.getD_eq_getElem?_getD, hj] using e
  have h3 : (r.take (j + 1)).idxOf x ≤ j := by
    have hm : x ∈ r.take (j + 1) := by
      rw [List.mem_take_iff_getElem]
      exact ⟨j, by omega, e2⟩
    have := List.idxOf_lt_length_of_mem hm
    rw [List.length_take] at this
    omega
  have h4 : r.idxOf x ≤ j := by
    have hm : x ∈ r.take (j + 1) := by
      rw [List.mem_take_iff_getElem]
      exact ⟨j, by omega, e2⟩
    conv => lhs; rw [← List.take_append_drop (j + 1) r]
    rw [List.idxOf_append, if_pos hm]
    exact h3
  omega
/-- The answers of move-to-front, as integers; none where the list is not valid. -/
def mtfZ (z : List Int) (n : Int) : List Int := if rOk z n = true then ints (runF mtfF (List.range n.toNat) (z.map Int.toNat)) else []
def umtZ (z : List Int) (n : Int) : List Int := if rOk z n = true then ints (runF umtF (List.range n.toNat) (z.map Int.toNat)) else []
theorem ints_toNat (L : List Nat) : (ints L).map Int.toNat = L := by
  unfold ints
  rw [List.map_map]
  conv => rhs; rw [← List.map_id L]
  apply List.map_congr_left
  intro x _
  rfl
theorem mtfZ_yes {L : List Nat} {m : Nat} (h : rOk (ints L) m = true) : mtfZ (ints L) m = ints (runF mtfF (List.range m) L) := by
  unfold mtfZ; rw [if_pos h, ints_toNat]; rfl
theorem umtZ_yes {L : List Nat} {m : Nat} (h : rOk (ints L) m = true) : umtZ (ints L) m = ints (runF umtF (List.range m) L) := by
  unfold umtZ; rw [if_pos h, ints_toNat]; rfl
theorem mtfZ_no {z : List Int} {n : Int} (h : rOk z n = false) : mtfZ z n = [] := by unfold mtfZ; rw [h]; rfl
theorem umtZ_no {z : List Int} {n : Int} (h : rOk z n = false) : umtZ z n = [] := by unfold umtZ; rw [h]; rfl
/-- What a machine's answers are bounded by, where every step keeps a relation on its states. -/
theorem runF_all {σ : Type} {f : σ → Nat → Nat × σ} (R : σ → Prop) (X Y : Nat → Prop) (h : ∀ s x, R s → X x → Y (f s x).1 ∧ R (f s x).2) : ∀ (L : List Nat) (s : σ), R s → (∀ x ∈ L, X x) → ∀ y ∈ runF f s L, Y y
  | [], _, _, _, y, hy => by cases hy
  | x :: xs, s, hR, hX, y, hy => by
    have h1 := h s x hR (hX x (List.mem_cons_self ..))
    rcases List.mem_cons.1 hy with e | e
    · rw [e]; exact h1.1
    · exact runF_all R X Y h xs _ h1.2 (fun q hq => hX q (List.mem_cons_of_mem _ hq)) y e
theorem mtf_lt {n : Nat} {L : List Nat} (hL : ∀ x ∈ L, x < n) : ∀ y ∈ runF mtfF (List.range n) L, y < n :=
  runF_all (PermN n) (· < n) (· < n) (fun s x hs hx => ⟨hs.idx hx, hs.front (hs.idx hx)⟩) L _ (PermN.start n) hL
theorem umt_lt {n : Nat} {L : List Nat} (hL : ∀ x ∈ L, x < n) : ∀ y ∈ runF umtF (List.range n) L, y < n :=
  runF_all (PermN n) (· < n) (· < n) (fun s k hs hk => ⟨hs.at hk, hs.front hk⟩) L _ (PermN.start n) hL
end Go.Proofs.Ytaaahmfkdiogkaa
namespace Go.Proofs.Ytaaahmfkdiogkaa
set_option linter.unusedVariables false
set_option linter.unusedSimpArgs false

/-- All of the list are bytes. -/
def Byt (l : List Nat) : Prop := ∀ b ∈ l, b < 256
theorem byt_bytesOf (s : ByteArray) : Byt (bytesOf s) := by
  intro b hb
  simp only [bytesOf, List.mem_map] at hb
  obtain ⟨x, _, rfl⟩ := hb
  exact UInt8.toNat_lt _

/-- Two rows in one strict order with the same members are one. -/
theorem pw_unique {R : Nat → Nat → Prop} (irr : ∀ a, ¬ R a a) (asym : ∀ a b, R a b → ¬ R b a) : ∀ (l m : List Nat), l.Pairwise R → m.Pairwise R → (∀ b, b ∈ l ↔ b ∈ m) → l = m := by
  intro l
  induction l with
  | nil =>
    intro m _ _ h
    cases m with
    | nil => rfl
    | cons b m => exact absurd ((h b).2 (List.mem_cons_self ..)) (by simp)
  | cons a l ih =>
    intro m hl hm h
    cases m with
    | nil => exact absurd ((h a).1 (List.mem_cons_self ..)) (by simp)
    | cons b m =>
      rw [List.pairwise_cons] at hl hm
      have hab : a = b := by
        rcases List.mem_cons.1 ((h a).1 (List.mem_cons_self ..)) with e | e
        · exact e
        · rcases List.mem_cons.1 ((h b).2 (List.mem_cons_self ..)) with e2 | e2
          · exact e2.symm
          · exact absurd (hm.1 a e) (asym _ _ (hl.1 b e2))
      subst hab
      rw [ih m hl.2 hm.2]
      intro x
      constructor
      · intro hx
        rcases List.mem_cons.1 ((h x).1 (List.mem_cons_of_mem _ hx)) with e | e
        · subst e; exact absurd (hl.1 x hx) (irr _)
        · exact e
      · intro hx
        rcases List.mem_cons.1 ((h x).2 (List.mem_cons_of_mem _ hx)) with e | e
        · subst e; exact absurd (hm.1 x hx) (irr _)
        · exact e
theorem asc_unique {l m : List Nat} (h1 : l.Pairwise (· < ·)) (h2 : m.Pairwise (· < ·)) (h : ∀ b, b ∈ l ↔ b ∈ m) : l = m :=
  pw_unique (fun a => Nat.lt_irrefl a) (fun a b h => by omega) l m h1 h2 h

/-- The numbers of the list, each once, ascending, below k. -/
def usedTo (l : List Nat) (k : Nat) : List Nat := (List.range k).filter (fun b => decide (0 < l.count b))
def usedL (l : List Nat) : List Nat := usedTo l 256
theorem usedTo_succ (l : List Nat) (k : Nat) : usedTo l (k + 1) = if 0 < l.count k then usedTo l k ++ [k] else usedTo l k := by
  unfold usedTo
  rw [List.range_succ, List.filter_append]
  split <;> simp_all
theorem mem_usedTo {l : List Nat} {k b : Nat} : b ∈ usedTo l k ↔ b < k ∧ b ∈ l := by
  simp [usedTo, List.count_pos_iff]
theorem mem_usedL {l : List Nat} (h : Byt l) {b : Nat} : b ∈ usedL l ↔ b ∈ l := by
  unfold usedL
  rw [mem_usedTo]
  exact ⟨fun x => x.2, fun x => ⟨h b x, x⟩⟩
theorem usedL_asc (l : List Nat) : (usedL l).Pairwise (· < ·) := List.pairwise_lt_range.sublist List.filter_sublist
theorem usedTo_len (l : List Nat) (k : Nat) : (usedTo l k).length ≤ k := by
  unfold usedTo
  have := List.length_filter_le (fun b => decide (0 < l.count b)) (List.range k)
  simpa using this
theorem byt_usedL (l : List Nat) : Byt (usedL l) := fun b hb => (mem_usedTo.1 hb).1
theorem asc_nodup {l : List Nat} (h : l.Pairwise (· < ·)) : l.Nodup := h.imp (fun h => by omega)
theorem usedL_nodup (l : List Nat) : (usedL l).Nodup := asc_nodup (usedL_asc l)
theorem usedL_count (l : List Nat) (h : Byt l) (b : Nat) : (usedL l).count b = if b ∈ l then 1 else 0 := by
  rw [(usedL_nodup l).count]
  simp [mem_usedL h]
theorem usedL_self {u : List Nat} (hb : Byt u) : usedL u = u ↔ u.Pairwise (· < ·) := by
  constructor
  · intro h; rw [← h]; exact usedL_asc u
  · intro h; exact asc_unique (usedL_asc u) h (fun b => mem_usedL hb)
theorem nodup_len_le : ∀ {l m : List Nat}, l.Nodup → (∀ b ∈ l, b ∈ m) → l.length ≤ m.length := by
  intro l
  induction l with
  | nil => intro m _ _; simp
  | cons a l ih =>
    intro m hl h
    rw [List.nodup_cons] at hl
    have ha := h a (List.mem_cons_self ..)
    have h2 := ih (m := m.erase a) hl.2 (fun b hb => (List.mem_erase_of_ne (fun e => hl.1 (by rw [← e]; exact hb))).2 (h b (List.mem_cons_of_mem _ hb)))
    rw [List.length_erase_of_mem ha] at h2
    have := List.length_pos_of_mem ha
    simp only [List.length_cons]
    omega
theorem used_len_le {l : List Nat} (hb : Byt l) : (usedL l).length ≤ l.length := nodup_len_le (usedL_nodup l) (fun b h => (mem_usedL hb).1 h)
theorem used_len_eq {l : List Nat} (hb : Byt l) : (usedL l).length = l.length ↔ l.Nodup := by
  constructor
  · intro h
    rw [List.nodup_iff_count]
    intro a
    apply Decidable.byContradiction
    intro hc
    have h2 : 2 ≤ l.count a := by omega
    have ha : a ∈ l := List.count_pos_iff.1 (by omega)
    have hb2 : Byt (l.erase a) := fun b hx => hb b (List.mem_of_mem_erase hx)
    have he : usedL l = usedL (l.erase a) := asc_unique (usedL_asc _) (usedL_asc _) (fun b => by
      rw [mem_usedL hb, mem_usedL hb2, ← List.count_pos_iff, ← List.count_pos_iff, List.count_erase]
      by_cases e : b = a
      · subst e; rw [beq_self_eq_true, if_pos rfl]; omega
      · rw [if_neg (by simpa using Ne.symm e)]; rfl)
    have h3 := used_len_le hb2
    rw [← he, List.length_erase_of_mem ha] at h3
    have := List.length_pos_of_mem ha
    omega
  · intro h
    have := nodup_len_le h (fun b hx => (mem_usedL hb).2 hx)
    have := used_len_le hb
    omega
theorem nodup_256 {l : List Nat} (hb : Byt l) (h : l.Nodup) : l.length ≤ 256 := by
  have := (used_len_eq hb).2 h
  have := usedTo_len l 256
  unfold usedL at *
  omega
theorem used_perm {l : List Nat} (hb : Byt l) (h : l.Nodup) : (usedL l).Perm l := by
  rw [List.perm_iff_count]
  intro a
  rw [usedL_count l hb a, h.count]

/-- An order: something, and nothing twice. -/
def ordOk (l : List Nat) : Bool := decide (l ≠ [] ∧ l.Nodup)
theorem ordOk_iff (l : List Nat) : ordOk l = true ↔ l ≠ [] ∧ l.Nodup := by simp [ordOk]
/-- A set: something, and ascending. -/
def setOk (u : List Nat) : Bool := decide (u ≠ [] ∧ usedL u = u)
theorem setOk_iff (u : List Nat) : setOk u = true ↔ u ≠ [] ∧ usedL u = u := by simp [setOk]

/-- By count: what comes more often comes first; else by value. -/
def befC (l : List Nat) (a b : Nat) : Prop := l.count b < l.count a ∨ (l.count a = l.count b ∧ a < b)
theorem befC_irr (l : List Nat) (a : Nat) : ¬ befC l a a := by unfold befC; omega
theorem befC_asym (l : List Nat) (a b : Nat) (h : befC l a b) : ¬ befC l b a := by unfold befC at *; omega
theorem befC_trans (l : List Nat) {a b c : Nat} (h : befC l a b) (h2 : befC l b c) : befC l a c := by unfold befC at *; omega
theorem befC_total (l : List Nat) {a b : Nat} (h : a ≠ b) : befC l a b ∨ befC l b a := by unfold befC; omega
/-- The bytes of l by count. -/
def Ranked (l R : List Nat) : Prop := R.Pairwise (befC l) ∧ ∀ b, b ∈ R ↔ b ∈ l
theorem ranked_unique {l R R2 : List Nat} (h : Ranked l R) (h2 : Ranked l R2) : R = R2 :=
  pw_unique (befC_irr l) (befC_asym l) R R2 h.1 h2.1 (fun b => (h.2 b).trans (h2.2 b).symm)
theorem ranked_nodup {l R : List Nat} (h : Ranked l R) : R.Nodup := h.1.imp (fun {a b} h e => by subst e; exact befC_irr l a h)
theorem ranked_byt {l R : List Nat} (hb : Byt l) (h : Ranked l R) : Byt R := fun b hx => hb b ((h.2 b).1 hx)
theorem ranked_used {l R : List Nat} (hb : Byt l) (h : Ranked l R) : usedL R = usedL l :=
  asc_unique (usedL_asc _) (usedL_asc _) (fun b => by rw [mem_usedL (ranked_byt hb h), mem_usedL hb]; exact h.2 b)
theorem ranked_len {l R : List Nat} (hb : Byt l) (h : Ranked l R) : R.length = (usedL l).length := by
  rw [← ranked_used hb h]; exact ((used_len_eq (ranked_byt hb h)).2 (ranked_nodup h)).symm

/-- What is still to be picked, and how often it occurs. -/
def remF (L R : List Nat) (b : Nat) : Nat := if b ∈ R then 0 else L.count b
/-- R has been picked from L, in order. -/
def Sel (L R : List Nat) : Prop := R.Pairwise (befC L) ∧ (∀ x ∈ R, x ∈ L) ∧ ∀ x ∈ R, ∀ y ∈ L, y ∉ R → befC L x y
theorem sel_nil (L : List Nat) : Sel L [] := ⟨List.Pairwise.nil, by simp, by simp⟩
theorem sel_nodup {L R : List Nat} (h : Sel L R) : R.Nodup := h.1.imp (fun {a b} h e => by subst e; exact befC_irr L a h)
theorem sel_step {L R : List Nat} (hB : Byt L) (h : Sel L R) {m : Nat} (hmax : ∀ x, x < 256 → remF L R x ≤ remF L R m ∧ (remF L R x = remF L R m → m ≤ x)) (hp : 0 < remF L R m) : Sel L (R ++ [m]) ∧ R.length + 1 ≤ 256 := by
  have hm : m ∉ R := fun e => by unfold remF at hp; rw [if_pos e] at hp; omega
  have hr : remF L R m = L.count m := by unfold remF; rw [if_neg hm]
  have hmL : m ∈ L := List.count_pos_iff.1 (by omega)
  have h2 : Sel L (R ++ [m]) := by
    refine ⟨?_, ?_, ?_⟩
    · rw [List.pairwise_append]
      refine ⟨h.1, by simp, fun a ha b hb => ?_⟩
      simp at hb; subst hb
      exact h.2.2 a ha b hmL hm
    · intro x hx
      rcases List.mem_append.1 hx with hx | hx
      · exact h.2.1 x hx
      · simp at hx; subst hx; exact hmL
    · intro x hx y hy hn
      have hy1 : y ∉ R := fun e => hn (List.mem_append_left _ e)
      have hy2 : y ≠ m := fun e => hn (by simp [e])
      rcases List.mem_append.1 hx with hx | hx
      · exact h.2.2 x hx y hy hy1
      · simp at hx; subst hx
        have hq := hmax y (hB y hy)
        have hry : remF L R y = L.count y := by unfold remF; rw [if_neg hy1]
        rw [hry, hr] at hq
        unfold befC; omega
  refine ⟨h2, ?_⟩
  have := nodup_256 (fun b hb => hB b (h2.2.1 b hb)) (sel_nodup h2)
  simpa using this
theorem sel_end {L R : List Nat} (hB : Byt L) (h : Sel L R) {m : Nat} (hmax : ∀ x, x < 256 → remF L R x ≤ remF L R m ∧ (remF L R x = remF L R m → m ≤ x)) (hp : remF L R m = 0) : Ranked L R := by
  refine ⟨h.1, fun b => ⟨h.2.1 b, fun hb => ?_⟩⟩
  apply Decidable.byContradiction
  intro hn
  have h1 := (hmax b (hB b hb)).1
  have h2 : remF L R b = L.count b := by unfold remF; rw [if_neg hn]
  have h3 := List.count_pos_iff.2 hb
  omega
theorem remF_snoc (L R : List Nat) (m t : Nat) : remF L (R ++ [m]) t = if t = m then 0 else remF L R t := by
  unfold remF
  by_cases e : t = m
  · subst e; simp
  · simp [e]
theorem remF_nil (L : List Nat) : remF L [] = fun b => L.count b := by funext b; simp [remF]
end Go.Proofs.Ytaaahmfkdiogkaa
namespace Go.Proofs.Ytaaahmfkdiogkaa
set_option linter.unusedVariables false
set_option linter.unusedSimpArgs false
open Go.RowKit

/-- The cells of a row of small numbers. -/
def u8s (l : List Nat) : List Value := l.map fun (b : Nat) => Value.int .u8 (b : Int)
theorem u8s_len (l : List Nat) : (u8s l).length = l.length := by simp [u8s]
theorem u8s_snoc (l : List Nat) (b : Nat) : u8s (l ++ [b]) = u8s l ++ [.int .u8 (b : Int)] := by simp [u8s]
theorem u8s_append (l m : List Nat) : u8s (l ++ m) = u8s l ++ u8s m := by simp [u8s]
theorem u8s_one (l : List Nat) : ∀ u ∈ u8s l, u.oneCell' = true := by
  intro u hu
  simp only [u8s, List.mem_map] at hu
  obtain ⟨b, _, rfl⟩ := hu
  rfl
theorem u8s_set (l : List Nat) (k b : Nat) : u8s (l.set k b) = (u8s l).set k (.int .u8 (b : Int)) := by simp [u8s, List.map_set]
theorem u8s_get (l : List Nat) (k : Nat) (h : k < l.length) : (u8s l)[k]? = some (.int .u8 ((l.getD k 0 : Nat) : Int)) := by simp [u8s, List.getD_eq_getElem?_getD, h]
theorem own_ne {w : World} {base g : Nat} {e : TypeId} {size : Nat} {v : Value} {n : Nat} {xs : List Value} (h : w.ownsRow base e size v n xs) (hg : g < base) : some g ≠ v.ownBlock := by
  intro he
  have := (h.lt g he.symm).1
  omega

theorem fold_push (ns : List Nat) (r : ByteArray) : ns.foldl (fun r n => r.push (UInt8.ofNat n)) r = ⟨(r.data.toList ++ ns.map UInt8.ofNat).toArray⟩ := by
  induction ns generalizing r with
  | nil => simp
  | cons n ns ih =>
    rw [List.foldl_cons, ih]
    simp [ByteArray.push]
theorem run_string_own {P : Program} {w : World} {base g n c : Nat} {D : List Nat} {src dst e : TypeId} (hs : P.underlying src = some (.slice e)) (he : P.underlying e = some (.int .u8)) (hd : P.underlying dst = some .string)
    (h : w.ownsRow base e 1 (.slice (some ⟨g, 0, none⟩) n c) n (u8s D)) (hn : D.length = n) :
    (convert src dst (.slice (some ⟨g, 0, none⟩) n c)).run P w = .ok (.string (strOf D)) w := by
  rw [run_convert_bytes_string w src dst e _ _ _ hs he hd]
  have hl := run_loadCells_list (P := P) (w := w) ⟨g, 0, none⟩ (u8s D) (fun j u hu => h.cells (g := g) rfl j u hu)
  rw [u8s_len, hn] at hl
  have e1 : (u8s D).toArray = ((D.map fun (b : Nat) => (b : Int)).map (Value.int .u8)).toArray := by simp [u8s]
  rw [e1] at hl
  rw [run_bytesToString w ⟨g, 0, none⟩ n c _ hl]
  congr 2
  rw [List.foldl_map]
  simp only [Int.toNat_natCast]
  rw [fold_push]
  simp [strOf]
end Go.Proofs.Ytaaahmfkdiogkaa
namespace Go.Proofs.Ytaaahmfkdiogkaa
set_option linter.unusedVariables false
set_option linter.unusedSimpArgs false

/-- The least number of bits in which m numbers can be told apart. -/
def needB (m : Nat) : Nat := if m ≤ 1 then 0 else Nat.log2 (m - 1) + 1
theorem need_up (m : Nat) : m ≤ 2 ^ needB m := by
  unfold needB
  split
  · simp; omega
  · have := log_up (m - 1); omega
theorem need_low (m j : Nat) (h : j < needB m) : 2 ^ j < m := by
  unfold needB at h
  split at h
  · omega
  · have h1 := log_low (n := m - 1) (by omega)
    have h2 : 2 ^ j ≤ 2 ^ Nat.log2 (m - 1) := Nat.pow_le_pow_right (by omega) (by omega)
    omega
theorem need_le (m : Nat) (h : m ≤ 256) : needB m ≤ 8 := by
  rcases Nat.lt_or_ge 8 (needB m) with h2 | h2
  · have := need_low m 8 h2
    omega
  · exact h2
theorem need_one {m n : Nat} (h1 : m ≤ 2 ^ n) (h2 : ∀ j, j < n → 2 ^ j < m) : n = needB m := by
  rcases Nat.lt_trichotomy n (needB m) with h | h | h
  · have := need_low m n h; omega
  · exact h
  · have := h2 _ h; have := need_up m; omega

/-- An order as bits. -/
def putO : List Nat → List Nat → List Nat
  | _, [] => []
  | u, x :: o => nbits (u.idxOf x) (needB u.length) ++ putO (u.erase x) o
theorem putO_lt (u o : List Nat) : ∀ b ∈ putO u o, b < 2 := by
  induction o generalizing u with
  | nil => simp [putO]
  | cons x o ih =>
    intro b hb
    unfold putO at hb
    rcases List.mem_append.1 hb with h | h
    · exact nbits_lt _ _ b h
    · exact ih _ b h
theorem putO_len (u o : List Nat) (h : u.length ≤ 256) : (putO u o).length ≤ 8 * o.length := by
  induction o generalizing u with
  | nil => simp [putO]
  | cons x o ih =>
    unfold putO
    rw [List.length_append, nbits_len, List.length_cons]
    have h1 := need_le u.length h
    have h2 := ih (u.erase x) (by have := List.length_erase_le (a := x) (l := u); omega)
    omega
theorem erase_idx {u : List Nat} {x : Nat} (h : x ∈ u) : u.erase x = u.eraseIdx (u.idxOf x) := List.erase_eq_eraseIdx_of_idxOf rfl
theorem idx_lt {u : List Nat} {x : Nat} (h : x ∈ u) : u.idxOf x < u.length := List.idxOf_lt_length_of_mem h
theorem idx_get {u : List Nat} {x : Nat} (h : x ∈ u) : u.getD (u.idxOf x) 0 = x := by
  rw [List.getD_eq_getElem?_getD, List.getElem?_eq_getElem (idx_lt h), Option.getD_some, List.getElem_idxOf]

/-- An order read from bits, its set being known. -/
def getO (s : ByteArray) : Nat → List Nat → Nat → Option (List Nat × Nat)
  | 0, _, a => some ([], a)
  | f + 1, u, a => if a + needB (f + 1) ≤ 8 * s.size ∧ num (row s a (needB (f + 1))) ≤ f then
      (getO s f (u.eraseIdx (num (row s a (needB (f + 1))))) (a + needB (f + 1))).map (fun r => (u.getD (num (row s a (needB (f + 1)))) 0 :: r.1, r.2)) else none
theorem getO_put (s : ByteArray) : ∀ (o u : List Nat) (a : Nat), u.Perm o → a + (putO u o).length ≤ 8 * s.size → row s a (putO u o).length = putO u o → getO s u.length u a = some (o, a + (putO u o).length) := by
  intro o
  induction o with
  | nil =>
    intro u a hp _ _
    have : u = [] := List.perm_nil.1 hp
    subst this
    rfl
  | cons x o ih =>
    intro u a hp ha hr
    have hx : x ∈ u := hp.mem_iff.2 (List.mem_cons_self ..)
    have hl := hp.length_eq
    simp only [List.length_cons] at hl
    unfold putO at ha hr ⊢
    rw [List.length_append, nbits_len] at ha hr ⊢
    rw [row_add] at hr
    have hr1 := (List.append_inj hr (by rw [row_len, nbits_len])).1
    have hr2 := (List.append_inj hr (by rw [row_len, nbits_len])).2
    have hk := idx_lt hx
    have hn : num (row s a (needB u.length)) = u.idxOf x := by rw [hr1]; exact num_nbits _ _ (Nat.lt_of_lt_of_le hk (need_up _))
    have hp2 : (u.erase x).Perm o := by have := hp.erase x; rwa [List.erase_cons_head] at this
    have h3 := ih (u.erase x) (a + needB u.length) hp2 (by omega) hr2
    rw [hl]
    unfold getO
    rw [← hl, if_pos ⟨by omega, by rw [hn]; omega⟩, hn, ← erase_idx hx]
    rw [show o.length = (u.erase x).length by rw [hp2.length_eq], h3, idx_get hx]
    simp [Nat.add_assoc]
theorem getO_yes {s : ByteArray} {f v : Nat} {u : List Nat} {a : Nat} (h1 : a + needB (f + 1) ≤ 8 * s.size) (hv : num (row s a (needB (f + 1))) = v) (h2 : v ≤ f) :
    getO s (f + 1) u a = (getO s f (u.eraseIdx v) (a + needB (f + 1))).map (fun r => (u.getD v 0 :: r.1, r.2)) := by
  subst hv
  conv => lhs; unfold getO
  rw [if_pos ⟨h1, h2⟩]
theorem getO_no {s : ByteArray} {f : Nat} {u : List Nat} {a : Nat} (h : ¬ (a + needB (f + 1) ≤ 8 * s.size ∧ num (row s a (needB (f + 1))) ≤ f)) : getO s (f + 1) u a = none := by unfold getO; rw [if_neg h]
theorem getO_len {s : ByteArray} : ∀ {f : Nat} {u : List Nat} {a : Nat} {o : List Nat} {e : Nat}, a ≤ 8 * s.size → getO s f u a = some (o, e) → o.length = f ∧ e ≤ 8 * s.size := by
  intro f
  induction f with
  | zero =>
    intro u a o e ha h
    simp only [getO, Option.some.injEq, Prod.mk.injEq] at h
    obtain ⟨rfl, rfl⟩ := h
    exact ⟨rfl, ha⟩
  | succ f ih =>
    intro u a o e ha h
    unfold getO at h
    split at h
    · rename_i hc
      rw [Option.map_eq_some_iff] at h
      obtain ⟨⟨o2, e2⟩, h1, h2⟩ := h
      simp only [Prod.mk.injEq] at h2
      obtain ⟨rfl, rfl⟩ := h2
      have h3 := ih (by omega) h1
      exact ⟨by simp [h3.1], h3.2⟩
    · cases h

/-- Which of the sixteen bytes of group g are in u. -/
def mem16 (u : List Nat) (g : Nat) : List Nat := (List.range 16).map fun p => if 16 * g + p ∈ u then 1 else 0
def has16 (u : List Nat) (g : Nat) : Nat := if 1 ∈ mem16 u g then 1 else 0
def grp16 (u : List Nat) (g : Nat) : List Nat := if has16 u g = 1 then mem16 u g else []
/-- A set as bits. -/
def usedHead (u : List Nat) : List Nat := (List.range 16).map (has16 u)
def usedRest (u : List Nat) (k : Nat) : List Nat := (List.range k).flatMap (grp16 u)
def usedBits (u : List Nat) : List Nat := usedHead u ++ usedRest u 16
theorem mem16_len (u : List Nat) (g : Nat) : (mem16 u g).length = 16 := by simp [mem16]
theorem mem16_lt (u : List Nat) (g : Nat) : ∀ b ∈ mem16 u g, b < 2 := by
  intro b hb
  simp only [mem16, List.mem_map] at hb
  obtain ⟨p, _, rfl⟩ := hb
  split <;> omega
theorem has16_lt (u : List Nat) (g : Nat) : has16 u g < 2 := by unfold has16; split <;> omega
theorem grp16_len (u : List Nat) (g : Nat) : (grp16 u g).length ≤ 16 := by unfold grp16; split <;> simp [mem16_len]
theorem usedRest_succ (u : List Nat) (k : Nat) : usedRest u (k + 1) = usedRest u k ++ grp16 u k := by simp [usedRest, List.range_succ]
theorem usedRest_len (u : List Nat) (k : Nat) : (usedRest u k).length ≤ 16 * k := by
  induction k with
  | zero => simp [usedRest]
  | succ k ih => rw [usedRest_succ, List.length_append]; have := grp16_len u k; omega
theorem usedBits_len (u : List Nat) : (usedBits u).length ≤ 272 := by
  unfold usedBits; rw [List.length_append]; have := usedRest_len u 16; simp [usedHead]; omega
theorem usedBits_lt (u : List Nat) : ∀ b ∈ usedBits u, b < 2 := by
  intro b hb
  unfold usedBits at hb
  rcases List.mem_append.1 hb with h | h
  · simp only [usedHead, List.mem_map] at h
    obtain ⟨g, _, rfl⟩ := h
    exact has16_lt u g
  · simp only [usedRest, List.mem_flatMap] at h
    obtain ⟨g, _, h⟩ := h
    unfold grp16 at h
    split at h
    · exact mem16_lt u g b h
    · cases h
theorem nbits_num7 (l : List Nat) (h : ∀ b ∈ l, b < 2) : nbits (num l) l.length = l := by
  induction l with
  | nil => rfl
  | cons b l ih =>
    have hb := h b (by simp)
    have ih' := ih fun c hc => h c (by simp [hc])
    have hlt := num_lt l fun c hc => h c (by simp [hc])
    have e : num (b :: l) = b * 2 ^ l.length + num l := by
      have := num_append [b] l
      simpa [num] using this
    rw [List.length_cons, show l.length + 1 = 1 + l.length by omega, e, nbits_add, Nat.add_comm (b * _), Nat.add_mul_div_right _ _ (Nat.two_pow_pos _), Nat.div_eq_of_lt hlt, Nat.add_mul_mod_self_right, Nat.mod_eq_of_lt hlt, ih']
    simp [nbits]; omega

/-- The places that a mask of sixteen bits shows. -/
def places (m : Nat) : List Nat := (List.range 16).filter fun p => decide (m / 2 ^ (15 - p) % 2 = 1)
theorem places_lt (m : Nat) : ∀ p ∈ places m, p < 16 := by intro p hp; simp [places] at hp; exact hp.1
/-- The groups gs read from bits. -/
def getG (s : ByteArray) : List Nat → Nat → Option (List Nat × Nat)
  | [], a => some ([], a)
  | g :: gs, a => if a + 16 ≤ 8 * s.size ∧ num (row s a 16) ≠ 0 then (getG s gs (a + 16)).map (fun r => ((places (num (row s a 16))).map (fun p => 16 * g + p) ++ r.1, r.2)) else none
/-- A set read from bits. -/
def getU (s : ByteArray) (a : Nat) : Option (List Nat × Nat) := if a + 16 ≤ 8 * s.size ∧ num (row s a 16) ≠ 0 then getG s (places (num (row s a 16))) (a + 16) else none

theorem flat_congr {α β : Type} {f g : α → List β} {l : List α} (h : ∀ a ∈ l, f a = g a) : l.flatMap f = l.flatMap g := by
  induction l with
  | nil => rfl
  | cons a l ih => rw [List.flatMap_cons, List.flatMap_cons, h a (List.mem_cons_self ..), ih (fun b hb => h b (List.mem_cons_of_mem _ hb))]
theorem flat_filter {α β : Type} (P : α → Bool) (f : α → List β) (l : List α) : (l.filter P).flatMap f = l.flatMap (fun g => if P g = true then f g else []) := by
  induction l with
  | nil => rfl
  | cons a l ih =>
    rw [List.filter_cons]
    split
    · rename_i h; rw [List.flatMap_cons, List.flatMap_cons, ih, if_pos h]
    · rename_i h; rw [List.flatMap_cons, ih, if_neg h, List.nil_append]
theorem mask_bit {l : List Nat} (hl : l.length = 16) (h : ∀ b ∈ l, b < 2) (p : Nat) (hp : p < 16) : num l / 2 ^ (15 - p) % 2 = l.getD p 0 := by
  have h1 := nbits_num7 l h
  rw [hl] at h1
  have h2 := nbits_get (num l) 16 p hp
  rw [h1] at h2
  rw [h2]
theorem places_num {l : List Nat} (hl : l.length = 16) (h : ∀ b ∈ l, b < 2) : places (num l) = (List.range 16).filter fun p => decide (l.getD p 0 = 1) := by
  unfold places
  apply List.filter_congr
  intro p hp
  rw [List.mem_range] at hp
  rw [mask_bit hl h p hp]
theorem num_zero_not {l : List Nat} (hl : l.length = 16) (h : ∀ b ∈ l, b < 2) (h1 : 1 ∈ l) : num l ≠ 0 := by
  intro h0
  have h2 := nbits_num7 l h
  rw [h0, hl] at h2
  rw [← h2] at h1
  simp [nbits] at h1
theorem mem16_get (u : List Nat) (g p : Nat) (hp : p < 16) : (mem16 u g).getD p 0 = if 16 * g + p ∈ u then 1 else 0 := by simp [mem16, List.getD_eq_getElem?_getD, hp]
theorem has16_iff (u : List Nat) (g : Nat) : has16 u g = 1 ↔ ∃ p, p < 16 ∧ 16 * g + p ∈ u := by
  unfold has16
  have : 1 ∈ mem16 u g ↔ ∃ p, p < 16 ∧ 16 * g + p ∈ u := by
    simp only [mem16, List.mem_map, List.mem_range]
    constructor
    · rintro ⟨p, hp, h⟩
      refine ⟨p, hp, ?_⟩
      split at h
      · assumption
      · omega
    · rintro ⟨p, hp, h⟩
      exact ⟨p, hp, by rw [if_pos h]⟩
  rw [← this]
  split <;> simp_all
theorem getG_put (s : ByteArray) (u : List Nat) : ∀ (gs : List Nat) (a : Nat), (∀ g ∈ gs, has16 u g = 1) → a + (gs.flatMap (mem16 u)).length ≤ 8 * s.size → row s a (gs.flatMap (mem16 u)).length = gs.flatMap (mem16 u) →
    getG s gs a = some (gs.flatMap (fun g => ((List.range 16).filter fun p => decide (16 * g + p ∈ u)).map (fun p => 16 * g + p)), a + (gs.flatMap (mem16 u)).length) := by
  intro gs
  induction gs with
  | nil => intro a _ _ _; rfl
  | cons g gs ih =>
    intro a hg ha hr
    simp only [List.flatMap_cons, List.length_append, mem16_len] at ha hr ⊢
    rw [row_add] at hr
    have hr1 := (List.append_inj hr (by rw [row_len, mem16_len])).1
    have hr2 := (List.append_inj hr (by rw [row_len, mem16_len])).2
    have h3 := ih (a + 16) (fun g h => hg g (List.mem_cons_of_mem _ h)) (by omega) hr2
    have h1 : 1 ∈ mem16 u g := by
      have := hg g (List.mem_cons_self ..)
      unfold has16 at this
      split at this
      · assumption
      · omega
    unfold getG
    rw [hr1, if_pos ⟨by omega, num_zero_not (mem16_len u g) (mem16_lt u g) h1⟩, h3, places_num (mem16_len u g) (mem16_lt u g)]
    simp only [Option.map_some, List.flatMap_cons, Option.some.injEq, Prod.mk.injEq]
    refine ⟨?_, by omega⟩
    congr 2
    apply List.filter_congr
    intro p hp
    rw [List.mem_range] at hp
    rw [mem16_get u g p hp]
    split <;> simp_all
theorem range256 : List.range 256 = (List.range 16).flatMap (fun g => (List.range 16).map (fun p => 16 * g + p)) := by decide +kernel
theorem used_groups {u : List Nat} (hb : Byt u) : ((List.range 16).filter (fun g => decide (has16 u g = 1))).flatMap (fun g => ((List.range 16).filter fun p => decide (16 * g + p ∈ u)).map (fun p => 16 * g + p)) = usedL u := by
  rw [flat_filter]
  unfold usedL usedTo
  rw [range256, List.filter_flatMap]
  apply flat_congr
  intro g hg
  rw [List.filter_map]
  have e : ((List.range 16).filter fun p => decide (16 * g + p ∈ u)) = (List.range 16).filter ((fun b => decide (0 < List.count b u)) ∘ fun p => 16 * g + p) := by
    apply List.filter_congr
    intro p _
    simp [List.count_pos_iff]
  rw [← e]
  by_cases h : has16 u g = 1
  · simp [h]
  · rw [if_neg (by simpa using h)]
    have : ((List.range 16).filter fun p => decide (16 * g + p ∈ u)) = [] := by
      rw [List.filter_eq_nil_iff]
      intro p hp hh
      rw [List.mem_range] at hp
      exact h ((has16_iff u g).2 ⟨p, hp, by simpa using hh⟩)
    rw [this]; rfl
theorem usedHead_len (u : List Nat) : (usedHead u).length = 16 := by simp [usedHead]
theorem usedHead_lt (u : List Nat) : ∀ b ∈ usedHead u, b < 2 := by
  intro b h
  simp only [usedHead, List.mem_map] at h
  obtain ⟨g, _, rfl⟩ := h
  exact has16_lt u g
theorem usedHead_get (u : List Nat) (g : Nat) (hg : g < 16) : (usedHead u).getD g 0 = has16 u g := by simp [usedHead, List.getD_eq_getElem?_getD, hg]
theorem used_some {u : List Nat} (hb : Byt u) (h0 : u ≠ []) : ∃ g, g < 16 ∧ has16 u g = 1 := by
  obtain ⟨b, hbu⟩ := List.exists_mem_of_ne_nil u h0
  have := hb b hbu
  exact ⟨b / 16, by omega, (has16_iff u _).2 ⟨b % 16, by omega, by rwa [Nat.div_add_mod]⟩⟩
theorem getU_put {s : ByteArray} {u : List Nat} {a : Nat} (hb : Byt u) (hu : setOk u = true) (ha : a + (usedBits u).length ≤ 8 * s.size) (hr : row s a (usedBits u).length = usedBits u) : getU s a = some (u, a + (usedBits u).length) := by
  have hu2 := (setOk_iff u).1 hu
  have hR : usedRest u 16 = ((List.range 16).filter (fun g => decide (has16 u g = 1))).flatMap (mem16 u) := by
    rw [flat_filter]
    unfold usedRest
    apply flat_congr
    intro g _
    unfold grp16
    simp
  have hP : places (num (usedHead u)) = (List.range 16).filter (fun g => decide (has16 u g = 1)) := by
    rw [places_num (usedHead_len u) (usedHead_lt u)]
    apply List.filter_congr
    intro g hg
    rw [List.mem_range] at hg
    rw [usedHead_get u g hg]
  have h1 : 1 ∈ usedHead u := by
    obtain ⟨g, hg, h⟩ := used_some hb hu2.1
    rw [← h]
    exact List.mem_map_of_mem (List.mem_range.2 hg)
  unfold usedBits at ha hr ⊢
  rw [List.length_append, usedHead_len] at ha hr ⊢
  rw [row_add] at hr
  have hr1 := (List.append_inj hr (by rw [row_len, usedHead_len])).1
  have hr2 := (List.append_inj hr (by rw [row_len, usedHead_len])).2
  unfold getU
  rw [hr1, if_pos ⟨by omega, num_zero_not (usedHead_len u) (usedHead_lt u) h1⟩, hP]
  rw [hR] at ha hr2 ⊢
  rw [getG_put s u _ (a + 16) (fun g hg => by simpa using (List.mem_filter.1 hg).2) (by omega) hr2, used_groups hb, hu2.2, Nat.add_assoc]

/-- The places from g on. -/
def placesFrom (m g : Nat) : List Nat := (List.range' g (16 - g)).filter fun p => decide (m / 2 ^ (15 - p) % 2 = 1)
theorem placesFrom_zero (m : Nat) : placesFrom m 0 = places m := by unfold placesFrom places; rw [List.range_eq_range']
theorem placesFrom_end (m : Nat) : placesFrom m 16 = [] := rfl
theorem placesFrom_step (m g : Nat) (h : g < 16) : placesFrom m g = if m / 2 ^ (15 - g) % 2 = 1 then g :: placesFrom m (g + 1) else placesFrom m (g + 1) := by
  unfold placesFrom
  rw [show 16 - g = (16 - (g + 1)) + 1 by omega, List.range'_succ, List.filter_cons]
  simp
/-- The first places, up to p. -/
def placesTo (m p : Nat) : List Nat := (List.range p).filter fun p => decide (m / 2 ^ (15 - p) % 2 = 1)
theorem placesTo_succ (m p : Nat) : placesTo m (p + 1) = if m / 2 ^ (15 - p) % 2 = 1 then placesTo m p ++ [p] else placesTo m p := by
  unfold placesTo
  rw [List.range_succ, List.filter_append]
  split <;> simp_all
theorem placesTo_len (m p : Nat) : (placesTo m p).length ≤ p := by
  unfold placesTo
  have := List.length_filter_le (fun q => decide (m / 2 ^ (15 - q) % 2 = 1)) (List.range p)
  simpa using this
theorem places_ne {s : ByteArray} {a : Nat} (h : num (row s a 16) ≠ 0) : places (num (row s a 16)) ≠ [] := by
  intro e
  apply h
  rw [num_zero_bits]
  intro i hi
  rw [places_num (row_len s a 16) (row_bits s a 16), List.filter_eq_nil_iff] at e
  have h1 := e i (List.mem_range.2 hi)
  have h2 := bit_lt s (a + i)
  have h3 : (row s a 16).getD i 0 = bit s (a + i) := by simp [row, List.getD_eq_getElem?_getD, hi]
  rw [h3] at h1
  simp at h1
  omega
theorem getG_le {s : ByteArray} : ∀ {gs : List Nat} {a : Nat} {u : List Nat} {e : Nat}, a ≤ 8 * s.size → getG s gs a = some (u, e) → e ≤ 8 * s.size ∧ (gs ≠ [] → u ≠ []) := by
  intro gs
  induction gs with
  | nil =>
    intro a u e ha h
    simp only [getG, Option.some.injEq, Prod.mk.injEq] at h
    obtain ⟨rfl, rfl⟩ := h
    exact ⟨ha, fun h => absurd rfl h⟩
  | cons g gs ih =>
    intro a u e ha h
    unfold getG at h
    split at h
    · rename_i hc
      rw [Option.map_eq_some_iff] at h
      obtain ⟨⟨u2, e2⟩, h1, h2⟩ := h
      simp only [Prod.mk.injEq] at h2
      obtain ⟨rfl, rfl⟩ := h2
      refine ⟨(ih (by omega) h1).1, fun _ h3 => ?_⟩
      have h4 := (List.append_eq_nil_iff.1 h3).1
      exact places_ne hc.2 (List.map_eq_nil_iff.1 h4)
    · cases h
theorem getU_some {s : ByteArray} {a : Nat} {u : List Nat} {e : Nat} (h : getU s a = some (u, e)) : e ≤ 8 * s.size ∧ u ≠ [] := by
  unfold getU at h
  split at h
  · rename_i hc
    have h1 := getG_le (by omega) h
    exact ⟨h1.1, h1.2 (places_ne hc.2)⟩
  · cases h
theorem getG_no {s : ByteArray} {gs : List Nat} {g a : Nat} (h : ¬ (a + 16 ≤ 8 * s.size ∧ num (row s a 16) ≠ 0)) : getG s (g :: gs) a = none := by unfold getG; rw [if_neg h]
theorem getG_yes {s : ByteArray} {gs : List Nat} {g a : Nat} (h1 : a + 16 ≤ 8 * s.size) (h2 : num (row s a 16) ≠ 0) : getG s (g :: gs) a = (getG s gs (a + 16)).map (fun r => ((places (num (row s a 16))).map (fun p => 16 * g + p) ++ r.1, r.2)) := by
  conv => lhs; unfold getG
  rw [if_pos ⟨h1, h2⟩]
theorem map_map_app {o : Option (List Nat × Nat)} (A B : List Nat) : (o.map (fun r => (B ++ r.1, r.2))).map (fun r => (A ++ r.1, r.2)) = o.map (fun r => (A ++ B ++ r.1, r.2)) := by
  cases o with
  | none => rfl
  | some r => simp
theorem map_cons_app {o : Option (List Nat × Nat)} (A : List Nat) (x : Nat) : (o.map (fun r => (x :: r.1, r.2))).map (fun r => (A ++ r.1, r.2)) = o.map (fun r => ((A ++ [x]) ++ r.1, r.2)) := by
  cases o with
  | none => rfl
  | some r => simp
theorem map_app_nil (o : Option (List Nat × Nat)) : o.map (fun r => (([] : List Nat) ++ r.1, r.2)) = o := by cases o <;> rfl
end Go.Proofs.Ytaaahmfkdiogkaa
namespace Go.Proofs.Ytaaahmfkdiogkaa
set_option linter.unusedVariables false
set_option linter.unusedSimpArgs false
open Go.RowKit

theorem l1one_any (s : ByteArray) (k : Nat) (w : World) (hs : s.size ≤ maxLen) (hk : k / 8 < s.size) :
    Calls Try.prog 137 #[.string s, .int .i64 k] w fun e w' => e = .returned (.int .u8 (bit s k)) ∧ w = w' := by
  unfold maxLen at hs
  go_enter Try.func137, Try.ntmps137
  go_wp2
  go_ret
  refine ⟨ret_int ?_, rfl⟩
  have h1 : s[k / 8].toNat / 2 ^ (7 - k % 8) < 256 := Nat.lt_of_le_of_lt (Nat.div_le_self _ _) (UInt8.toNat_lt _)
  have h2 := u8_and_nat _ 1 h1 (by omega)
  rw [nat_mask1] at h2
  rw [bit, ← byteAt_get _ _ hk, ← h2]
  simp

end Go.Proofs.Ytaaahmfkdiogkaa
namespace Go.Proofs.Ytaaahmfkdiogkaa
set_option linter.unusedVariables false
set_option linter.unusedSimpArgs false
open Go.RowKit

theorem specRdOk_yes (s : ByteArray) (a : Nat) (w : World) (hs : s.size ≤ 1048576) (hl : a ≤ 8 * s.size) :
    Calls Try.prog 73 #[.agg #[.string s, .int .i64 a]] w fun e w' => e = .returned (.bool true) ∧ Below w.heap.size w w' := by
  have hx : ((a : Int) ≤ 8 * (s.size : Int)) := by omega
  go_enter Try.func73, Try.ntmps73
  go_wp2
  go_ret
  exact ⟨rfl, (Below.refl _ _).alloc (Nat.le_refl _) _⟩
theorem specRdOk_no (s : ByteArray) (a : Int) (w : World) (hs : s.size ≤ 1048576) (b1 : -9223372036854775808 ≤ a) (b2 : a ≤ 9223372036854775807) (h : ¬ (0 ≤ a ∧ a ≤ 8 * s.size)) :
    Calls Try.prog 73 #[.agg #[.string s, .int .i64 a]] w fun e w' => e = .returned (.bool false) ∧ Below w.heap.size w w' := by
  by_cases h0 : 0 ≤ a
  · have hx : ¬ (a ≤ 8 * (s.size : Int)) := by omega
    clear h
    go_enter Try.func73, Try.ntmps73
    go_wp2
    go_ret
    exact ⟨rfl, (Below.refl _ _).alloc (Nat.le_refl _) _⟩
  · clear h
    go_enter Try.func73, Try.ntmps73
    go_wp2
    go_ret
    exact ⟨rfl, (Below.refl _ _).alloc (Nat.le_refl _) _⟩
end Go.Proofs.Ytaaahmfkdiogkaa
namespace Go.Proofs.Ytaaahmfkdiogkaa
set_option linter.unusedVariables false
set_option linter.unusedSimpArgs false
open Go.RowKit

theorem okB_room {s : ByteArray} {n : Nat} (h : okB s n = true) : n ≤ 400000 ∧ n ≤ 8 * s.size ∧ s.size ≤ 50000 := by
  rw [okB_nat] at h; omega

theorem own_below {w w' : World} {base : Nat} {e : TypeId} {size : Nat} {v : Value} {n : Nat} {xs : List Value} (h : w.ownsRow base e size v n xs) (hb : Below w.heap.size w w') : w'.ownsRow base e size v n xs :=
  h.kept (row := none) ⟨hb.os, hb.tape, hb.output, hb.size, fun i hi _ => hb.block i hi⟩ (by cases hv : v.ownBlock <;> simp)

end Go.Proofs.Ytaaahmfkdiogkaa
namespace Go.Proofs.Ytaaahmfkdiogkaa
set_option linter.unusedVariables false
set_option linter.unusedSimpArgs false
open Go.RowKit

theorem implRdOk_yes (s : ByteArray) (a : Nat) (w : World) (hs : s.size ≤ 1048576) (hl : a ≤ 8 * s.size) :
    Calls Try.prog 75 #[.agg #[.string s, .int .i64 a]] w fun e w' => e = .returned (.bool true) ∧ Below w.heap.size w w' := by
  have hx : ((a : Int) ≤ 8 * (s.size : Int)) := by omega
  go_enter Try.func75, Try.ntmps75
  go_wp2
  go_ret
  exact ⟨rfl, (Below.refl _ _).alloc (Nat.le_refl _) _⟩
theorem implRdOk_no (s : ByteArray) (a : Int) (w : World) (hs : s.size ≤ 1048576) (b1 : -9223372036854775808 ≤ a) (b2 : a ≤ 9223372036854775807) (h : ¬ (0 ≤ a ∧ a ≤ 8 * s.size)) :
    Calls Try.prog 75 #[.agg #[.string s, .int .i64 a]] w fun e w' => e = .returned (.bool false) ∧ Below w.heap.size w w' := by
  by_cases h0 : 0 ≤ a
  · have hx : ¬ (a ≤ 8 * (s.size : Int)) := by omega
    clear h
    go_enter Try.func75, Try.ntmps75
    go_wp2
    go_ret
    exact ⟨rfl, (Below.refl _ _).alloc (Nat.le_refl _) _⟩
  · clear h
    go_enter Try.func75, Try.ntmps75
    go_wp2
    go_ret
    exact ⟨rfl, (Below.refl _ _).alloc (Nat.le_refl _) _⟩

end Go.Proofs.Ytaaahmfkdiogkaa
