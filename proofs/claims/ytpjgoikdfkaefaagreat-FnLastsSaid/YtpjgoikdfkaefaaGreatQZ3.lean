/- Merged: Base, Mem, Ret, C1One, Stb, Ints, Rec, Rot, Alph, Str, Nats, Alph2, C1SRd0, C1Ok, C1IOk, C1, I7M. -/
import Derived.Test.YtpjgoikdfkaefaaGreatProg
import Derived.Test.YtpjgoikdfkaefaaGreatQZ1
import Derived.WalkKit
import Derived.ProofKit
import Derived.OpenShut
import Derived.ShutString
import Derived.ChangeOld
import Derived.Below
import Derived.Carry
import Derived.Lib.SmallJoins
import Derived.Deep.Draws
import Derived.OwnWalk
import Derived.Laws.OwnMore
import Derived.Laws.Rows
import Derived.Laws.BytesString
import Derived.Maps.OwnSet
import Derived.Maps.OwnOps
namespace Go.Proofs.YtpjgoikdfkaefaaGreat
set_option linter.unusedVariables false
set_option linter.unusedSimpArgs false
open Go.ChangeShapes Go.WideShapes Go.ChangeAt Go.RowKit Go.Joins Go.Deep

/-- A slice of integers that came in: nil, or a row of cells. -/
def IsRow (k : IntKind) (w : World) (a : Option Addr) (len cap : Nat) (zs : List Int) : Prop :=
  (a = none ∧ len = 0 ∧ cap = 0 ∧ zs = []) ∨
  ∃ x, a = some x ∧ len ≤ cap ∧ cap ≤ maxLen ∧ zs.length = cap ∧ (∀ i, i < zs.length → w.cell? (x.add i) = some (.int k (zs.getD i 0))) ∧ ∀ n ∈ zs, (Lit.int k n).wf = true

/-- A struct of a string and an int, by value. -/
theorem open_si {H : Type} {enc : TypeId × Value → H} {P : Program} {w : World} {base : Nat} {spare : Nat → Bool} {held : Bool} {r : Reach} {b0 : Nat} {t : TypeId} {v : Value} {d : DataW H} {p : List MemPlace}
    {f0 f1 : Field} (hs : P.underlying t = some (.struct #[f0, f1])) (hone : oneCellFields P #[f0, f1] = true) (hC : P.cellsOf t = 2) (e0 : P.underlying f0.type = some .string) (e1 : P.underlying f1.type = some (.int .i64))
    (hv : Value.okWide P w r b0 t v) (h : DataW.Trod enc P w base spare held t v d p) :
    ∃ (s : ByteArray) (n : Int), v = .agg #[.string s, .int .i64 n] ∧ s.size ≤ maxLen ∧ (Lit.int .i64 n).wf = true := by
  obtain ⟨c0, c1, y0, y1, m, rfl, _, _, hy0, hy1⟩ := open_agg2 hs hone hC hv h
  obtain ⟨s, q0, _, hsz⟩ := DataW.trod_string e0 hy0
  obtain ⟨n, q1, _, wn⟩ := DataW.trod_int e1 hy1
  simp at q0 q1
  subst q0 q1
  exact ⟨s, n, rfl, hsz, wn⟩

theorem bcell {W w1 : World} (hb : Below W.heap.size W w1) : (∀ b o, b < W.heap.size → w1.cell? ⟨b, o, none⟩ = W.cell? ⟨b, o, none⟩) ∧ (∀ b o, b < W.heap.size → w1.frozen? ⟨b, o, none⟩ = W.frozen? ⟨b, o, none⟩) :=
  ⟨fun b o h => hb.cell (p := ⟨b, o, none⟩) h, fun b o h => hb.frozen (p := ⟨b, o, none⟩) h⟩

theorem bcell3 {W w1 : World} (hb : Below W.heap.size W w1) : (∀ b o, b < W.heap.size → w1.cell? ⟨b, o, none⟩ = W.cell? ⟨b, o, none⟩) ∧ (∀ b o, b < W.heap.size → w1.frozen? ⟨b, o, none⟩ = W.frozen? ⟨b, o, none⟩) ∧ (∀ b, b < W.heap.size → b < w1.heap.size) :=
  ⟨fun b o h => hb.cell (p := ⟨b, o, none⟩) h, fun b o h => hb.frozen (p := ⟨b, o, none⟩) h, fun _ h => Nat.lt_of_lt_of_le h hb.size⟩
theorem bel_thenB {B B' : Nat} {a b c : World} (k : Below B' b c) (hB : B ≤ B') (h : Below B a b) : Below B a c := h.trans (k.mono hB)
theorem hidden {p : Prop} (h : p) : Hid p := h
theorem bel_then {B : Nat} {a b c : World} (k : Below b.heap.size b c) (hB : B ≤ b.heap.size) (h : Below B a b) : Below B a c := h.trans (k.mono hB)

end Go.Proofs.YtpjgoikdfkaefaaGreat
namespace Go.Proofs.YtpjgoikdfkaefaaGreat
set_option linter.unusedVariables false
set_option linter.unusedSimpArgs false
open Go.RowKit

/-- Block g is made of the cells cs, of element type t, none frozen. -/
def Has (w : World) (g : Nat) (t : TypeId) (cs : Array Value) : Prop := w.heap[g]? = some (.cells cs t (0, 0))
theorem Has.lt {w : World} {g : Nat} {t : TypeId} {cs : Array Value} (h : Has w g t cs) : g < w.heap.size := by
  unfold Has at h
  rcases Nat.lt_or_ge g w.heap.size with hl | hl
  · exact hl
  · rw [Array.getElem?_eq_none hl] at h; cases h
theorem Has.cell {w : World} {g : Nat} {t : TypeId} {cs : Array Value} (h : Has w g t cs) (i : Nat) : w.cell? ⟨g, i, none⟩ = cs[i]? := cell_of_row w g i cs t (0, 0) h
theorem Has.free {w : World} {g : Nat} {t : TypeId} {cs : Array Value} (h : Has w g t cs) (i : Nat) : w.frozen? ⟨g, i, none⟩ = false := by
  unfold Has at h; simp [World.frozen?, h]
theorem Has.store {w : World} {g : Nat} {t : TypeId} {cs : Array Value} (h : Has w g t cs) (i : Nat) (u : Value) : Has (w.setCell ⟨g, i, none⟩ u) g t (cs.setIfInBounds i u) := by
  unfold Has at h ⊢; simp [World.setCell, Array.getElem?_modify, h]
theorem Has.storeAway {w : World} {g : Nat} {t : TypeId} {cs : Array Value} (h : Has w g t cs) {p : Addr} (hp : g ≠ p.block) (u : Value) : Has (w.setCell p u) g t cs := (Below.heap_setCell w p u g hp).trans h
theorem Has.alloc {w : World} {g : Nat} {t : TypeId} {cs : Array Value} (h : Has w g t cs) (o : Obj) : Has (w.alloc o) g t cs := (Below.heap_alloc w o g h.lt).trans h
theorem Has.fresh (w : World) (t : TypeId) (cs : Array Value) : Has (w.alloc (.cells cs t)) w.heap.size t cs := heap_alloc_new w _
theorem Has.freshAt {w : World} {g : Nat} (h : w.heap.size = g) (t : TypeId) (cs : Array Value) : Has (w.alloc (.cells cs t)) g t cs := by subst h; exact Has.fresh _ _ _
theorem Has.drew {w : World} {g : Nat} {t : TypeId} {cs : Array Value} (h : Has w g t cs) : Has w.drew g t cs := h
theorem Has.drewN {w : World} {g : Nat} {t : TypeId} {cs : Array Value} (h : Has w g t cs) (n : Nat) : Has (w.drewN n) g t cs := h
theorem Has.below {w w' : World} {g B : Nat} {t : TypeId} {cs : Array Value} (h : Has w g t cs) (hb : Below B w w') (hg : g < B) : Has w' g t cs := (hb.block g hg).trans h
theorem Has.grown {w w' : World} {g : Nat} {row : Option Nat} {t : TypeId} {cs : Array Value} (h : Has w g t cs) (hb : w.grownBy w' row) (hg : some g ≠ row) : Has w' g t cs := (hb.block g h.lt hg).trans h

/-- Only block g (and what is new) may have turned from a to w. -/
def Only (g : Nat) (a w : World) : Prop := a.grownBy w (some g)
theorem Only.refl (g : Nat) (w : World) : Only g w w := World.grownBy.refl w _
theorem Only.drew {g : Nat} {a w : World} (h : Only g a w) : Only g a w.drew := ⟨h.os, h.tape, h.output, h.size, h.block⟩
theorem Only.drewN {g : Nat} {a w : World} (h : Only g a w) (n : Nat) : Only g a (w.drewN n) := ⟨h.os, h.tape, h.output, h.size, h.block⟩
theorem Only.alloc {g : Nat} {a w : World} (h : Only g a w) (o : Obj) : Only g a (w.alloc o) :=
  ⟨h.os, h.tape, h.output, Nat.le_trans h.size (by simp), fun i hi hne => (Below.heap_alloc w o i (Nat.lt_of_lt_of_le hi h.size)).trans (h.block i hi hne)⟩
theorem Only.store {g : Nat} {a w : World} (h : Only g a w) {p : Addr} (hp : p.block = g ∨ a.heap.size ≤ p.block) (u : Value) : Only g a (w.setCell p u) :=
  ⟨h.os, h.tape, h.output, by simpa [World.setCell] using h.size, fun i hi hne => (Below.heap_setCell w p u i (by
    rintro rfl
    rcases hp with hp | hp
    · exact hne (by rw [hp])
    · omega)).trans (h.block i hi hne)⟩
theorem Only.below {g B : Nat} {a w : World} (h : Only g a w) (hB : B ≤ g) (hs : B ≤ a.heap.size) : Below B a w :=
  ⟨h.os, h.tape, h.output, h.size, fun i hi => h.block i (Nat.lt_of_lt_of_le hi hs) (by simp; omega)⟩
theorem Only.has {g g' : Nat} {a w : World} {t : TypeId} {cs : Array Value} (h : Only g a w) (hh : Has a g' t cs) (hne : g' ≠ g) : Has w g' t cs := hh.grown h (by simpa using hne)
theorem bel_drewN {B : Nat} {a w : World} (h : Below B a w) (n : Nat) : Below B a (w.drewN n) := ⟨h.os, h.tape, h.output, h.size, h.block⟩
theorem ocell {g : Nat} {a w : World} (h : Only g a w) : (∀ b o, b < a.heap.size → b ≠ g → w.cell? ⟨b, o, none⟩ = a.cell? ⟨b, o, none⟩) ∧ (∀ b o, b < a.heap.size → b ≠ g → w.frozen? ⟨b, o, none⟩ = a.frozen? ⟨b, o, none⟩) :=
  ⟨fun b o h1 h2 => World.cell?_of_block (w := a) (a := ⟨b, o, none⟩) (h.block b h1 (by simpa using h2)), fun b o h1 h2 => World.frozen?_of_block (w := a) (a := ⟨b, o, none⟩) (h.block b h1 (by simpa using h2))⟩
theorem only_then {B g : Nat} {a b c : World} (k : Only g b c) (hg : B ≤ g) (hB : B ≤ b.heap.size) (h : Below B a b) : Below B a c := h.trans (k.below hg hB)
theorem Only.grownNew {g : Nat} {a w w' : World} {row : Option Nat} (h : Only g a w) (hg : w.grownBy w' row) (hr : ∀ k, row = some k → a.heap.size ≤ k) : Only g a w' :=
  ⟨hg.os.trans h.os, hg.tape.trans h.tape, hg.output.trans h.output, Nat.le_trans h.size hg.size, fun i hi hne => (hg.block i (Nat.lt_of_lt_of_le hi h.size) (fun e => by have := hr i e.symm; omega)).trans (h.block i hi hne)⟩
end Go.Proofs.YtpjgoikdfkaefaaGreat
namespace Go.Proofs.YtpjgoikdfkaefaaGreat
set_option linter.unusedVariables false
set_option linter.unusedSimpArgs false
open Go.RowKit

theorem ret_int {k : IntKind} {a b : Int} (h : a = b) : Ending.returned (.int k a) = .returned (.int k b) := by rw [h]
theorem ret_bool {a b : Bool} (h : a = b) : Ending.returned (.bool a) = .returned (.bool b) := by rw [h]
theorem Tryz.info5 : (Tryz.prog.info? 5).map (fun i => (i.zero, i.size, i.bytes)) = some (some (.int .u8 0), 1, 1) := by kernel_rfl
end Go.Proofs.YtpjgoikdfkaefaaGreat
namespace Go.Proofs.YtpjgoikdfkaefaaGreat
set_option linter.unusedVariables false
set_option linter.unusedSimpArgs false
open Go.RowKit

end Go.Proofs.YtpjgoikdfkaefaaGreat
namespace Go.Proofs.YtpjgoikdfkaefaaGreat
set_option linter.unusedVariables false
set_option linter.unusedSimpArgs false

def idF : Nat → Nat := fun k => k
/-- f2 holds what f holds, between a and b in other places. -/
def Trn (a b : Nat) (f f2 : Nat → Nat) : Prop := ∃ s : Nat → Nat, (∀ k, f2 k = f (s k)) ∧ (∀ k, k < a ∨ b ≤ k → s k = k) ∧ (∀ k, a ≤ k → k < b → a ≤ s k ∧ s k < b) ∧ (∀ i j, s i = s j → i = j)
theorem Trn.refl (a b : Nat) (f : Nat → Nat) : Trn a b f f := ⟨fun k => k, fun _ => rfl, fun _ _ => rfl, fun _ h1 h2 => ⟨h1, h2⟩, fun _ _ h => h⟩
theorem Trn.trans {a b : Nat} {f g h : Nat → Nat} (h1 : Trn a b f g) (h2 : Trn a b g h) : Trn a b f h := by
  obtain ⟨s, a1, a2, a3, a4⟩ := h1
  obtain ⟨t, b1, b2, b3, b4⟩ := h2
  refine ⟨fun k => s (t k), fun k => by rw [b1, a1], fun k hk => ?_, fun k hk hk2 => ?_, fun i j e => b4 _ _ (a4 _ _ e)⟩
  · show s (t k) = k
    rw [b2 k hk, a2 k hk]
  · have := b3 k hk hk2
    exact a3 _ this.1 this.2
theorem Trn.mono {a b a2 b2 : Nat} {f g : Nat → Nat} (h : Trn a b f g) (h1 : a2 ≤ a) (h2 : b ≤ b2) : Trn a2 b2 f g := by
  obtain ⟨s, c1, c2, c3, c4⟩ := h
  refine ⟨s, c1, fun k hk => c2 k (by omega), fun k hk hk2 => ?_, c4⟩
  by_cases hh : k < a ∨ b ≤ k
  · rw [c2 k hh]; omega
  · have := c3 k (by omega) (by omega)
    omega
theorem Trn.out {a b : Nat} {f g : Nat → Nat} (h : Trn a b f g) {k : Nat} (hk : k < a ∨ b ≤ k) : g k = f k := by
  obtain ⟨s, c1, c2, _⟩ := h
  rw [c1, c2 k hk]
theorem Trn.mem {a b : Nat} {f g : Nat → Nat} (h : Trn a b f g) {k : Nat} (h1 : a ≤ k) (h2 : k < b) : ∃ i, a ≤ i ∧ i < b ∧ g k = f i := by
  obtain ⟨s, c1, _, c3, _⟩ := h
  exact ⟨s k, (c3 k h1 h2).1, (c3 k h1 h2).2, c1 k⟩
/-- Two places change what they hold. -/
def swF (f : Nat → Nat) (i j : Nat) : Nat → Nat := fun k => if k = i then f j else if k = j then f i else f k
theorem Trn.sw {a b i j : Nat} (f : Nat → Nat) (h1 : a ≤ i) (h2 : i < b) (h3 : a ≤ j) (h4 : j < b) : Trn a b f (swF f i j) := by
  refine ⟨fun k => if k = i then j else if k = j then i else k, fun k => ?_, fun k hk => ?_, fun k hk hk2 => ?_, fun x y e => ?_⟩
  · show swF f i j k = f (if k = i then j else if k = j then i else k)
    unfold swF
    split
    · rfl
    · split <;> rfl
  · show (if k = i then j else if k = j then i else k) = k
    rw [if_neg (by omega), if_neg (by omega)]
  · show a ≤ (if k = i then j else if k = j then i else k) ∧ (if k = i then j else if k = j then i else k) < b
    split
    · exact ⟨h3, h4⟩
    · split
      · exact ⟨h1, h2⟩
      · exact ⟨hk, hk2⟩
  · revert e
    show (if x = i then j else if x = j then i else x) = (if y = i then j else if y = j then i else y) → x = y
    repeat' split
    all_goals omega

/-- The row rises between a and b. -/
def So (R : Nat → Nat → Prop) (f : Nat → Nat) (a b : Nat) : Prop := ∀ i j, a ≤ i → i < j → j < b → R (f i) (f j)
/-- What lies between a and m has smaller numbers than what lies between m and b. -/
def Cr (f : Nat → Nat) (a m b : Nat) : Prop := ∀ i j, a ≤ i → i < m → m ≤ j → j < b → f i < f j
theorem So.sub {R : Nat → Nat → Prop} {f : Nat → Nat} {a b a2 b2 : Nat} (h : So R f a b) (h1 : a ≤ a2) (h2 : b2 ≤ b) : So R f a2 b2 := fun i j c1 c2 c3 => h i j (by omega) c2 (by omega)
theorem So.of {R : Nat → Nat → Prop} {f g : Nat → Nat} {a b : Nat} (h : So R f a b) (he : ∀ k, a ≤ k → k < b → g k = f k) : So R g a b := fun i j c1 c2 c3 => by
  rw [he i c1 (by omega), he j (by omega) c3]; exact h i j c1 c2 c3
theorem So.moved {R : Nat → Nat → Prop} {f g : Nat → Nat} {a b a2 : Nat} (h : So R f a b) (n : Nat) (hn : a2 + (b - a) = n) (he : ∀ k, a2 ≤ k → k < n → g k = f (a + (k - a2))) : So R g a2 n := fun i j c1 c2 c3 => by
  rw [he i c1 (by omega), he j (by omega) c3]; exact h _ _ (by omega) (by omega) (by omega)
theorem So.short {R : Nat → Nat → Prop} (f : Nat → Nat) {a b : Nat} (h : b ≤ a + 1) : So R f a b := fun i j c1 c2 c3 => by omega

/-- n places from a on and n from b on change what they hold. -/
def srF (f : Nat → Nat) (a b n : Nat) : Nat → Nat := fun k => if a ≤ k ∧ k < a + n then f (b + (k - a)) else if b ≤ k ∧ k < b + n then f (a + (k - b)) else f k
theorem srF_zero (f : Nat → Nat) (a b : Nat) : srF f a b 0 = f := by
  funext k
  unfold srF
  rw [if_neg (by omega), if_neg (by omega)]
theorem srF_succ (f : Nat → Nat) (a b n : Nat) (h : a + n < b) : swF (srF f a b n) (a + n) (b + n) = srF f a b (n + 1) := by
  funext k
  unfold swF srF
  repeat' split
  all_goals first | omega | rfl | (congr 1; omega)
/-- The places a .. m and m .. b change sides. -/
def roF (f : Nat → Nat) (a m b : Nat) : Nat → Nat := fun k => if a ≤ k ∧ k < a + (b - m) then f (m + (k - a)) else if a + (b - m) ≤ k ∧ k < b then f (a + (k - (a + (b - m)))) else f k
theorem roF_left (f : Nat → Nat) (m i j : Nat) (hj : 0 < j) (h : j < i) (hi : i ≤ m) : roF (srF f (m - i) m j) (m - (i - j)) m (m + j) = roF f (m - i) m (m + j) := by
  funext k
  unfold roF srF
  repeat' split
  all_goals first | omega | rfl | (congr 1; omega)
theorem roF_right (f : Nat → Nat) (m i j : Nat) (h0 : 0 < i) (h : i < j) (hi : i ≤ m) : roF (srF f (m - i) (m + j - i) i) (m - i) m (m + (j - i)) = roF f (m - i) m (m + j) := by
  funext k
  unfold roF srF
  repeat' split
  all_goals first | omega | rfl | (congr 1; omega)
theorem roF_same (f : Nat → Nat) (m i : Nat) (hi : i ≤ m) : srF f (m - i) m i = roF f (m - i) m (m + i) := by
  funext k
  unfold roF srF
  repeat' split
  all_goals first | omega | rfl | (congr 1; omega)
theorem roF_id (f : Nat → Nat) (a m b : Nat) (h : a = m ∨ m = b) (h1 : a ≤ m) (h2 : m ≤ b) : roF f a m b = f := by
  funext k
  unfold roF
  repeat' split
  all_goals first | omega | rfl | (congr 1; omega)
theorem roF_trn (f : Nat → Nat) {a m b : Nat} (h1 : a ≤ m) (h2 : m ≤ b) : Trn a b f (roF f a m b) := by
  refine ⟨fun k => if a ≤ k ∧ k < a + (b - m) then m + (k - a) else if a + (b - m) ≤ k ∧ k < b then a + (k - (a + (b - m))) else k, fun k => ?_, fun k hk => ?_, fun k hk hk2 => ?_, fun x y e => ?_⟩
  · show roF f a m b k = f (if a ≤ k ∧ k < a + (b - m) then m + (k - a) else if a + (b - m) ≤ k ∧ k < b then a + (k - (a + (b - m))) else k)
    unfold roF
    repeat' split
    all_goals first | omega | rfl
  · show (if a ≤ k ∧ k < a + (b - m) then m + (k - a) else if a + (b - m) ≤ k ∧ k < b then a + (k - (a + (b - m))) else k) = k
    rw [if_neg (by omega), if_neg (by omega)]
  · show a ≤ (if a ≤ k ∧ k < a + (b - m) then m + (k - a) else if a + (b - m) ≤ k ∧ k < b then a + (k - (a + (b - m))) else k) ∧ (if a ≤ k ∧ k < a + (b - m) then m + (k - a) else if a + (b - m) ≤ k ∧ k < b then a + (k - (a + (b - m))) else k) < b
    repeat' split
    all_goals omega
  · revert e
    show (if a ≤ x ∧ x < a + (b - m) then m + (x - a) else if a + (b - m) ≤ x ∧ x < b then a + (x - (a + (b - m))) else x) = (if a ≤ y ∧ y < a + (b - m) then m + (y - a) else if a + (b - m) ≤ y ∧ y < b then a + (y - (a + (b - m))) else y) → x = y
    repeat' split
    all_goals omega

/-- What a comparison has to say of two numbers below n. -/
structure Cmp (cf : Nat → Nat → Int) (R : Nat → Nat → Prop) (n : Nat) : Prop where
  lt : ∀ x y, x < y → y < n → cf y x < 0 → R y x
  ge : ∀ x y, x < y → y < n → ¬ cf y x < 0 → R x y
  tr : ∀ x y z, x < n → y < n → z < n → R x y → R y z → R x z
/-- What is left to do of the merge of a .. m and m .. b. -/
structure Mg (cf : Nat → Nat → Int) (R : Nat → Nat → Prop) (n : Nat) (f : Nat → Nat) (a m b : Nat) : Prop where
  lt : ∀ k, a ≤ k → k < b → f k < n
  le : So R f a m
  ri : So R f m b
  cr : Cr f a m b
theorem Mg.before {cf : Nat → Nat → Int} {R : Nat → Nat → Prop} {n : Nat} {f : Nat → Nat} {a m b : Nat} (C : Cmp cf R n) (h : Mg cf R n f a m b) {i j : Nat} (h1 : a ≤ i) (h2 : i < m) (h3 : m ≤ j) (h4 : j < b) (hc : ¬ cf (f j) (f i) < 0) : R (f i) (f j) :=
  C.ge _ _ (h.cr i j h1 h2 h3 h4) (h.lt j (by omega) h4) hc
theorem Mg.after {cf : Nat → Nat → Int} {R : Nat → Nat → Prop} {n : Nat} {f : Nat → Nat} {a m b : Nat} (C : Cmp cf R n) (h : Mg cf R n f a m b) {i j : Nat} (h1 : a ≤ i) (h2 : i < m) (h3 : m ≤ j) (h4 : j < b) (hc : cf (f j) (f i) < 0) : R (f j) (f i) :=
  C.lt _ _ (h.cr i j h1 h2 h3 h4) (h.lt j (by omega) h4) hc

/-- The first number of the left part goes behind those of the right part that come ahead of it. -/
def upF (f : Nat → Nat) (a i : Nat) : Nat → Nat := fun k => if a ≤ k ∧ k < i then f (k + 1) else if k = i then f a else f k
theorem upF_zero (f : Nat → Nat) (a : Nat) : upF f a a = f := by
  funext k
  unfold upF
  repeat' split
  all_goals first | omega | rfl | (congr 1; omega)
theorem upF_succ (f : Nat → Nat) (a k : Nat) (h : a ≤ k) : swF (upF f a k) k (k + 1) = upF f a (k + 1) := by
  funext t
  unfold swF upF
  repeat' split
  all_goals first | omega | rfl | (congr 1; omega)
theorem upF_trn (f : Nat → Nat) {a b : Nat} : ∀ i, a ≤ i → i < b → Trn a b f (upF f a i) := by
  intro i hi hb
  obtain ⟨d, rfl⟩ : ∃ d, i = a + d := ⟨i - a, by omega⟩
  clear hi
  induction d with
  | zero => rw [Nat.add_zero, upF_zero]; exact Trn.refl _ _ _
  | succ d ih =>
    rw [show a + (d + 1) = a + d + 1 from rfl, ← upF_succ f a (a + d) (by omega)]
    exact (ih (by omega)).trans (Trn.sw _ (by omega) (by omega) (by omega) hb)
theorem one_left {cf : Nat → Nat → Int} {R : Nat → Nat → Prop} {n : Nat} {f : Nat → Nat} {a b i : Nat} (C : Cmp cf R n) (h : Mg cf R n f a (a + 1) b) (hi : a + 1 ≤ i) (hib : i ≤ b)
    (h1 : i = a + 1 ∨ cf (f (i - 1)) (f a) < 0) (h2 : i = b ∨ ¬ cf (f i) (f a) < 0) : So R (upF f a (i - 1)) a b ∧ Trn a b f (upF f a (i - 1)) := by
  refine ⟨?_, upF_trn f _ (by omega) (by omega)⟩
  have k1 : ∀ t, a + 1 ≤ t → t < i → R (f t) (f a) := fun t c1 c2 => by
    rcases h1 with h1 | h1
    · omega
    · have e := h.after C (Nat.le_refl a) (by omega) (by omega : a + 1 ≤ i - 1) (by omega) h1
      rcases Nat.lt_or_ge t (i - 1) with c | c
      · exact C.tr _ _ _ (h.lt t (by omega) (by omega)) (h.lt _ (by omega) (by omega)) (h.lt _ (by omega) (by omega)) (h.ri t (i - 1) c1 c (by omega)) e
      · rw [show t = i - 1 by omega]; exact e
  have k2 : ∀ t, i ≤ t → t < b → R (f a) (f t) := fun t c1 c2 => by
    rcases h2 with h2 | h2
    · omega
    · have e := h.before C (Nat.le_refl a) (by omega) (by omega : a + 1 ≤ i) (by omega) h2
      rcases Nat.lt_or_ge i t with c | c
      · exact C.tr _ _ _ (h.lt _ (by omega) (by omega)) (h.lt _ (by omega) (by omega)) (h.lt _ (by omega) (by omega)) e (h.ri i t hi c c2)
      · rw [show t = i by omega]; exact e
  intro x y c1 c2 c3
  unfold upF
  repeat' split
  all_goals first
    | omega
    | exact h.ri _ _ (by omega) (by omega) (by omega)
    | exact k1 _ (by omega) (by omega)
    | exact k2 _ (by omega) (by omega)
/-- The first number of the right part goes ahead of those of the left part that come behind it. -/
def dnF (f : Nat → Nat) (i m : Nat) : Nat → Nat := fun k => if k = i then f m else if i < k ∧ k ≤ m then f (k - 1) else f k
theorem dnF_zero (f : Nat → Nat) (m : Nat) : dnF f m m = f := by
  funext k
  unfold dnF
  repeat' split
  all_goals first | omega | rfl | (congr 1; omega)
theorem dnF_succ (f : Nat → Nat) (k m : Nat) (h : k + 1 ≤ m) : swF (dnF f (k + 1) m) (k + 1) k = dnF f k m := by
  funext t
  unfold swF dnF
  repeat' split
  all_goals first | omega | rfl | (congr 1; omega)
theorem dnF_trn (f : Nat → Nat) {a b m : Nat} (hm : m < b) : ∀ i, a ≤ i → i ≤ m → Trn a b f (dnF f i m) := by
  intro i hi hb
  obtain ⟨d, rfl⟩ : ∃ d, m = i + d := ⟨m - i, by omega⟩
  clear hb
  induction d generalizing i with
  | zero => rw [Nat.add_zero, dnF_zero]; exact Trn.refl _ _ _
  | succ d ih =>
    rw [← dnF_succ f i (i + (d + 1)) (by omega)]
    rw [show i + (d + 1) = i + 1 + d by omega]
    exact (ih (i + 1) (by omega) (by omega)).trans (Trn.sw _ (by omega) (by omega) (by omega) (by omega))
theorem one_right {cf : Nat → Nat → Int} {R : Nat → Nat → Prop} {n : Nat} {f : Nat → Nat} {a m i : Nat} (C : Cmp cf R n) (h : Mg cf R n f a m (m + 1)) (hi : a ≤ i) (him : i ≤ m)
    (h1 : i = a ∨ ¬ cf (f m) (f (i - 1)) < 0) (h2 : i = m ∨ cf (f m) (f i) < 0) : So R (dnF f i m) a (m + 1) ∧ Trn a (m + 1) f (dnF f i m) := by
  refine ⟨?_, dnF_trn f (by omega) _ (by omega) (by omega)⟩
  have k1 : ∀ t, a ≤ t → t < i → R (f t) (f m) := fun t c1 c2 => by
    rcases h1 with h1 | h1
    · omega
    · have e := h.before C (by omega : a ≤ i - 1) (by omega) (Nat.le_refl m) (by omega) h1
      rcases Nat.lt_or_ge t (i - 1) with c | c
      · exact C.tr _ _ _ (h.lt t (by omega) (by omega)) (h.lt _ (by omega) (by omega)) (h.lt _ (by omega) (by omega)) (h.le t (i - 1) c1 c (by omega)) e
      · rw [show t = i - 1 by omega]; exact e
  have k2 : ∀ t, i ≤ t → t < m → R (f m) (f t) := fun t c1 c2 => by
    rcases h2 with h2 | h2
    · omega
    · have e := h.after C hi (by omega) (Nat.le_refl m) (by omega) h2
      rcases Nat.lt_or_ge i t with c | c
      · exact C.tr _ _ _ (h.lt _ (by omega) (by omega)) (h.lt _ (by omega) (by omega)) (h.lt _ (by omega) (by omega)) e (h.le i t hi c c2)
      · rw [show t = i by omega]; exact e
  intro x y c1 c2 c3
  unfold dnF
  repeat' split
  all_goals first
    | omega
    | exact h.le _ _ (by omega) (by omega) (by omega)
    | exact k1 _ (by omega) (by omega)
    | exact k2 _ (by omega) (by omega)

/-- Where the search for the middle ends. -/
structure Piv (cf : Nat → Nat → Int) (f : Nat → Nat) (a m b mid s s0 r0 : Nat) : Prop where
  h0 : (s0 = a ∧ r0 = m ∧ m ≤ mid) ∨ (s0 + b = mid + m ∧ r0 = mid ∧ mid < m)
  lo : s0 ≤ s
  hi : s ≤ r0
  p1 : s = s0 ∨ ¬ cf (f (mid + m - s)) (f (s - 1)) < 0
  p2 : s = r0 ∨ cf (f (mid + m - 1 - s)) (f s) < 0
/-- Behind the change of sides: two merges, each number of the first ahead of each of the second. -/
theorem piv_parts {cf : Nat → Nat → Int} {R : Nat → Nat → Prop} {n : Nat} {f : Nat → Nat} {a m b mid s s0 r0 : Nat} (C : Cmp cf R n) (h : Mg cf R n f a m b) (h1 : a < m) (h2 : m < b) (hmid : mid = (a + b) / 2) (P : Piv cf f a m b mid s s0 r0) :
    a ≤ s ∧ s ≤ m ∧ m ≤ mid + m - s ∧ mid + m - s ≤ b ∧ s ≤ mid ∧ mid ≤ mid + m - s ∧
    Mg cf R n (roF f s m (mid + m - s)) a s mid ∧ Mg cf R n (roF f s m (mid + m - s)) mid (mid + m - s) b ∧
    (∀ i j, a ≤ i → i < mid → mid ≤ j → j < b → R (roF f s m (mid + m - s) i) (roF f s m (mid + m - s) j)) := by
  obtain ⟨h0, lo, hi, p1, p2⟩ := P
  have b1 : a ≤ s := by omega
  have b2 : s ≤ m := by omega
  have b4 : mid + m - s ≤ b := by omega
  have b5 : s ≤ mid := by omega
  obtain ⟨e, he⟩ : ∃ e, mid + m - s = e := ⟨_, rfl⟩
  have he2 : e + s = mid + m := by omega
  have e1 : ∀ k, k < s → roF f s m e k = f k := fun k hk => by unfold roF; rw [if_neg (by omega), if_neg (by omega)]
  have e2 : ∀ k, s ≤ k → k < mid → roF f s m e k = f (m + (k - s)) := fun k hk hk2 => by unfold roF; rw [if_pos (by omega)]
  have e3 : ∀ k, mid ≤ k → k < e → roF f s m e k = f (s + (k - mid)) := fun k hk hk2 => by unfold roF; rw [if_neg (by omega), if_pos (by omega), show s + (e - m) = mid by omega]
  have e4 : ∀ k, e ≤ k → roF f s m e k = f k := fun k hk => by unfold roF; rw [if_neg (by omega), if_neg (by omega)]
  rw [he] at p1 b4 ⊢
  have q1 : ∀ i j, a ≤ i → i < s → e ≤ j → j < b → R (f i) (f j) := fun i j c1 c2 c3 c4 => by
    rcases p1 with p1 | p1
    · omega
    · have r := h.before C (by omega : a ≤ s - 1) (by omega) (by omega : m ≤ e) (by omega) p1
      have r1 : R (f i) (f e) := by
        rcases Nat.lt_or_ge i (s - 1) with c | c
        · exact C.tr _ _ _ (h.lt _ (by omega) (by omega)) (h.lt _ (by omega) (by omega)) (h.lt _ (by omega) (by omega)) (h.le i (s - 1) c1 c (by omega)) r
        · rw [show i = s - 1 by omega]; exact r
      rcases Nat.lt_or_ge e j with c | c
      · exact C.tr _ _ _ (h.lt _ (by omega) (by omega)) (h.lt _ (by omega) (by omega)) (h.lt _ (by omega) (by omega)) r1 (h.ri e j (by omega) c c4)
      · rw [show j = e by omega]; exact r1
  have q2 : ∀ i j, m ≤ i → i < e → s ≤ j → j < m → R (f i) (f j) := fun i j c1 c2 c3 c4 => by
    rcases p2 with p2 | p2
    · omega
    · rw [show mid + m - 1 - s = e - 1 by omega] at p2
      have r := h.after C b1 (by omega : s < m) (by omega : m ≤ e - 1) (by omega) p2
      have r1 : R (f i) (f s) := by
        rcases Nat.lt_or_ge i (e - 1) with c | c
        · exact C.tr _ _ _ (h.lt _ (by omega) (by omega)) (h.lt _ (by omega) (by omega)) (h.lt _ (by omega) (by omega)) (h.ri i (e - 1) c1 c (by omega)) r
        · rw [show i = e - 1 by omega]; exact r
      rcases Nat.lt_or_ge s j with c | c
      · exact C.tr _ _ _ (h.lt _ (by omega) (by omega)) (h.lt _ (by omega) (by omega)) (h.lt _ (by omega) (by omega)) r1 (h.le s j b1 c c4)
      · rw [show j = s by omega]; exact r1
  have T := roF_trn f b2 (by omega : m ≤ e)
  have hlt : ∀ k, a ≤ k → k < b → roF f s m e k < n := fun k c1 c2 => by
    by_cases hh : k < s ∨ e ≤ k
    · rw [T.out hh]; exact h.lt k c1 c2
    · obtain ⟨i, d1, d2, d3⟩ := T.mem (k := k) (by omega) (by omega)
      rw [d3]; exact h.lt i (by omega) (by omega)
  refine ⟨b1, b2, by omega, b4, b5, by omega, ⟨fun k c1 c2 => hlt k c1 (by omega), ?_, ?_, ?_⟩, ⟨fun k c1 c2 => hlt k (by omega) c2, ?_, ?_, ?_⟩, ?_⟩
  · exact (h.le.sub (Nat.le_refl a) b2).of fun k _ c => e1 k c
  · exact (h.ri.sub (Nat.le_refl m) b4).moved mid (by omega) e2
  · intro i j c1 c2 c3 c4
    rw [e1 i c2, e2 j c3 c4]
    exact h.cr _ _ c1 (by omega) (by omega) (by omega)
  · exact (h.le.sub b1 (Nat.le_refl m)).moved e (by omega) e3
  · exact (h.ri.sub (by omega : m ≤ e) (Nat.le_refl b)).of fun k c _ => e4 k c
  · intro i j c1 c2 c3 c4
    rw [e3 i c1 c2, e4 j c3]
    exact h.cr _ _ (by omega) (by omega) (by omega) (by omega)
  · intro i j c1 c2 c3 c4
    rcases Nat.lt_or_ge i s with d | d <;> rcases Nat.lt_or_ge j e with d2 | d2
    · rw [e1 i d, e3 j c3 d2]; exact h.le _ _ c1 (by omega) (by omega)
    · rw [e1 i d, e4 j d2]; exact q1 i j c1 d d2 c4
    · rw [e2 i d c2, e3 j c3 d2]; exact q2 _ _ (by omega) (by omega) (by omega) (by omega)
    · rw [e2 i d c2, e4 j d2]; exact h.ri _ _ (by omega) (by omega) (by omega)
/-- Both merges done: the whole rises. -/
theorem piv_done {R : Nat → Nat → Prop} {f1 f2 f3 : Nat → Nat} {a mid b : Nat} (h1 : a ≤ mid) (h2 : mid ≤ b) (hx : ∀ i j, a ≤ i → i < mid → mid ≤ j → j < b → R (f1 i) (f1 j))
    (t2 : Trn a mid f1 f2) (s2 : So R f2 a mid) (t3 : Trn mid b f2 f3) (s3 : So R f3 mid b) : So R f3 a b ∧ Trn a b f1 f3 := by
  refine ⟨fun i j c1 c2 c3 => ?_, (t2.mono (Nat.le_refl a) h2).trans (t3.mono h1 (Nat.le_refl b))⟩
  rcases Nat.lt_or_ge i mid with d | d
  · rcases Nat.lt_or_ge j mid with d2 | d2
    · rw [t3.out (.inl d), t3.out (.inl d2)]; exact s2 i j c1 c2 d2
    · rw [t3.out (.inl d)]
      obtain ⟨i1, g1, g2, g3⟩ := t2.mem c1 d
      obtain ⟨j1, g4, g5, g6⟩ := t3.mem d2 c3
      rw [g3, g6, t2.out (.inr g4)]
      exact hx _ _ g1 g2 g4 g5
  · exact s3 i j d c2 c3
/-- Between a and b: just its own numbers, and they rise. -/
def Bk (R : Nat → Nat → Prop) (f : Nat → Nat) (a b : Nat) : Prop := So R f a b ∧ ∀ k, a ≤ k → k < b → a ≤ f k ∧ f k < b
theorem Bk.of {R : Nat → Nat → Prop} {f g : Nat → Nat} {a b : Nat} (h : Bk R f a b) (he : ∀ k, a ≤ k → k < b → g k = f k) : Bk R g a b :=
  ⟨h.1.of he, fun k c1 c2 => by rw [he k c1 c2]; exact h.2 k c1 c2⟩
theorem Bk.merge {cf : Nat → Nat → Int} {R : Nat → Nat → Prop} {n : Nat} {f : Nat → Nat} {a m b : Nat} (h1 : Bk R f a m) (h2 : Bk R f m b) (hm : m ≤ b) (hb : b ≤ n) : Mg cf R n f a m b :=
  ⟨fun k c1 c2 => by
    rcases Nat.lt_or_ge k m with c | c
    · have := h1.2 k c1 c; omega
    · have := h2.2 k c c2; omega, h1.1, h2.1, fun i j c1 c2 c3 c4 => by have := h1.2 i c1 c2; have := h2.2 j c3 c4; omega⟩
theorem Bk.merged {R : Nat → Nat → Prop} {f f2 : Nat → Nat} {a m b : Nat} (h1 : Bk R f a m) (h2 : Bk R f m b) (ha : a ≤ m) (hm : m ≤ b) (s : So R f2 a b) (t : Trn a b f f2) : Bk R f2 a b :=
  ⟨s, fun k c1 c2 => by
    obtain ⟨i, d1, d2, d3⟩ := t.mem c1 c2
    rw [d3]
    rcases Nat.lt_or_ge i m with c | c
    · have := h1.2 i d1 c; omega
    · have := h2.2 i c d2; omega⟩
/-- From the place a on: blocks of bs each, the last one may be shorter. -/
def Bls (R : Nat → Nat → Prop) (f : Nat → Nat) (bs n a : Nat) : Prop := ∀ q, a + q * bs < n → Bk R f (a + q * bs) (min (a + q * bs + bs) n)
theorem Bls.cut {R : Nat → Nat → Prop} {f : Nat → Nat} {bs n a : Nat} (h : Bls R f bs n a) : Bls R f bs n (a + bs) := fun q hq => by
  have e : a + bs + q * bs = a + (q + 1) * bs := by rw [Nat.add_mul, Nat.one_mul]; omega
  rw [e] at hq ⊢
  exact h (q + 1) hq
theorem Bls.first {R : Nat → Nat → Prop} {f : Nat → Nat} {bs n a : Nat} (h : Bls R f bs n a) (ha : a < n) : Bk R f a (min (a + bs) n) := by
  have := h 0 (by omega)
  rwa [Nat.zero_mul, Nat.add_zero] at this
theorem Bls.trn {R : Nat → Nat → Prop} {f g : Nat → Nat} {bs n a lo hi : Nat} (h : Bls R f bs n a) (t : Trn lo hi f g) (hh : hi ≤ a) : Bls R g bs n a := fun q hq =>
  (h q hq).of fun k c1 _ => t.out (.inr (by omega))
/-- Below a: whole blocks of bs each. -/
def Blw (R : Nat → Nat → Prop) (f : Nat → Nat) (bs c : Nat) : Prop := ∀ q, q < c → Bk R f (q * bs) (q * bs + bs)
theorem Blw.more {R : Nat → Nat → Prop} {f g : Nat → Nat} {bs c a b : Nat} (h : Blw R f bs c) (ha : a = c * bs) (t : Trn a b f g) (hk : Bk R g a (a + bs)) : Blw R g bs (c + 1) := fun q hq => by
  rcases Nat.lt_or_ge q c with d | d
  · refine (h q d).of fun k _ c2 => t.out (.inl ?_)
    have : (q + 1) * bs ≤ c * bs := Nat.mul_le_mul_right bs d
    rw [Nat.add_mul, Nat.one_mul] at this
    omega
  · rw [show q = c by omega, ← ha]; exact hk
theorem Blw.all {R : Nat → Nat → Prop} {f : Nat → Nat} {bs c n a : Nat} (hs : 0 < bs) (h : Blw R f bs c) (ha : a = c * bs) (ha2 : a ≤ n) (han : n < a + bs) (hk : Bk R f a n) : Bls R f bs n 0 := fun q hq => by
  rw [Nat.zero_add] at hq ⊢
  rcases Nat.lt_or_ge q c with d | d
  · have e1 : (q + 1) * bs ≤ c * bs := Nat.mul_le_mul_right bs d
    rw [Nat.add_mul, Nat.one_mul] at e1
    rw [Nat.min_eq_left (by omega)]
    exact h q d
  · have e1 : q = c := by
      rcases Nat.lt_or_ge c q with g | g
      · have : (c + 1) * bs ≤ q * bs := Nat.mul_le_mul_right bs g
        rw [Nat.add_mul, Nat.one_mul] at this
        omega
      · omega
    rw [e1, ← ha, Nat.min_eq_right (by omega)]
    exact hk
end Go.Proofs.YtpjgoikdfkaefaaGreat
namespace Go.Proofs.YtpjgoikdfkaefaaGreat
set_option linter.unusedVariables false
set_option linter.unusedSimpArgs false
open Go.RowKit

/-- The elements zs of a slice that lies at a, in a block below B (or is empty). -/
def Ints (w : World) (B : Nat) (a : Option Addr) (zs : List Int) : Prop :=
  zs.length ≤ 140737488355328 ∧ (∀ n ∈ zs, -9223372036854775808 ≤ n ∧ n ≤ 9223372036854775807) ∧
    (0 < zs.length → ∃ b off, a = some ⟨b, off, none⟩ ∧ b < B ∧ ∀ i, i < zs.length → w.cell? ⟨b, off + i, none⟩ = some (.int .i64 (zs.getD i 0)))
theorem Ints.keep {w w' : World} {B : Nat} {a : Option Addr} {zs : List Int} (h : Ints w B a zs) (hk : ∀ p : Addr, p.block < B → w'.cell? p = w.cell? p) : Ints w' B a zs :=
  ⟨h.1, h.2.1, fun h0 => by
    obtain ⟨b, off, e, hb, hc⟩ := h.2.2 h0
    exact ⟨b, off, e, hb, fun i hi => (hk _ hb).trans (hc i hi)⟩⟩
theorem Ints.below {w w' : World} {B : Nat} {a : Option Addr} {zs : List Int} (h : Ints w B a zs) (hb : Below B w w') : Ints w' B a zs := h.keep fun _ hp => hb.cell hp
theorem Ints.mono {w : World} {B B' : Nat} {a : Option Addr} {zs : List Int} (h : Ints w B a zs) (hB : B ≤ B') : Ints w B' a zs :=
  ⟨h.1, h.2.1, fun h0 => by
    obtain ⟨b, off, e, hb, hc⟩ := h.2.2 h0
    exact ⟨b, off, e, by omega, hc⟩⟩
theorem Ints.range {w : World} {B : Nat} {a : Option Addr} {zs : List Int} (h : Ints w B a zs) (k : Nat) : -9223372036854775808 ≤ zs.getD k 0 ∧ zs.getD k 0 ≤ 9223372036854775807 := by
  rcases Nat.lt_or_ge k zs.length with hk | hk
  · have e : zs.getD k 0 = zs[k] := by simp [List.getD_eq_getElem?_getD, hk]
    rw [e]; exact h.2.1 _ (List.getElem_mem hk)
  · have e : zs.getD k 0 = 0 := by simp [List.getD_eq_getElem?_getD, hk]
    rw [e]; omega
theorem mem_getD {zs : List Int} {x : Int} (h : x ∈ zs) : ∃ k, k < zs.length ∧ zs.getD k 0 = x := by
  obtain ⟨k, hk, e⟩ := List.getElem_of_mem h
  exact ⟨k, hk, by simp [List.getD_eq_getElem?_getD, hk, e]⟩
theorem getD_mem {zs : List Int} {k : Nat} (h : k < zs.length) : zs.getD k 0 ∈ zs := by
  have e : zs.getD k 0 = zs[k] := by simp [List.getD_eq_getElem?_getD, h]
  rw [e]; exact List.getElem_mem h
end Go.Proofs.YtpjgoikdfkaefaaGreat
namespace Go.Proofs.YtpjgoikdfkaefaaGreat
set_option linter.unusedVariables false
set_option linter.unusedSimpArgs false

/-- Are they symbols of an alphabet of n? -/
def rOk (z : List Int) (n : Int) : Bool := decide (1 ≤ n ∧ n ≤ 256 ∧ z.length ≤ 600 ∧ ∀ x ∈ z, 0 ≤ x ∧ x < n)
theorem rOk_iff (z : List Int) (n : Int) : rOk z n = true ↔ 1 ≤ n ∧ n ≤ 256 ∧ z.length ≤ 600 ∧ ∀ x ∈ z, 0 ≤ x ∧ x < n := by simp [rOk]
/-- Numbers as integers. -/
def ints (L : List Nat) : List Int := L.map fun (x : Nat) => (x : Int)
theorem ints_len (L : List Nat) : (ints L).length = L.length := by simp [ints]
theorem ints_get (L : List Nat) (k : Nat) : (ints L).getD k 0 = ((L.getD k 0 : Nat) : Int) := by
  unfold ints
  simp only [List.getD_eq_getElem?_getD, List.getElem?_map]
  cases L[k]? <;> rfl
theorem ints_snoc (L : List Nat) (x : Nat) : ints (L ++ [x]) = ints L ++ [(x : Int)] := by simp [ints]
/-- A valid list is one of numbers. -/
theorem rOk_nats {z : List Int} {n : Int} (h : rOk z n = true) : ∃ (L : List Nat) (m : Nat), z = ints L ∧ n = m ∧ 1 ≤ m ∧ m ≤ 256 ∧ L.length ≤ 600 ∧ ∀ x ∈ L, x < m := by
  obtain ⟨h1, h2, h3, h4⟩ := (rOk_iff z n).1 h
  have hz : z = ints (z.map Int.toNat) := by
    unfold ints
    rw [List.map_map]
    conv => lhs; rw [← List.map_id z]
    apply List.map_congr_left
    intro x hx
    have := h4 x hx
    simp only [id, Function.comp]
    omega
  refine ⟨z.map Int.toNat, n.toNat, hz, by omega, by omega, by omega, by simpa using h3, ?_⟩
  intro x hx
  obtain ⟨y, hy, rfl⟩ := List.mem_map.1 hx
  have := h4 y hy
  omega
theorem rOk_of {L : List Nat} {m : Nat} (h1 : 1 ≤ m) (h2 : m ≤ 256) (h3 : L.length ≤ 600) (h4 : ∀ x ∈ L, x < m) : rOk (ints L) m = true := by
  rw [rOk_iff]
  refine ⟨by omega, by omega, by rw [ints_len]; exact h3, ?_⟩
  intro x hx
  obtain ⟨y, hy, rfl⟩ := List.mem_map.1 hx
  have := h4 y hy
  omega

/-- A machine's answers, one for each number of a list. -/
def runF {σ : Type} (f : σ → Nat → Nat × σ) : σ → List Nat → List Nat
  | _, [] => []
  | s, x :: xs => (f s x).1 :: runF f (f s x).2 xs
/-- What state the machine is in behind a list. -/
def endF {σ : Type} (f : σ → Nat → Nat × σ) : σ → List Nat → σ
  | s, [] => s
  | s, x :: xs => endF f (f s x).2 xs
theorem runF_len {σ : Type} (f : σ → Nat → Nat × σ) : ∀ (L : List Nat) (s : σ), (runF f s L).length = L.length
  | [], _ => rfl
  | x :: xs, s => by simp [runF, runF_len f xs]
theorem drop_cons (L : List Nat) (k : Nat) (h : k < L.length) : L.drop k = L.getD k 0 :: L.drop (k + 1) := by
  rw [List.drop_eq_getElem_cons h]
  congr 1
  simp [List.getD_eq_getElem?_getD, h]
theorem getD_mem7 (L : List Nat) (k : Nat) (h : k < L.length) : L.getD k 0 ∈ L := by
  have e : L.getD k 0 = L[k] := by simp [List.getD_eq_getElem?_getD, h]
  rw [e]; exact List.getElem_mem h

/-- The one at place k comes to the front. -/
def frontL (r : List Nat) (k : Nat) : List Nat := r.getD k 0 :: r.eraseIdx k
theorem eraseIdx_td (r : List Nat) (k : Nat) : r.eraseIdx k = r.take k ++ r.drop (k + 1) := List.eraseIdx_eq_take_drop_succ r k
theorem frontL_len (r : List Nat) (k : Nat) (h : k < r.length) : (frontL r k).length = r.length := by
  unfold frontL
  rw [List.length_cons, List.length_eraseIdx]
  split <;> omega
theorem split_at (r : List Nat) (k : Nat) (h : k < r.length) : r = r.take k ++ r.getD k 0 :: r.drop (k + 1) := by
  rw [← drop_cons r k h, List.take_append_drop]
theorem frontL_perm (r : List Nat) (k : Nat) (h : k < r.length) : (frontL r k).Perm r := by
  unfold frontL
  rw [eraseIdx_td]
  conv => rhs; rw [split_at r k h]
  exact List.perm_middle.symm
/-- One step of move-to-front, one of its inverse. -/
def mtfF (r : List Nat) (x : Nat) : Nat × List Nat := (r.idxOf x, frontL r (r.idxOf x))
def umtF (r : List Nat) (k : Nat) : Nat × List Nat := (r.getD k 0, frontL r k)
/-- A row of the numbers below n, in some order. -/
def PermN (n : Nat) (r : List Nat) : Prop := r.Perm (List.range n)
theorem PermN.len {n : Nat} {r : List Nat} (h : PermN n r) : r.length = n := by rw [h.length_eq, List.length_range]
theorem PermN.mem {n : Nat} {r : List Nat} (h : PermN n r) (x : Nat) : x ∈ r ↔ x < n := by rw [h.mem_iff, List.mem_range]
theorem PermN.nodup {n : Nat} {r : List Nat} (h : PermN n r) : r.Nodup := h.nodup_iff.2 List.nodup_range
theorem PermN.idx {n : Nat} {r : List Nat} (h : PermN n r) {x : Nat} (hx : x < n) : r.idxOf x < n := by
  have := List.idxOf_lt_length_of_mem ((h.mem x).2 hx)
  rwa [h.len] at this
theorem PermN.at {n : Nat} {r : List Nat} (h : PermN n r) {k : Nat} (hk : k < n) : r.getD k 0 < n := (h.mem _).1 (getD_mem7 r k (by rw [h.len]; exact hk))
theorem PermN.front {n : Nat} {r : List Nat} (h : PermN n r) {k : Nat} (hk : k < n) : PermN n (frontL r k) := (frontL_perm r k (by rw [h.len]; exact hk)).trans h
theorem PermN.start (n : Nat) : PermN n (List.range n) := List.Perm.refl _
theorem idx_at (r : List Nat) {x : Nat} (h : x ∈ r) : r.getD (r.idxOf x) 0 = x := by
  have h2 := List.idxOf_lt_length_of_mem h
  simp [List.getD_eq_getElem?_getD, h2]
theorem idx_first (r : List Nat) (x j : Nat) (h : j < r.idxOf x) : r.getD j 0 ≠ x := by
  intro e
  have hle := List.idxOf_le_length (a := x) (l := r)
  have hj : j < r.length := by omega
  have e2 : r[j] = x := by simpa [List.getD_eq_getElem?_getD, hj] using e
  have h3 : (r.take (j + 1)).idxOf x ≤ j := by
    have hm : x ∈ r.take (j + 1) := by
      rw [List.mem_take_iff_getElem]
      exact ⟨j, by omega, e2⟩
    have := List.idxOf_lt_length_of_mem hm
    rw [List.length_take] at this
    omega
  have h4 : r.idxOf x ≤ j := by
    have hm : x ∈ r.take (j + 1) := by
      rw [List.mem_take_iff_getElem]
      exact ⟨j, by omega, e2⟩
    conv => lhs; rw [← List.take_append_drop (j + 1) r]
    rw [List.idxOf_append, if_pos hm]
    exact h3
  omega
/-- The answers of move-to-front, as integers; none where the list is not valid. -/
def mtfZ (z : List Int) (n : Int) : List Int := if rOk z n = true then ints (runF mtfF (List.range n.toNat) (z.map Int.toNat)) else []
def umtZ (z : List Int) (n : Int) : List Int := if rOk z n = true then ints (runF umtF (List.range n.toNat) (z.map Int.toNat)) else []
theorem ints_toNat (L : List Nat) : (ints L).map Int.toNat = L := by
  unfold ints
  rw [List.map_map]
  conv => rhs; rw [← List.map_id L]
  apply List.map_congr_left
  intro x _
  rfl
theorem mtfZ_yes {L : List Nat} {m : Nat} (h : rOk (ints L) m = true) : mtfZ (ints L) m = ints (runF mtfF (List.range m) L) := by
  unfold mtfZ; rw [if_pos h, ints_toNat]; rfl
theorem umtZ_yes {L : List Nat} {m : Nat} (h : rOk (ints L) m = true) : umtZ (ints L) m = ints (runF umtF (List.range m) L) := by
  unfold umtZ; rw [if_pos h, ints_toNat]; rfl
theorem mtfZ_no {z : List Int} {n : Int} (h : rOk z n = false) : mtfZ z n = [] := by unfold mtfZ; rw [h]; rfl
theorem umtZ_no {z : List Int} {n : Int} (h : rOk z n = false) : umtZ z n = [] := by unfold umtZ; rw [h]; rfl
/-- What a machine's answers are bounded by, where every step keeps a relation on its states. -/
theorem runF_all {σ : Type} {f : σ → Nat → Nat × σ} (R : σ → Prop) (X Y : Nat → Prop) (h : ∀ s x, R s → X x → Y (f s x).1 ∧ R (f s x).2) : ∀ (L : List Nat) (s : σ), R s → (∀ x ∈ L, X x) → ∀ y ∈ runF f s L, Y y
  | [], _, _, _, y, hy => by cases hy
  | x :: xs, s, hR, hX, y, hy => by
    have h1 := h s x hR (hX x (List.mem_cons_self ..))
    rcases List.mem_cons.1 hy with e | e
    · rw [e]; exact h1.1
    · exact runF_all R X Y h xs _ h1.2 (fun q hq => hX q (List.mem_cons_of_mem _ hq)) y e
theorem mtf_lt {n : Nat} {L : List Nat} (hL : ∀ x ∈ L, x < n) : ∀ y ∈ runF mtfF (List.range n) L, y < n :=
  runF_all (PermN n) (· < n) (· < n) (fun s x hs hx => ⟨hs.idx hx, hs.front (hs.idx hx)⟩) L _ (PermN.start n) hL
theorem umt_lt {n : Nat} {L : List Nat} (hL : ∀ x ∈ L, x < n) : ∀ y ∈ runF umtF (List.range n) L, y < n :=
  runF_all (PermN n) (· < n) (· < n) (fun s k hs hk => ⟨hs.at hk, hs.front hk⟩) L _ (PermN.start n) hL
end Go.Proofs.YtpjgoikdfkaefaaGreat
namespace Go.Proofs.YtpjgoikdfkaefaaGreat
set_option linter.unusedVariables false
set_option linter.unusedSimpArgs false

/-- The rotation at i. -/
def rotL (S : List Nat) (i : Nat) : List Nat := S.drop i ++ S.take i
theorem rotL_len (S : List Nat) (i : Nat) (h : i ≤ S.length) : (rotL S i).length = S.length := by
  unfold rotL
  rw [List.length_append, List.length_drop, List.length_take]
  omega
/-- The byte k of the rotation at i. -/
def rotB (S : List Nat) (i k : Nat) : Nat := S.getD ((i + k) % S.length) 0
theorem rotL_get (S : List Nat) (i k : Nat) (hi : i < S.length) (hk : k < S.length) : (rotL S i).getD k 0 = rotB S i k := by
  unfold rotL rotB
  simp only [List.getD_eq_getElem?_getD]
  congr 1
  by_cases h : i + k < S.length
  · rw [Nat.mod_eq_of_lt h, List.getElem?_append_left (by rw [List.length_drop]; omega), List.getElem?_drop]
  · have e : (i + k) % S.length = i + k - S.length := by
      rw [Nat.mod_eq_sub_mod (by omega), Nat.mod_eq_of_lt (by omega)]
    rw [e, List.getElem?_append_right (by rw [List.length_drop]; omega), List.length_drop, List.getElem?_take, if_pos (by omega)]
    congr 1
    omega
/-- The rotation at i stands ahead of the one at j; of equal ones the greater index. -/
def rlt (S : List Nat) (i j : Nat) : Prop := rotL S i < rotL S j ∨ (rotL S i = rotL S j ∧ j < i)
instance (S : List Nat) (i j : Nat) : Decidable (rlt S i j) := by unfold rlt; infer_instance
theorem rlt_irr (S : List Nat) (i : Nat) : ¬ rlt S i i := by
  rintro (h | ⟨_, h⟩)
  · exact List.lt_irrefl _ h
  · omega
theorem rlt_trans {S : List Nat} {i j k : Nat} (h : rlt S i j) (h2 : rlt S j k) : rlt S i k := by
  rcases h with h | ⟨h, h'⟩ <;> rcases h2 with h2 | ⟨h2, h2'⟩
  · exact .inl (List.lt_trans h h2)
  · exact .inl (h2 ▸ h)
  · exact .inl (h ▸ h2)
  · exact .inr ⟨h.trans h2, by omega⟩
theorem rlt_asym {S : List Nat} {i j : Nat} (h : rlt S i j) : ¬ rlt S j i := fun h2 => rlt_irr S i (rlt_trans h h2)
theorem rlt_total (S : List Nat) {i j : Nat} (h : i ≠ j) : rlt S i j ∨ rlt S j i := by
  by_cases h1 : rotL S i < rotL S j
  · exact .inl (.inl h1)
  · by_cases h2 : rotL S j < rotL S i
    · exact .inr (.inl h2)
    · have e : rotL S i = rotL S j := List.le_antisymm (List.not_lt.1 h2) (List.not_lt.1 h1)
      rcases Nat.lt_or_ge i j with h3 | h3
      · exact .inr (.inr ⟨e.symm, h3⟩)
      · exact .inl (.inr ⟨e, by omega⟩)
def rle (S : List Nat) (i j : Nat) : Bool := decide (i = j ∨ rlt S i j)
theorem rle_iff (S : List Nat) (i j : Nat) : rle S i j = true ↔ i = j ∨ rlt S i j := by simp [rle]
theorem rle_trans (S : List Nat) (a b c : Nat) (h : rle S a b = true) (h2 : rle S b c = true) : rle S a c = true := by
  rw [rle_iff] at *
  rcases h with rfl | h
  · exact h2
  · rcases h2 with rfl | h2
    · exact .inr h
    · exact .inr (rlt_trans h h2)
theorem rle_total (S : List Nat) (a b : Nat) : (rle S a b || rle S b a) = true := by
  rw [Bool.or_eq_true, rle_iff, rle_iff]
  by_cases e : a = b
  · exact .inl (.inl e)
  · rcases rlt_total S e with h | h
    · exact .inl (.inr h)
    · exact .inr (.inr h)
/-- R holds the numbers of l, in the rotations' order. -/
def Srt (S l R : List Nat) : Prop := R.Perm l ∧ R.Pairwise (rlt S)
theorem srt_unique {S l R R2 : List Nat} (h : Srt S l R) (h2 : Srt S l R2) : R = R2 := by
  refine List.Perm.eq_of_pairwise ?_ h.2 h2.2 (h.1.trans h2.1.symm)
  intro a b _ _ h3 h4
  exact absurd h4 (rlt_asym h3)
theorem pair_strict {S R : List Nat} (h : R.Pairwise (fun a b => rle S a b = true)) (hn : R.Nodup) : R.Pairwise (rlt S) := by
  have := h.and hn
  refine this.imp ?_
  rintro a b ⟨h1, h2⟩
  rcases (rle_iff S a b).1 h1 with e | e
  · exact absurd e h2
  · exact e
theorem srt_merge {S l l2 A B : List Nat} (h : Srt S l A) (h2 : Srt S l2 B) (hn : (l ++ l2).Nodup) : Srt S (l ++ l2) (A.merge B (rle S)) := by
  have hp : (A.merge B (rle S)).Perm (l ++ l2) := (List.merge_perm_append (rle S)).trans (h.1.append h2.1)
  have w : ∀ {R : List Nat}, R.Pairwise (rlt S) → R.Pairwise (fun a b => rle S a b = true) := fun hR => hR.imp fun hh => (rle_iff _ _ _).2 (.inr hh)
  exact ⟨hp, pair_strict (List.pairwise_merge (rle_trans S) (rle_total S) A B (w h.2) (w h2.2)) (hp.nodup_iff.2 hn)⟩
/-- All rotations in order. -/
def rotO (S : List Nat) : List Nat := (List.range S.length).mergeSort (rle S)
theorem rotO_srt (S : List Nat) : Srt S (List.range S.length) (rotO S) := by
  have hp : (rotO S).Perm (List.range S.length) := List.mergeSort_perm _ _
  exact ⟨hp, pair_strict (List.pairwise_mergeSort (rle_trans S) (rle_total S) _) (hp.nodup_iff.2 List.nodup_range)⟩
theorem rotO_is {S R : List Nat} (h : Srt S (List.range S.length) R) : R = rotO S := srt_unique h (rotO_srt S)
theorem rotO_len (S : List Nat) : (rotO S).length = S.length := by rw [(rotO_srt S).1.length_eq, List.length_range]
theorem rotO_lt (S : List Nat) : ∀ x ∈ rotO S, x < S.length := fun x hx => by
  have := (rotO_srt S).1.mem_iff.1 hx
  rwa [List.mem_range] at this
/-- The first place at which two rotations differ decides. -/
theorem rlt_diff {S : List Nat} {i j k : Nat} (hi : i < S.length) (hj : j < S.length) (hk : k < S.length) (h : ∀ t, t < k → rotB S i t = rotB S j t) (hne : rotB S i k ≠ rotB S j k) : rlt S i j ↔ rotB S i k < rotB S j k := by
  have li := rotL_len S i (by omega)
  have lj := rotL_len S j (by omega)
  have gi : ∀ t (ht : t < (rotL S i).length), (rotL S i)[t] = rotB S i t := fun t ht => by
    rw [← rotL_get S i t hi (by omega), List.getD_eq_getElem?_getD, List.getElem?_eq_getElem ht]; rfl
  have gj : ∀ t (ht : t < (rotL S j).length), (rotL S j)[t] = rotB S j t := fun t ht => by
    rw [← rotL_get S j t hj (by omega), List.getD_eq_getElem?_getD, List.getElem?_eq_getElem ht]; rfl
  have hnl : rotL S i ≠ rotL S j := fun e => hne (by rw [← rotL_get S i k hi hk, ← rotL_get S j k hj hk, e])
  constructor
  · rintro (h1 | ⟨h1, _⟩)
    · rcases Nat.lt_or_ge (rotB S i k) (rotB S j k) with h2 | h2
      · exact h2
      · have : rotL S j < rotL S i := by
          rw [List.lt_iff_exists]
          refine .inr ⟨k, by omega, by omega, fun t ht => ?_, ?_⟩
          · rw [gi, gj, h t ht]
          · rw [gi, gj]; omega
        exact absurd h1 (List.lt_asymm this)
    · exact absurd h1 hnl
  · intro h1
    refine .inl ?_
    rw [List.lt_iff_exists]
    refine .inr ⟨k, by omega, by omega, fun t ht => ?_, ?_⟩
    · rw [gi, gj, h t ht]
    · rw [gi, gj]; exact h1
theorem rlt_same {S : List Nat} {i j : Nat} (hi : i < S.length) (hj : j < S.length) (h : ∀ t, t < S.length → rotB S i t = rotB S j t) : rlt S i j ↔ j < i := by
  have e : rotL S i = rotL S j := by
    apply List.ext_getElem (by rw [rotL_len S i (by omega), rotL_len S j (by omega)])
    intro t h1 h2
    have ht : t < S.length := by rw [rotL_len S i (by omega)] at h1; exact h1
    have a1 := rotL_get S i t hi ht
    have a2 := rotL_get S j t hj ht
    rw [List.getD_eq_getElem?_getD, List.getElem?_eq_getElem h1] at a1
    rw [List.getD_eq_getElem?_getD, List.getElem?_eq_getElem h2] at a2
    have := h t ht
    simp only [Option.getD_some] at a1 a2
    omega
  unfold rlt
  rw [e]
  constructor
  · rintro (h1 | ⟨_, h1⟩)
    · exact absurd h1 (List.lt_irrefl _)
    · exact h1
  · exact fun h1 => .inr ⟨rfl, h1⟩
/-- The last bytes in the order, and where the rotation at 0 stands. -/
def lastL (S : List Nat) : List Nat := (rotO S).map fun r => S.getD ((r + S.length - 1) % S.length) 0
def fstN (S : List Nat) : Nat := (rotO S).idxOf 0
theorem lastL_len (S : List Nat) : (lastL S).length = S.length := by unfold lastL; rw [List.length_map, rotO_len]
/-- The least turn that changes nothing. -/
def IsPer (S : List Nat) (p : Nat) : Prop := 1 ≤ p ∧ p ≤ S.length ∧ (p < S.length → rotL S p = S) ∧ ∀ q, 1 ≤ q → q < p → rotL S q ≠ S
theorem per_unique {S : List Nat} {p q : Nat} (h : IsPer S p) (h2 : IsPer S q) : p = q := by
  obtain ⟨a1, a2, a3, a4⟩ := h
  obtain ⟨b1, b2, b3, b4⟩ := h2
  rcases Nat.lt_trichotomy p q with h | h | h
  · exact absurd (a3 (by omega)) (b4 p a1 h)
  · exact h
  · exact absurd (b3 (by omega)) (a4 q b1 h)
/-- From a row to the row of the rotation before. -/
def lfB (S : List Nat) (i k : Nat) : Bool := decide (S.getD k 0 < S.getD i 0) || (decide (S.getD k 0 = S.getD i 0) && decide (k < i))
def lfT (S : List Nat) (i k : Nat) : Nat := (List.range k).countP (lfB S i)
def lfN (S : List Nat) (i : Nat) : Nat := lfT S i S.length
theorem lfT_succ (S : List Nat) (i k : Nat) : lfT S i (k + 1) = lfT S i k + if lfB S i k = true then 1 else 0 := by
  unfold lfT
  rw [List.range_succ, List.countP_append, List.countP_singleton]
theorem lfT_le (S : List Nat) (i k : Nat) : lfT S i k ≤ k := by
  unfold lfT
  have := List.countP_le_length (p := lfB S i) (l := List.range k)
  rwa [List.length_range] at this
theorem lfT_lt (S : List Nat) (i : Nat) : ∀ k, i < k → lfT S i k < k
  | 0, h => by omega
  | k + 1, h => by
    rw [lfT_succ]
    by_cases e : i = k
    · subst e
      have hb : lfB S i i = false := by simp [lfB]
      have := lfT_le S i i
      rw [hb]
      simp
      omega
    · have := lfT_lt S i k (by omega)
      split <;> omega
theorem lfN_lt {S : List Nat} {i : Nat} (h : i < S.length) : lfN S i < S.length := lfT_lt S i _ h
def lfL (S : List Nat) : List Nat := (List.range S.length).map (lfN S)
/-- Where the way back stands after k steps. -/
def atN (S : List Nat) (f : Nat) : Nat → Nat
  | 0 => f
  | k + 1 => lfN S (atN S f k)
theorem atN_lt {S : List Nat} {f : Nat} (h : f < S.length) : ∀ k, atN S f k < S.length
  | 0 => h
  | k + 1 => lfN_lt (atN_lt h k)
/-- The only text that may be meant. -/
def canL (S : List Nat) (f : Nat) : List Nat := (List.range S.length).map fun j => S.getD (atN S f (S.length - 1 - j)) 0
theorem canL_len (S : List Nat) (f : Nat) : (canL S f).length = S.length := by unfold canL; simp
def unOk (S : List Nat) (f : Int) : Bool := decide (0 < S.length ∧ S.length ≤ 600 ∧ 0 ≤ f ∧ f < S.length ∧ lastL (canL S f.toNat) = S ∧ fstN (canL S f.toNat) = f.toNat)
end Go.Proofs.YtpjgoikdfkaefaaGreat
namespace Go.Proofs.YtpjgoikdfkaefaaGreat
set_option linter.unusedVariables false
set_option linter.unusedSimpArgs false

/-- All of the list are bytes. -/
def Byt (l : List Nat) : Prop := ∀ b ∈ l, b < 256
theorem byt_bytesOf (s : ByteArray) : Byt (bytesOf s) := by
  intro b hb
  simp only [bytesOf, List.mem_map] at hb
  obtain ⟨x, _, rfl⟩ := hb
  exact UInt8.toNat_lt _

/-- Two rows in one strict order with the same members are one. -/
theorem pw_unique {R : Nat → Nat → Prop} (irr : ∀ a, ¬ R a a) (asym : ∀ a b, R a b → ¬ R b a) : ∀ (l m : List Nat), l.Pairwise R → m.Pairwise R → (∀ b, b ∈ l ↔ b ∈ m) → l = m := by
  intro l
  induction l with
  | nil =>
    intro m _ _ h
    cases m with
    | nil => rfl
    | cons b m => exact absurd ((h b).2 (List.mem_cons_self ..)) (by simp)
  | cons a l ih =>
    intro m hl hm h
    cases m with
    | nil => exact absurd ((h a).1 (List.mem_cons_self ..)) (by simp)
    | cons b m =>
      rw [List.pairwise_cons] at hl hm
      have hab : a = b := by
        rcases List.mem_cons.1 ((h a).1 (List.mem_cons_self ..)) with e | e
        · exact e
        · rcases List.mem_cons.1 ((h b).2 (List.mem_cons_self ..)) with e2 | e2
          · exact e2.symm
          · exact absurd (hm.1 a e) (asym _ _ (hl.1 b e2))
      subst hab
      rw [ih m hl.2 hm.2]
      intro x
      constructor
      · intro hx
        rcases List.mem_cons.1 ((h x).1 (List.mem_cons_of_mem _ hx)) with e | e
        · subst e; exact absurd (hl.1 x hx) (irr _)
        · exact e
      · intro hx
        rcases List.mem_cons.1 ((h x).2 (List.mem_cons_of_mem _ hx)) with e | e
        · subst e; exact absurd (hm.1 x hx) (irr _)
        · exact e
theorem asc_unique {l m : List Nat} (h1 : l.Pairwise (· < ·)) (h2 : m.Pairwise (· < ·)) (h : ∀ b, b ∈ l ↔ b ∈ m) : l = m :=
  pw_unique (fun a => Nat.lt_irrefl a) (fun a b h => by omega) l m h1 h2 h

/-- The numbers of the list, each once, ascending, below k. -/
def usedTo (l : List Nat) (k : Nat) : List Nat := (List.range k).filter (fun b => decide (0 < l.count b))
def usedL (l : List Nat) : List Nat := usedTo l 256
theorem usedTo_succ (l : List Nat) (k : Nat) : usedTo l (k + 1) = if 0 < l.count k then usedTo l k ++ [k] else usedTo l k := by
  unfold usedTo
  rw [List.range_succ, List.filter_append]
  split <;> simp_all
theorem mem_usedTo {l : List Nat} {k b : Nat} : b ∈ usedTo l k ↔ b < k ∧ b ∈ l := by
  simp [usedTo, List.count_pos_iff]
theorem mem_usedL {l : List Nat} (h : Byt l) {b : Nat} : b ∈ usedL l ↔ b ∈ l := by
  unfold usedL
  rw [mem_usedTo]
  exact ⟨fun x => x.2, fun x => ⟨h b x, x⟩⟩
theorem usedL_asc (l : List Nat) : (usedL l).Pairwise (· < ·) := List.pairwise_lt_range.sublist List.filter_sublist
theorem usedTo_len (l : List Nat) (k : Nat) : (usedTo l k).length ≤ k := by
  unfold usedTo
  have := List.length_filter_le (fun b => decide (0 < l.count b)) (List.range k)
  simpa using this
theorem byt_usedL (l : List Nat) : Byt (usedL l) := fun b hb => (mem_usedTo.1 hb).1
theorem asc_nodup {l : List Nat} (h : l.Pairwise (· < ·)) : l.Nodup := h.imp (fun h => by omega)
theorem usedL_nodup (l : List Nat) : (usedL l).Nodup := asc_nodup (usedL_asc l)
theorem usedL_count (l : List Nat) (h : Byt l) (b : Nat) : (usedL l).count b = if b ∈ l then 1 else 0 := by
  rw [(usedL_nodup l).count]
  simp [mem_usedL h]
theorem usedL_self {u : List Nat} (hb : Byt u) : usedL u = u ↔ u.Pairwise (· < ·) := by
  constructor
  · intro h; rw [← h]; exact usedL_asc u
  · intro h; exact asc_unique (usedL_asc u) h (fun b => mem_usedL hb)
theorem nodup_len_le : ∀ {l m : List Nat}, l.Nodup → (∀ b ∈ l, b ∈ m) → l.length ≤ m.length := by
  intro l
  induction l with
  | nil => intro m _ _; simp
  | cons a l ih =>
    intro m hl h
    rw [List.nodup_cons] at hl
    have ha := h a (List.mem_cons_self ..)
    have h2 := ih (m := m.erase a) hl.2 (fun b hb => (List.mem_erase_of_ne (fun e => hl.1 (by rw [← e]; exact hb))).2 (h b (List.mem_cons_of_mem _ hb)))
    rw [List.length_erase_of_mem ha] at h2
    have := List.length_pos_of_mem ha
    simp only [List.length_cons]
    omega
theorem used_len_le {l : List Nat} (hb : Byt l) : (usedL l).length ≤ l.length := nodup_len_le (usedL_nodup l) (fun b h => (mem_usedL hb).1 h)
theorem used_len_eq {l : List Nat} (hb : Byt l) : (usedL l).length = l.length ↔ l.Nodup := by
  constructor
  · intro h
    rw [List.nodup_iff_count]
    intro a
    apply Decidable.byContradiction
    intro hc
    have h2 : 2 ≤ l.count a := by omega
    have ha : a ∈ l := List.count_pos_iff.1 (by omega)
    have hb2 : Byt (l.erase a) := fun b hx => hb b (List.mem_of_mem_erase hx)
    have he : usedL l = usedL (l.erase a) := asc_unique (usedL_asc _) (usedL_asc _) (fun b => by
      rw [mem_usedL hb, mem_usedL hb2, ← List.count_pos_iff, ← List.count_pos_iff, List.count_erase]
      by_cases e : b = a
      · subst e; rw [beq_self_eq_true, if_pos rfl]; omega
      · rw [if_neg (by simpa using Ne.symm e)]; rfl)
    have h3 := used_len_le hb2
    rw [← he, List.length_erase_of_mem ha] at h3
    have := List.length_pos_of_mem ha
    omega
  · intro h
    have := nodup_len_le h (fun b hx => (mem_usedL hb).2 hx)
    have := used_len_le hb
    omega
theorem nodup_256 {l : List Nat} (hb : Byt l) (h : l.Nodup) : l.length ≤ 256 := by
  have := (used_len_eq hb).2 h
  have := usedTo_len l 256
  unfold usedL at *
  omega
theorem used_perm {l : List Nat} (hb : Byt l) (h : l.Nodup) : (usedL l).Perm l := by
  rw [List.perm_iff_count]
  intro a
  rw [usedL_count l hb a, h.count]

/-- An order: something, and nothing twice. -/
def ordOk (l : List Nat) : Bool := decide (l ≠ [] ∧ l.Nodup)
theorem ordOk_iff (l : List Nat) : ordOk l = true ↔ l ≠ [] ∧ l.Nodup := by simp [ordOk]
/-- A set: something, and ascending. -/
def setOk (u : List Nat) : Bool := decide (u ≠ [] ∧ usedL u = u)
theorem setOk_iff (u : List Nat) : setOk u = true ↔ u ≠ [] ∧ usedL u = u := by simp [setOk]

/-- By count: what comes more often comes first; else by value. -/
def befC (l : List Nat) (a b : Nat) : Prop := l.count b < l.count a ∨ (l.count a = l.count b ∧ a < b)
theorem befC_irr (l : List Nat) (a : Nat) : ¬ befC l a a := by unfold befC; omega
theorem befC_asym (l : List Nat) (a b : Nat) (h : befC l a b) : ¬ befC l b a := by unfold befC at *; omega
theorem befC_trans (l : List Nat) {a b c : Nat} (h : befC l a b) (h2 : befC l b c) : befC l a c := by unfold befC at *; omega
theorem befC_total (l : List Nat) {a b : Nat} (h : a ≠ b) : befC l a b ∨ befC l b a := by unfold befC; omega
/-- The bytes of l by count. -/
def Ranked (l R : List Nat) : Prop := R.Pairwise (befC l) ∧ ∀ b, b ∈ R ↔ b ∈ l
theorem ranked_unique {l R R2 : List Nat} (h : Ranked l R) (h2 : Ranked l R2) : R = R2 :=
  pw_unique (befC_irr l) (befC_asym l) R R2 h.1 h2.1 (fun b => (h.2 b).trans (h2.2 b).symm)
theorem ranked_nodup {l R : List Nat} (h : Ranked l R) : R.Nodup := h.1.imp (fun {a b} h e => by subst e; exact befC_irr l a h)
theorem ranked_byt {l R : List Nat} (hb : Byt l) (h : Ranked l R) : Byt R := fun b hx => hb b ((h.2 b).1 hx)
theorem ranked_used {l R : List Nat} (hb : Byt l) (h : Ranked l R) : usedL R = usedL l :=
  asc_unique (usedL_asc _) (usedL_asc _) (fun b => by rw [mem_usedL (ranked_byt hb h), mem_usedL hb]; exact h.2 b)
theorem ranked_len {l R : List Nat} (hb : Byt l) (h : Ranked l R) : R.length = (usedL l).length := by
  rw [← ranked_used hb h]; exact ((used_len_eq (ranked_byt hb h)).2 (ranked_nodup h)).symm

/-- What is still to be picked, and how often it occurs. -/
def remF (L R : List Nat) (b : Nat) : Nat := if b ∈ R then 0 else L.count b
/-- R has been picked from L, in order. -/
def Sel (L R : List Nat) : Prop := R.Pairwise (befC L) ∧ (∀ x ∈ R, x ∈ L) ∧ ∀ x ∈ R, ∀ y ∈ L, y ∉ R → befC L x y
theorem sel_nil (L : List Nat) : Sel L [] := ⟨List.Pairwise.nil, by simp, by simp⟩
theorem sel_nodup {L R : List Nat} (h : Sel L R) : R.Nodup := h.1.imp (fun {a b} h e => by subst e; exact befC_irr L a h)
theorem sel_step {L R : List Nat} (hB : Byt L) (h : Sel L R) {m : Nat} (hmax : ∀ x, x < 256 → remF L R x ≤ remF L R m ∧ (remF L R x = remF L R m → m ≤ x)) (hp : 0 < remF L R m) : Sel L (R ++ [m]) ∧ R.length + 1 ≤ 256 := by
  have hm : m ∉ R := fun e => by unfold remF at hp; rw [if_pos e] at hp; omega
  have hr : remF L R m = L.count m := by unfold remF; rw [if_neg hm]
  have hmL : m ∈ L := List.count_pos_iff.1 (by omega)
  have h2 : Sel L (R ++ [m]) := by
    refine ⟨?_, ?_, ?_⟩
    · rw [List.pairwise_append]
      refine ⟨h.1, by simp, fun a ha b hb => ?_⟩
      simp at hb; subst hb
      exact h.2.2 a ha b hmL hm
    · intro x hx
      rcases List.mem_append.1 hx with hx | hx
      · exact h.2.1 x hx
      · simp at hx; subst hx; exact hmL
    · intro x hx y hy hn
      have hy1 : y ∉ R := fun e => hn (List.mem_append_left _ e)
      have hy2 : y ≠ m := fun e => hn (by simp [e])
      rcases List.mem_append.1 hx with hx | hx
      · exact h.2.2 x hx y hy hy1
      · simp at hx; subst hx
        have hq := hmax y (hB y hy)
        have hry : remF L R y = L.count y := by unfold remF; rw [if_neg hy1]
        rw [hry, hr] at hq
        unfold befC; omega
  refine ⟨h2, ?_⟩
  have := nodup_256 (fun b hb => hB b (h2.2.1 b hb)) (sel_nodup h2)
  simpa using this
theorem sel_end {L R : List Nat} (hB : Byt L) (h : Sel L R) {m : Nat} (hmax : ∀ x, x < 256 → remF L R x ≤ remF L R m ∧ (remF L R x = remF L R m → m ≤ x)) (hp : remF L R m = 0) : Ranked L R := by
  refine ⟨h.1, fun b => ⟨h.2.1 b, fun hb => ?_⟩⟩
  apply Decidable.byContradiction
  intro hn
  have h1 := (hmax b (hB b hb)).1
  have h2 : remF L R b = L.count b := by unfold remF; rw [if_neg hn]
  have h3 := List.count_pos_iff.2 hb
  omega
theorem remF_snoc (L R : List Nat) (m t : Nat) : remF L (R ++ [m]) t = if t = m then 0 else remF L R t := by
  unfold remF
  by_cases e : t = m
  · subst e; simp
  · simp [e]
theorem remF_nil (L : List Nat) : remF L [] = fun b => L.count b := by funext b; simp [remF]
end Go.Proofs.YtpjgoikdfkaefaaGreat
namespace Go.Proofs.YtpjgoikdfkaefaaGreat
set_option linter.unusedVariables false
set_option linter.unusedSimpArgs false
open Go.RowKit

/-- The cells of a row of small numbers. -/
def u8s (l : List Nat) : List Value := l.map fun (b : Nat) => Value.int .u8 (b : Int)
theorem u8s_len (l : List Nat) : (u8s l).length = l.length := by simp [u8s]
theorem u8s_snoc (l : List Nat) (b : Nat) : u8s (l ++ [b]) = u8s l ++ [.int .u8 (b : Int)] := by simp [u8s]
theorem u8s_append (l m : List Nat) : u8s (l ++ m) = u8s l ++ u8s m := by simp [u8s]
theorem u8s_one (l : List Nat) : ∀ u ∈ u8s l, u.oneCell' = true := by
  intro u hu
  simp only [u8s, List.mem_map] at hu
  obtain ⟨b, _, rfl⟩ := hu
  rfl
theorem u8s_set (l : List Nat) (k b : Nat) : u8s (l.set k b) = (u8s l).set k (.int .u8 (b : Int)) := by simp [u8s, List.map_set]
theorem u8s_get (l : List Nat) (k : Nat) (h : k < l.length) : (u8s l)[k]? = some (.int .u8 ((l.getD k 0 : Nat) : Int)) := by simp [u8s, List.getD_eq_getElem?_getD, h]
theorem own_ne {w : World} {base g : Nat} {e : TypeId} {size : Nat} {v : Value} {n : Nat} {xs : List Value} (h : w.ownsRow base e size v n xs) (hg : g < base) : some g ≠ v.ownBlock := by
  intro he
  have := (h.lt g he.symm).1
  omega

theorem fold_push (ns : List Nat) (r : ByteArray) : ns.foldl (fun r n => r.push (UInt8.ofNat n)) r = ⟨(r.data.toList ++ ns.map UInt8.ofNat).toArray⟩ := by
  induction ns generalizing r with
  | nil => simp
  | cons n ns ih =>
    rw [List.foldl_cons, ih]
    simp [ByteArray.push]
theorem run_string_own {P : Program} {w : World} {base g n c : Nat} {D : List Nat} {src dst e : TypeId} (hs : P.underlying src = some (.slice e)) (he : P.underlying e = some (.int .u8)) (hd : P.underlying dst = some .string)
    (h : w.ownsRow base e 1 (.slice (some ⟨g, 0, none⟩) n c) n (u8s D)) (hn : D.length = n) :
    (convert src dst (.slice (some ⟨g, 0, none⟩) n c)).run P w = .ok (.string (strOf D)) w := by
  rw [run_convert_bytes_string w src dst e _ _ _ hs he hd]
  have hl := run_loadCells_list (P := P) (w := w) ⟨g, 0, none⟩ (u8s D) (fun j u hu => h.cells (g := g) rfl j u hu)
  rw [u8s_len, hn] at hl
  have e1 : (u8s D).toArray = ((D.map fun (b : Nat) => (b : Int)).map (Value.int .u8)).toArray := by simp [u8s]
  rw [e1] at hl
  rw [run_bytesToString w ⟨g, 0, none⟩ n c _ hl]
  congr 2
  rw [List.foldl_map]
  simp only [Int.toNat_natCast]
  rw [fold_push]
  simp [strOf]
end Go.Proofs.YtpjgoikdfkaefaaGreat
namespace Go.Proofs.YtpjgoikdfkaefaaGreat
set_option linter.unusedVariables false
set_option linter.unusedSimpArgs false
open Go.RowKit

theorem own_bel {w w' : World} {base : Nat} {e : TypeId} {size : Nat} {v : Value} {n : Nat} {xs : List Value} (h : w.ownsRow base e size v n xs) (hb : Below w.heap.size w w') : w'.ownsRow base e size v n xs :=
  h.kept (row := none) ⟨hb.os, hb.tape, hb.output, hb.size, fun i hi _ => hb.block i hi⟩ (by
    rcases h.2 with ⟨rfl, _⟩ | ⟨g, _, _, rfl, _⟩
    · exact .inl rfl
    · exact .inr (by simp [Value.ownBlock]))
theorem own_shape {w : World} {base size n : Nat} {e : TypeId} {v : Value} {xs : List Value} (h : w.ownsRow base e size v n xs) : ∃ a c, v = .slice a n c := by
  rcases h.2 with ⟨rfl, rfl⟩ | ⟨g, cap, cur, rfl, _⟩
  · exact ⟨none, 0, rfl⟩
  · exact ⟨_, cap, rfl⟩
def natsL (D : List Nat) : List Value := D.map fun (x : Nat) => Value.int .i64 (x : Int)
theorem natsL_len (D : List Nat) : (natsL D).length = D.length := by simp [natsL]
theorem natsL_get (D : List Nat) (j : Nat) (h : j < D.length) : (natsL D)[j]? = some (.int .i64 (D[j] : Int)) := by simp [natsL, h]
theorem natsL_append (D E : List Nat) : natsL (D ++ E) = natsL D ++ natsL E := by simp [natsL]
theorem natsL_one (D : List Nat) : ∀ u ∈ natsL D, u.oneCell' = true := by
  intro u hu
  simp only [natsL, List.mem_map] at hu
  obtain ⟨x, _, rfl⟩ := hu
  rfl
theorem own_neq {w : World} {base size n g m c : Nat} {e : TypeId} {v : Value} {xs : List Value} (h : w.ownsRow base e size v n xs) (hg : g < base) : Value.ownBlock (.slice (some ⟨g, 0, none⟩) m c) ≠ v.ownBlock := by
  intro he
  have := (h.lt g (by rw [← he]; rfl)).1
  omega
theorem natsL_take {w : World} {base g n c : Nat} {E : TypeId} {D : List Nat} (h : w.ownsRow base E 1 (.slice (some ⟨g, 0, none⟩) n c) n (natsL D)) (k : Nat) : ∀ (j : Nat) (u : Value), (natsL (D.take k))[j]? = some u → w.cell? ((⟨g, 0, none⟩ : Addr).add j) = some u := by
  intro j u hu
  refine h.cells (g := g) rfl j u ?_
  simp only [natsL, List.map_take, List.getElem?_take] at hu ⊢
  split at hu
  · exact hu
  · cases hu
theorem natsL_drop {w : World} {base g n c : Nat} {E : TypeId} {D : List Nat} (h : w.ownsRow base E 1 (.slice (some ⟨g, 0, none⟩) n c) n (natsL D)) (k : Nat) : ∀ (j : Nat) (u : Value), (natsL (D.drop k))[j]? = some u → w.cell? ((⟨g, k, none⟩ : Addr).add j) = some u := by
  intro j u hu
  have e : (⟨g, k, none⟩ : Addr).add j = ⟨g, k + j, none⟩ := by unfold Addr.add; split <;> simp_all
  have hu2 : (natsL D)[k + j]? = some u := by
    simp only [natsL, List.map_drop, List.getElem?_drop] at hu ⊢; exact hu
  have hl := h.1
  have hj : k + j < n * 1 := by rw [← hl]; exact (List.getElem?_eq_some_iff.1 hu2).1
  rw [e, h.cellAt _ hj, hu2]
def nats (n : Nat) (f : Nat → Nat) : List Value := (List.range n).map fun s => Value.int .i64 (f s : Int)
theorem nats_len (n : Nat) (f : Nat → Nat) : (nats n f).length = n := by simp [nats]
theorem nats_get (n : Nat) (f : Nat → Nat) (s : Nat) (h : s < n) : (nats n f)[s]? = some (.int .i64 (f s : Int)) := by simp [nats, h]
theorem nats_set (n : Nat) (f : Nat → Nat) (s : Nat) (x : Nat) : (nats n f).set s (.int .i64 (x : Int)) = nats n (fun t => if t = s then x else f t) := by
  apply List.ext_getElem (by simp [nats])
  intro i h1 h2
  by_cases e : s = i
  · subst e; simp [nats]
  · have : ¬ i = s := fun h => e h.symm
    simp [nats, List.getElem_set, e, this]
theorem nats_congr {n : Nat} {f g : Nat → Nat} (h : ∀ s, s < n → f s = g s) : nats n f = nats n g := by
  unfold nats
  exact List.map_congr_left fun s hs => by rw [h s (List.mem_range.1 hs)]
theorem Tryz.infoInt : (Tryz.prog.info? 3).map (fun i => (i.zero, i.size, i.bytes)) = some (some (.int .i64 0), 1, 8) := by kernel_rfl
theorem own_types {w : World} {b1 b2 s1 s2 n1 n2 g : Nat} {e1 e2 : TypeId} {v1 v2 : Value} {xs ys : List Value} (h : w.ownsRow b1 e1 s1 v1 n1 xs) (h' : w.ownsRow b2 e2 s2 v2 n2 ys) (hne : e1 ≠ e2) (hg : v1.ownBlock = some g) : v2.ownBlock ≠ some g := by
  intro he
  rcases h.2 with ⟨rfl, _⟩ | ⟨ga, _, ca, rfl, _, ha, _⟩
  · cases hg
  · rcases h'.2 with ⟨rfl, _⟩ | ⟨gb, _, cb, rfl, _, hb, _⟩
    · cases he
    · simp only [Value.ownBlock, Option.some.injEq] at hg he
      subst hg he
      rw [ha] at hb
      injection hb with hb
      injection hb with _ h2
      exact hne h2
theorem made_nats (n : Nat) : (madeCells #[Value.int .i64 0] n).toList = nats n (fun _ => 0) := by
  rw [toList_madeCells_one]
  apply List.ext_getElem (by simp [nats])
  intro i h1 h2
  simp [nats]
theorem cell_one (w : World) (u : Value) (T : TypeId) : ∀ (j : Nat) (v : Value), [u][j]? = some v → (w.alloc (.cells #[u] T)).cell? ((⟨w.heap.size, 0, none⟩ : Addr).add j) = some v := by
  intro j v hv
  have hj : j = 0 := by
    have := (List.getElem?_eq_some_iff.1 hv).1
    simpa using this
  subst hj
  have := (Has.fresh w T #[u]).cell 0
  have e : (⟨w.heap.size, 0, none⟩ : Addr).add 0 = ⟨w.heap.size, 0, none⟩ := by simp [Addr.add]
  rw [e, this]
  simpa using hv
theorem natsL_nats (L : List Nat) : natsL L = nats L.length (fun s => L.getD s 0) := by
  apply List.ext_getElem (by simp [natsL, nats])
  intro i h1 h2
  have h : i < L.length := by simpa [natsL] using h1
  simp [natsL, nats, List.getD_eq_getElem?_getD, h]
theorem own_away {w : World} {base n S : Nat} {E : TypeId} {v : Value} {xs : List Value} (h : w.ownsRow base E S v n xs) {p : Addr} (hp : p.block < base) (u : Value) : (w.setCell p u).ownsRow base E S v n xs :=
  h.kept ((Only.refl p.block w).store (.inl rfl) u) (.inr (fun he => by have := (h.lt _ he).1; omega))
end Go.Proofs.YtpjgoikdfkaefaaGreat
namespace Go.Proofs.YtpjgoikdfkaefaaGreat
set_option linter.unusedVariables false
set_option linter.unusedSimpArgs false

/-- The least number of bits in which m numbers can be told apart. -/
def needB (m : Nat) : Nat := if m ≤ 1 then 0 else Nat.log2 (m - 1) + 1
theorem need_up (m : Nat) : m ≤ 2 ^ needB m := by
  unfold needB
  split
  · simp; omega
  · have := log_up (m - 1); omega
theorem need_low (m j : Nat) (h : j < needB m) : 2 ^ j < m := by
  unfold needB at h
  split at h
  · omega
  · have h1 := log_low (n := m - 1) (by omega)
    have h2 : 2 ^ j ≤ 2 ^ Nat.log2 (m - 1) := Nat.pow_le_pow_right (by omega) (by omega)
    omega
theorem need_le (m : Nat) (h : m ≤ 256) : needB m ≤ 8 := by
  rcases Nat.lt_or_ge 8 (needB m) with h2 | h2
  · have := need_low m 8 h2
    omega
  · exact h2
theorem need_one {m n : Nat} (h1 : m ≤ 2 ^ n) (h2 : ∀ j, j < n → 2 ^ j < m) : n = needB m := by
  rcases Nat.lt_trichotomy n (needB m) with h | h | h
  · have := need_low m n h; omega
  · exact h
  · have := h2 _ h; have := need_up m; omega

/-- An order as bits. -/
def putO : List Nat → List Nat → List Nat
  | _, [] => []
  | u, x :: o => nbits (u.idxOf x) (needB u.length) ++ putO (u.erase x) o
theorem putO_lt (u o : List Nat) : ∀ b ∈ putO u o, b < 2 := by
  induction o generalizing u with
  | nil => simp [putO]
  | cons x o ih =>
    intro b hb
    unfold putO at hb
    rcases List.mem_append.1 hb with h | h
    · exact nbits_lt _ _ b h
    · exact ih _ b h
theorem putO_len (u o : List Nat) (h : u.length ≤ 256) : (putO u o).length ≤ 8 * o.length := by
  induction o generalizing u with
  | nil => simp [putO]
  | cons x o ih =>
    unfold putO
    rw [List.length_append, nbits_len, List.length_cons]
    have h1 := need_le u.length h
    have h2 := ih (u.erase x) (by have := List.length_erase_le (a := x) (l := u); omega)
    omega
theorem erase_idx {u : List Nat} {x : Nat} (h : x ∈ u) : u.erase x = u.eraseIdx (u.idxOf x) := List.erase_eq_eraseIdx_of_idxOf rfl
theorem idx_lt {u : List Nat} {x : Nat} (h : x ∈ u) : u.idxOf x < u.length := List.idxOf_lt_length_of_mem h
theorem idx_get {u : List Nat} {x : Nat} (h : x ∈ u) : u.getD (u.idxOf x) 0 = x := by
  rw [List.getD_eq_getElem?_getD, List.getElem?_eq_getElem (idx_lt h), Option.getD_some, List.getElem_idxOf]

/-- An order read from bits, its set being known. -/
def getO (s : ByteArray) : Nat → List Nat → Nat → Option (List Nat × Nat)
  | 0, _, a => some ([], a)
  | f + 1, u, a => if a + needB (f + 1) ≤ 8 * s.size ∧ num (row s a (needB (f + 1))) ≤ f then
      (getO s f (u.eraseIdx (num (row s a (needB (f + 1))))) (a + needB (f + 1))).map (fun r => (u.getD (num (row s a (needB (f + 1)))) 0 :: r.1, r.2)) else none
theorem getO_put (s : ByteArray) : ∀ (o u : List Nat) (a : Nat), u.Perm o → a + (putO u o).length ≤ 8 * s.size → row s a (putO u o).length = putO u o → getO s u.length u a = some (o, a + (putO u o).length) := by
  intro o
  induction o with
  | nil =>
    intro u a hp _ _
    have : u = [] := List.perm_nil.1 hp
    subst this
    rfl
  | cons x o ih =>
    intro u a hp ha hr
    have hx : x ∈ u := hp.mem_iff.2 (List.mem_cons_self ..)
    have hl := hp.length_eq
    simp only [List.length_cons] at hl
    unfold putO at ha hr ⊢
    rw [List.length_append, nbits_len] at ha hr ⊢
    rw [row_add] at hr
    have hr1 := (List.append_inj hr (by rw [row_len, nbits_len])).1
    have hr2 := (List.append_inj hr (by rw [row_len, nbits_len])).2
    have hk := idx_lt hx
    have hn : num (row s a (needB u.length)) = u.idxOf x := by rw [hr1]; exact num_nbits _ _ (Nat.lt_of_lt_of_le hk (need_up _))
    have hp2 : (u.erase x).Perm o := by have := hp.erase x; rwa [List.erase_cons_head] at this
    have h3 := ih (u.erase x) (a + needB u.length) hp2 (by omega) hr2
    rw [hl]
    unfold getO
    rw [← hl, if_pos ⟨by omega, by rw [hn]; omega⟩, hn, ← erase_idx hx]
    rw [show o.length = (u.erase x).length by rw [hp2.length_eq], h3, idx_get hx]
    simp [Nat.add_assoc]
theorem getO_yes {s : ByteArray} {f v : Nat} {u : List Nat} {a : Nat} (h1 : a + needB (f + 1) ≤ 8 * s.size) (hv : num (row s a (needB (f + 1))) = v) (h2 : v ≤ f) :
    getO s (f + 1) u a = (getO s f (u.eraseIdx v) (a + needB (f + 1))).map (fun r => (u.getD v 0 :: r.1, r.2)) := by
  subst hv
  conv => lhs; unfold getO
  rw [if_pos ⟨h1, h2⟩]
theorem getO_no {s : ByteArray} {f : Nat} {u : List Nat} {a : Nat} (h : ¬ (a + needB (f + 1) ≤ 8 * s.size ∧ num (row s a (needB (f + 1))) ≤ f)) : getO s (f + 1) u a = none := by unfold getO; rw [if_neg h]
theorem getO_len {s : ByteArray} : ∀ {f : Nat} {u : List Nat} {a : Nat} {o : List Nat} {e : Nat}, a ≤ 8 * s.size → getO s f u a = some (o, e) → o.length = f ∧ e ≤ 8 * s.size := by
  intro f
  induction f with
  | zero =>
    intro u a o e ha h
    simp only [getO, Option.some.injEq, Prod.mk.injEq] at h
    obtain ⟨rfl, rfl⟩ := h
    exact ⟨rfl, ha⟩
  | succ f ih =>
    intro u a o e ha h
    unfold getO at h
    split at h
    · rename_i hc
      rw [Option.map_eq_some_iff] at h
      obtain ⟨⟨o2, e2⟩, h1, h2⟩ := h
      simp only [Prod.mk.injEq] at h2
      obtain ⟨rfl, rfl⟩ := h2
      have h3 := ih (by omega) h1
      exact ⟨by simp [h3.1], h3.2⟩
    · cases h

/-- Which of the sixteen bytes of group g are in u. -/
def mem16 (u : List Nat) (g : Nat) : List Nat := (List.range 16).map fun p => if 16 * g + p ∈ u then 1 else 0
def has16 (u : List Nat) (g : Nat) : Nat := if 1 ∈ mem16 u g then 1 else 0
def grp16 (u : List Nat) (g : Nat) : List Nat := if has16 u g = 1 then mem16 u g else []
/-- A set as bits. -/
def usedHead (u : List Nat) : List Nat := (List.range 16).map (has16 u)
def usedRest (u : List Nat) (k : Nat) : List Nat := (List.range k).flatMap (grp16 u)
def usedBits (u : List Nat) : List Nat := usedHead u ++ usedRest u 16
theorem mem16_len (u : List Nat) (g : Nat) : (mem16 u g).length = 16 := by simp [mem16]
theorem mem16_lt (u : List Nat) (g : Nat) : ∀ b ∈ mem16 u g, b < 2 := by
  intro b hb
  simp only [mem16, List.mem_map] at hb
  obtain ⟨p, _, rfl⟩ := hb
  split <;> omega
theorem has16_lt (u : List Nat) (g : Nat) : has16 u g < 2 := by unfold has16; split <;> omega
theorem grp16_len (u : List Nat) (g : Nat) : (grp16 u g).length ≤ 16 := by unfold grp16; split <;> simp [mem16_len]
theorem usedRest_succ (u : List Nat) (k : Nat) : usedRest u (k + 1) = usedRest u k ++ grp16 u k := by simp [usedRest, List.range_succ]
theorem usedRest_len (u : List Nat) (k : Nat) : (usedRest u k).length ≤ 16 * k := by
  induction k with
  | zero => simp [usedRest]
  | succ k ih => rw [usedRest_succ, List.length_append]; have := grp16_len u k; omega
theorem usedBits_len (u : List Nat) : (usedBits u).length ≤ 272 := by
  unfold usedBits; rw [List.length_append]; have := usedRest_len u 16; simp [usedHead]; omega
theorem usedBits_lt (u : List Nat) : ∀ b ∈ usedBits u, b < 2 := by
  intro b hb
  unfold usedBits at hb
  rcases List.mem_append.1 hb with h | h
  · simp only [usedHead, List.mem_map] at h
    obtain ⟨g, _, rfl⟩ := h
    exact has16_lt u g
  · simp only [usedRest, List.mem_flatMap] at h
    obtain ⟨g, _, h⟩ := h
    unfold grp16 at h
    split at h
    · exact mem16_lt u g b h
    · cases h
theorem nbits_num7 (l : List Nat) (h : ∀ b ∈ l, b < 2) : nbits (num l) l.length = l := by
  induction l with
  | nil => rfl
  | cons b l ih =>
    have hb := h b (by simp)
    have ih' := ih fun c hc => h c (by simp [hc])
    have hlt := num_lt l fun c hc => h c (by simp [hc])
    have e : num (b :: l) = b * 2 ^ l.length + num l := by
      have := num_append [b] l
      simpa [num] using this
    rw [List.length_cons, show l.length + 1 = 1 + l.length by omega, e, nbits_add, Nat.add_comm (b * _), Nat.add_mul_div_right _ _ (Nat.two_pow_pos _), Nat.div_eq_of_lt hlt, Nat.add_mul_mod_self_right, Nat.mod_eq_of_lt hlt, ih']
    simp [nbits]; omega

/-- The places that a mask of sixteen bits shows. -/
def places (m : Nat) : List Nat := (List.range 16).filter fun p => decide (m / 2 ^ (15 - p) % 2 = 1)
theorem places_lt (m : Nat) : ∀ p ∈ places m, p < 16 := by intro p hp; simp [places] at hp; exact hp.1
/-- The groups gs read from bits. -/
def getG (s : ByteArray) : List Nat → Nat → Option (List Nat × Nat)
  | [], a => some ([], a)
  | g :: gs, a => if a + 16 ≤ 8 * s.size ∧ num (row s a 16) ≠ 0 then (getG s gs (a + 16)).map (fun r => ((places (num (row s a 16))).map (fun p => 16 * g + p) ++ r.1, r.2)) else none
/-- A set read from bits. -/
def getU (s : ByteArray) (a : Nat) : Option (List Nat × Nat) := if a + 16 ≤ 8 * s.size ∧ num (row s a 16) ≠ 0 then getG s (places (num (row s a 16))) (a + 16) else none

theorem flat_congr {α β : Type} {f g : α → List β} {l : List α} (h : ∀ a ∈ l, f a = g a) : l.flatMap f = l.flatMap g := by
  induction l with
  | nil => rfl
  | cons a l ih => rw [List.flatMap_cons, List.flatMap_cons, h a (List.mem_cons_self ..), ih (fun b hb => h b (List.mem_cons_of_mem _ hb))]
theorem flat_filter {α β : Type} (P : α → Bool) (f : α → List β) (l : List α) : (l.filter P).flatMap f = l.flatMap (fun g => if P g = true then f g else []) := by
  induction l with
  | nil => rfl
  | cons a l ih =>
    rw [List.filter_cons]
    split
    · rename_i h; rw [List.flatMap_cons, List.flatMap_cons, ih, if_pos h]
    · rename_i h; rw [List.flatMap_cons, ih, if_neg h, List.nil_append]
theorem mask_bit {l : List Nat} (hl : l.length = 16) (h : ∀ b ∈ l, b < 2) (p : Nat) (hp : p < 16) : num l / 2 ^ (15 - p) % 2 = l.getD p 0 := by
  have h1 := nbits_num7 l h
  rw [hl] at h1
  have h2 := nbits_get (num l) 16 p hp
  rw [h1] at h2
  rw [h2]
theorem places_num {l : List Nat} (hl : l.length = 16) (h : ∀ b ∈ l, b < 2) : places (num l) = (List.range 16).filter fun p => decide (l.getD p 0 = 1) := by
  unfold places
  apply List.filter_congr
  intro p hp
  rw [List.mem_range] at hp
  rw [mask_bit hl h p hp]
theorem num_zero_not {l : List Nat} (hl : l.length = 16) (h : ∀ b ∈ l, b < 2) (h1 : 1 ∈ l) : num l ≠ 0 := by
  intro h0
  have h2 := nbits_num7 l h
  rw [h0, hl] at h2
  rw [← h2] at h1
  simp [nbits] at h1
theorem mem16_get (u : List Nat) (g p : Nat) (hp : p < 16) : (mem16 u g).getD p 0 = if 16 * g + p ∈ u then 1 else 0 := by simp [mem16, List.getD_eq_getElem?_getD, hp]
theorem has16_iff (u : List Nat) (g : Nat) : has16 u g = 1 ↔ ∃ p, p < 16 ∧ 16 * g + p ∈ u := by
  unfold has16
  have : 1 ∈ mem16 u g ↔ ∃ p, p < 16 ∧ 16 * g + p ∈ u := by
    simp only [mem16, List.mem_map, List.mem_range]
    constructor
    · rintro ⟨p, hp, h⟩
      refine ⟨p, hp, ?_⟩
      split at h
      · assumption
      · omega
    · rintro ⟨p, hp, h⟩
      exact ⟨p, hp, by rw [if_pos h]⟩
  rw [← this]
  split <;> simp_all
theorem getG_put (s : ByteArray) (u : List Nat) : ∀ (gs : List Nat) (a : Nat), (∀ g ∈ gs, has16 u g = 1) → a + (gs.flatMap (mem16 u)).length ≤ 8 * s.size → row s a (gs.flatMap (mem16 u)).length = gs.flatMap (mem16 u) →
    getG s gs a = some (gs.flatMap (fun g => ((List.range 16).filter fun p => decide (16 * g + p ∈ u)).map (fun p => 16 * g + p)), a + (gs.flatMap (mem16 u)).length) := by
  intro gs
  induction gs with
  | nil => intro a _ _ _; rfl
  | cons g gs ih =>
    intro a hg ha hr
    simp only [List.flatMap_cons, List.length_append, mem16_len] at ha hr ⊢
    rw [row_add] at hr
    have hr1 := (List.append_inj hr (by rw [row_len, mem16_len])).1
    have hr2 := (List.append_inj hr (by rw [row_len, mem16_len])).2
    have h3 := ih (a + 16) (fun g h => hg g (List.mem_cons_of_mem _ h)) (by omega) hr2
    have h1 : 1 ∈ mem16 u g := by
      have := hg g (List.mem_cons_self ..)
      unfold has16 at this
      split at this
      · assumption
      · omega
    unfold getG
    rw [hr1, if_pos ⟨by omega, num_zero_not (mem16_len u g) (mem16_lt u g) h1⟩, h3, places_num (mem16_len u g) (mem16_lt u g)]
    simp only [Option.map_some, List.flatMap_cons, Option.some.injEq, Prod.mk.injEq]
    refine ⟨?_, by omega⟩
    congr 2
    apply List.filter_congr
    intro p hp
    rw [List.mem_range] at hp
    rw [mem16_get u g p hp]
    split <;> simp_all
theorem range256 : List.range 256 = (List.range 16).flatMap (fun g => (List.range 16).map (fun p => 16 * g + p)) := by decide +kernel
theorem used_groups {u : List Nat} (hb : Byt u) : ((List.range 16).filter (fun g => decide (has16 u g = 1))).flatMap (fun g => ((List.range 16).filter fun p => decide (16 * g + p ∈ u)).map (fun p => 16 * g + p)) = usedL u := by
  rw [flat_filter]
  unfold usedL usedTo
  rw [range256, List.filter_flatMap]
  apply flat_congr
  intro g hg
  rw [List.filter_map]
  have e : ((List.range 16).filter fun p => decide (16 * g + p ∈ u)) = (List.range 16).filter ((fun b => decide (0 < List.count b u)) ∘ fun p => 16 * g + p) := by
    apply List.filter_congr
    intro p _
    simp [List.count_pos_iff]
  rw [← e]
  by_cases h : has16 u g = 1
  · simp [h]
  · rw [if_neg (by simpa using h)]
    have : ((List.range 16).filter fun p => decide (16 * g + p ∈ u)) = [] := by
      rw [List.filter_eq_nil_iff]
      intro p hp hh
      rw [List.mem_range] at hp
      exact h ((has16_iff u g).2 ⟨p, hp, by simpa using hh⟩)
    rw [this]; rfl
theorem usedHead_len (u : List Nat) : (usedHead u).length = 16 := by simp [usedHead]
theorem usedHead_lt (u : List Nat) : ∀ b ∈ usedHead u, b < 2 := by
  intro b h
  simp only [usedHead, List.mem_map] at h
  obtain ⟨g, _, rfl⟩ := h
  exact has16_lt u g
theorem usedHead_get (u : List Nat) (g : Nat) (hg : g < 16) : (usedHead u).getD g 0 = has16 u g := by simp [usedHead, List.getD_eq_getElem?_getD, hg]
theorem used_some {u : List Nat} (hb : Byt u) (h0 : u ≠ []) : ∃ g, g < 16 ∧ has16 u g = 1 := by
  obtain ⟨b, hbu⟩ := List.exists_mem_of_ne_nil u h0
  have := hb b hbu
  exact ⟨b / 16, by omega, (has16_iff u _).2 ⟨b % 16, by omega, by rwa [Nat.div_add_mod]⟩⟩
theorem getU_put {s : ByteArray} {u : List Nat} {a : Nat} (hb : Byt u) (hu : setOk u = true) (ha : a + (usedBits u).length ≤ 8 * s.size) (hr : row s a (usedBits u).length = usedBits u) : getU s a = some (u, a + (usedBits u).length) := by
  have hu2 := (setOk_iff u).1 hu
  have hR : usedRest u 16 = ((List.range 16).filter (fun g => decide (has16 u g = 1))).flatMap (mem16 u) := by
    rw [flat_filter]
    unfold usedRest
    apply flat_congr
    intro g _
    unfold grp16
    simp
  have hP : places (num (usedHead u)) = (List.range 16).filter (fun g => decide (has16 u g = 1)) := by
    rw [places_num (usedHead_len u) (usedHead_lt u)]
    apply List.filter_congr
    intro g hg
    rw [List.mem_range] at hg
    rw [usedHead_get u g hg]
  have h1 : 1 ∈ usedHead u := by
    obtain ⟨g, hg, h⟩ := used_some hb hu2.1
    rw [← h]
    exact List.mem_map_of_mem (List.mem_range.2 hg)
  unfold usedBits at ha hr ⊢
  rw [List.length_append, usedHead_len] at ha hr ⊢
  rw [row_add] at hr
  have hr1 := (List.append_inj hr (by rw [row_len, usedHead_len])).1
  have hr2 := (List.append_inj hr (by rw [row_len, usedHead_len])).2
  unfold getU
  rw [hr1, if_pos ⟨by omega, num_zero_not (usedHead_len u) (usedHead_lt u) h1⟩, hP]
  rw [hR] at ha hr2 ⊢
  rw [getG_put s u _ (a + 16) (fun g hg => by simpa using (List.mem_filter.1 hg).2) (by omega) hr2, used_groups hb, hu2.2, Nat.add_assoc]

/-- The places from g on. -/
def placesFrom (m g : Nat) : List Nat := (List.range' g (16 - g)).filter fun p => decide (m / 2 ^ (15 - p) % 2 = 1)
theorem placesFrom_zero (m : Nat) : placesFrom m 0 = places m := by unfold placesFrom places; rw [List.range_eq_range']
theorem placesFrom_end (m : Nat) : placesFrom m 16 = [] := rfl
theorem placesFrom_step (m g : Nat) (h : g < 16) : placesFrom m g = if m / 2 ^ (15 - g) % 2 = 1 then g :: placesFrom m (g + 1) else placesFrom m (g + 1) := by
  unfold placesFrom
  rw [show 16 - g = (16 - (g + 1)) + 1 by omega, List.range'_succ, List.filter_cons]
  simp
/-- The first places, up to p. -/
def placesTo (m p : Nat) : List Nat := (List.range p).filter fun p => decide (m / 2 ^ (15 - p) % 2 = 1)
theorem placesTo_succ (m p : Nat) : placesTo m (p + 1) = if m / 2 ^ (15 - p) % 2 = 1 then placesTo m p ++ [p] else placesTo m p := by
  unfold placesTo
  rw [List.range_succ, List.filter_append]
  split <;> simp_all
theorem placesTo_len (m p : Nat) : (placesTo m p).length ≤ p := by
  unfold placesTo
  have := List.length_filter_le (fun q => decide (m / 2 ^ (15 - q) % 2 = 1)) (List.range p)
  simpa using this
theorem places_ne {s : ByteArray} {a : Nat} (h : num (row s a 16) ≠ 0) : places (num (row s a 16)) ≠ [] := by
  intro e
  apply h
  rw [num_zero_bits]
  intro i hi
  rw [places_num (row_len s a 16) (row_bits s a 16), List.filter_eq_nil_iff] at e
  have h1 := e i (List.mem_range.2 hi)
  have h2 := bit_lt s (a + i)
  have h3 : (row s a 16).getD i 0 = bit s (a + i) := by simp [row, List.getD_eq_getElem?_getD, hi]
  rw [h3] at h1
  simp at h1
  omega
theorem getG_le {s : ByteArray} : ∀ {gs : List Nat} {a : Nat} {u : List Nat} {e : Nat}, a ≤ 8 * s.size → getG s gs a = some (u, e) → e ≤ 8 * s.size ∧ (gs ≠ [] → u ≠ []) := by
  intro gs
  induction gs with
  | nil =>
    intro a u e ha h
    simp only [getG, Option.some.injEq, Prod.mk.injEq] at h
    obtain ⟨rfl, rfl⟩ := h
    exact ⟨ha, fun h => absurd rfl h⟩
  | cons g gs ih =>
    intro a u e ha h
    unfold getG at h
    split at h
    · rename_i hc
      rw [Option.map_eq_some_iff] at h
      obtain ⟨⟨u2, e2⟩, h1, h2⟩ := h
      simp only [Prod.mk.injEq] at h2
      obtain ⟨rfl, rfl⟩ := h2
      refine ⟨(ih (by omega) h1).1, fun _ h3 => ?_⟩
      have h4 := (List.append_eq_nil_iff.1 h3).1
      exact places_ne hc.2 (List.map_eq_nil_iff.1 h4)
    · cases h
theorem getU_some {s : ByteArray} {a : Nat} {u : List Nat} {e : Nat} (h : getU s a = some (u, e)) : e ≤ 8 * s.size ∧ u ≠ [] := by
  unfold getU at h
  split at h
  · rename_i hc
    have h1 := getG_le (by omega) h
    exact ⟨h1.1, h1.2 (places_ne hc.2)⟩
  · cases h
theorem getG_no {s : ByteArray} {gs : List Nat} {g a : Nat} (h : ¬ (a + 16 ≤ 8 * s.size ∧ num (row s a 16) ≠ 0)) : getG s (g :: gs) a = none := by unfold getG; rw [if_neg h]
theorem getG_yes {s : ByteArray} {gs : List Nat} {g a : Nat} (h1 : a + 16 ≤ 8 * s.size) (h2 : num (row s a 16) ≠ 0) : getG s (g :: gs) a = (getG s gs (a + 16)).map (fun r => ((places (num (row s a 16))).map (fun p => 16 * g + p) ++ r.1, r.2)) := by
  conv => lhs; unfold getG
  rw [if_pos ⟨h1, h2⟩]
theorem map_map_app {o : Option (List Nat × Nat)} (A B : List Nat) : (o.map (fun r => (B ++ r.1, r.2))).map (fun r => (A ++ r.1, r.2)) = o.map (fun r => (A ++ B ++ r.1, r.2)) := by
  cases o with
  | none => rfl
  | some r => simp
theorem map_cons_app {o : Option (List Nat × Nat)} (A : List Nat) (x : Nat) : (o.map (fun r => (x :: r.1, r.2))).map (fun r => (A ++ r.1, r.2)) = o.map (fun r => ((A ++ [x]) ++ r.1, r.2)) := by
  cases o with
  | none => rfl
  | some r => simp
theorem map_app_nil (o : Option (List Nat × Nat)) : o.map (fun r => (([] : List Nat) ++ r.1, r.2)) = o := by cases o <;> rfl
end Go.Proofs.YtpjgoikdfkaefaaGreat
namespace Go.Proofs.YtpjgoikdfkaefaaGreat
set_option linter.unusedVariables false
set_option linter.unusedSimpArgs false
open Go.RowKit

end Go.Proofs.YtpjgoikdfkaefaaGreat
namespace Go.Proofs.YtpjgoikdfkaefaaGreat
set_option linter.unusedVariables false
set_option linter.unusedSimpArgs false
open Go.RowKit

theorem okB_room {s : ByteArray} {n : Nat} (h : okB s n = true) : n ≤ 400000 ∧ n ≤ 8 * s.size ∧ s.size ≤ 50000 := by
  rw [okB_nat] at h; omega

theorem own_below {w w' : World} {base : Nat} {e : TypeId} {size : Nat} {v : Value} {n : Nat} {xs : List Value} (h : w.ownsRow base e size v n xs) (hb : Below w.heap.size w w') : w'.ownsRow base e size v n xs :=
  h.kept (row := none) ⟨hb.os, hb.tape, hb.output, hb.size, fun i hi _ => hb.block i hi⟩ (by cases hv : v.ownBlock <;> simp)

end Go.Proofs.YtpjgoikdfkaefaaGreat
namespace Go.Proofs.YtpjgoikdfkaefaaGreat
set_option linter.unusedVariables false
set_option linter.unusedSimpArgs false
open Go.RowKit

theorem okB_no {s : ByteArray} {n : Int} (h : ¬ (0 ≤ n ∧ n ≤ 400000 ∧ s.size = (n.toNat + 7) / 8)) : okB s n = false := by
  rw [Bool.eq_false_iff, Ne, okB_iff]; omega

end Go.Proofs.YtpjgoikdfkaefaaGreat
namespace Go.Proofs.YtpjgoikdfkaefaaGreat
set_option linter.unusedVariables false
set_option linter.unusedSimpArgs false
open Go.RowKit


end Go.Proofs.YtpjgoikdfkaefaaGreat
namespace Go.Proofs.YtpjgoikdfkaefaaGreat
set_option linter.unusedVariables false
set_option linter.unusedSimpArgs false
open Go.RowKit Go.Maps

theorem byteKey : Keyed Tryz.prog 5 := int_keyed Tryz.underlying5
/-- A byte as a key. -/
def kB (b : Nat) : Lit := .int .u8 (b : Int)
theorem wf_u8 {b : Nat} (h : b < 256) : (Lit.int .u8 (b : Int)).wf = true := by
  have : ∀ x : Fin 256, (Lit.int .u8 (x.val : Int)).wf = true := by decide +kernel
  exact this ⟨b, h⟩
theorem keyB {b : Nat} (h : b < 256) : keyOf Tryz.prog 5 (.int .u8 (b : Int)) = some (kB b) := keyOf_int_mk Tryz.underlying5 (wf_u8 h)
theorem kB_lit (b : Nat) (h : b < 256) : WideAt.IsKeyLit (kB b) := byteKey.key (keyB h)
theorem kB_ne {a b : Nat} (h : a ≠ b) : kB a ≠ kB b := fun e => by
  unfold kB at e
  injection e with _ e
  omega
theorem zeroI7 (w : World) : (zeroValue 3).run Tryz.prog w = .ok (.int .i64 0) w := by kernel_rfl

/-- How many bytes have a count. -/
def cardF (f : Nat → Nat) : Nat := (List.range 256).countP (fun b => decide (0 < f b))
theorem card_used (l : List Nat) : cardF (fun b => l.count b) = (usedL l).length := by
  unfold cardF usedL usedTo
  rw [List.countP_eq_length_filter]
theorem countP_upd (p q : Nat → Bool) (b : Nat) (h : ∀ x, x ≠ b → p x = q x) : ∀ n, b < n → (List.range n).countP p + (q b).toNat = (List.range n).countP q + (p b).toNat := by
  intro n
  induction n with
  | zero => intro h; omega
  | succ n ih =>
    intro hb
    rw [List.range_succ, List.countP_append, List.countP_append]
    by_cases e : b = n
    · subst e
      have hc : (List.range b).countP p = (List.range b).countP q := List.countP_congr (fun x hx => by rw [List.mem_range] at hx; rw [h x (by omega)])
      rw [hc]
      cases hp : p b <;> cases hq : q b <;> simp [hp, hq]
    · have := ih (by omega)
      have hn := h n (fun x => e x.symm)
      simp only [List.countP_cons, List.countP_nil, hn]
      omega
theorem card_put (f : Nat → Nat) (b : Nat) (hb : b < 256) : cardF (fun x => if x = b then f b + 1 else f x) = if 0 < f b then cardF f else cardF f + 1 := by
  have h := countP_upd (fun x => decide (0 < if x = b then f b + 1 else f x)) (fun x => decide (0 < f x)) b (fun x hx => by simp [hx]) 256 hb
  unfold cardF
  by_cases h0 : 0 < f b
  · simp [h0] at h ⊢; exact h
  · simp [h0] at h ⊢; omega
theorem card_del (f : Nat → Nat) (b : Nat) (hb : b < 256) : cardF (fun x => if x = b then 0 else f x) + (if 0 < f b then 1 else 0) = cardF f := by
  have h := countP_upd (fun x => decide (0 < if x = b then 0 else f x)) (fun x => decide (0 < f x)) b (fun x hx => by simp [hx]) 256 hb
  unfold cardF
  by_cases h0 : 0 < f b
  · simp [h0] at h ⊢; omega
  · simp [h0] at h ⊢; exact h
theorem card_le (f : Nat → Nat) : cardF f ≤ 256 := by
  unfold cardF
  have := List.countP_le_length (p := fun b => decide (0 < f b)) (l := List.range 256)
  simpa using this

/-- What the map's datum says: the counts. -/
def Cnt (D : DataW Unit) (f : Nat → Nat) : Prop :=
  Tidy D ∧ (∀ b, b < 256 → Maps.has D (kB b) = decide (0 < f b)) ∧ (∀ b, b < 256 → D.atKey (kB b) (.lit (.int .i64 0)) = .lit (.int .i64 (f b : Int))) ∧ Maps.size D = cardF f
theorem cnt_nil : Cnt (.map []) (fun _ => 0) := by
  refine ⟨tidy_empty, fun b _ => by simp [Maps.has], fun b _ => rfl, ?_⟩
  unfold cardF
  simp [Maps.size]
theorem cnt_put {D : DataW Unit} {f : Nat → Nat} (h : Cnt D f) {b : Nat} (hb : b < 256) : Cnt (D.put (kB b) (.lit (.int .i64 ((f b : Int) + 1)))) (fun x => if x = b then f b + 1 else f x) := by
  obtain ⟨h1, h2, h3, h4⟩ := h
  refine ⟨h1.put (kB_lit b hb) _, fun x hx => ?_, fun x hx => ?_, ?_⟩
  · by_cases e : x = b
    · subst e; rw [has_put_same h1.isMap (kB_lit x hx)]; simp
    · rw [has_put_other (kB_ne e), h2 x hx]; simp [e]
  · by_cases e : x = b
    · subst e; rw [atKey_put_same h1.isMap (kB_lit x hx)]; simp
    · rw [atKey_put_other (kB_ne e), h3 x hx]; simp [e]
  · rw [size_put h1, h2 b hb, card_put f b hb, h4]
    simp
theorem cnt_del {D : DataW Unit} {f : Nat → Nat} (h : Cnt D f) {b : Nat} (hb : b < 256) : Cnt (D.del (kB b)) (fun x => if x = b then 0 else f x) := by
  obtain ⟨h1, h2, h3, h4⟩ := h
  refine ⟨h1.del _, fun x hx => ?_, fun x hx => ?_, ?_⟩
  · by_cases e : x = b
    · subst e; rw [has_del_same]; simp
    · rw [has_del_other (kB_ne e), h2 x hx]; simp [e]
  · by_cases e : x = b
    · subst e; rw [atKey_del_same]; simp
    · rw [atKey_del_other (kB_ne e), h3 x hx]; simp [e]
  · have h5 := size_del (k := kB b) h1
    have h6 := card_del f b hb
    rw [h2 b hb, h4] at h5
    simp at h5
    omega
theorem cnt_congr {D : DataW Unit} {f g : Nat → Nat} (h : Cnt D f) (e : ∀ b, b < 256 → f b = g b) : Cnt D g := by
  obtain ⟨h1, h2, h3, h4⟩ := h
  refine ⟨h1, fun x hx => by rw [h2 x hx, e x hx], fun x hx => by rw [h3 x hx, e x hx], ?_⟩
  rw [h4]
  unfold cardF
  apply List.countP_congr
  intro b hb
  rw [List.mem_range] at hb
  rw [e b hb]
/-- Block b is a map of at most n entries that holds the counts f. -/
def CntAt (W : World) (b n : Nat) (f : Nat → Nat) : Prop := ∃ D, W.ownsMap Tryz.prog 5 (plainElem (H := Unit) Tryz.prog 3) b n D ∧ Cnt D f
theorem CntAt.lt {W : World} {b n : Nat} {f : Nat → Nat} (h : CntAt W b n f) : b < W.heap.size := by obtain ⟨D, h, _⟩ := h; exact h.lt
theorem CntAt.grown {W W' : World} {b n : Nat} {f : Nat → Nat} {row : Option Nat} (h : CntAt W b n f) (hg : W.grownBy W' row) (hne : some b ≠ row) : CntAt W' b n f := by
  obtain ⟨D, h, h2⟩ := h
  exact ⟨D, h.kept hg hne, h2⟩
theorem CntAt.below {W W' : World} {b n : Nat} {f : Nat → Nat} (h : CntAt W b n f) (hb : Below W.heap.size W W') : CntAt W' b n f :=
  h.grown (row := none) ⟨hb.os, hb.tape, hb.output, hb.size, fun i hi _ => hb.block i hi⟩ (by simp)
theorem CntAt.only {W W' : World} {b g n : Nat} {f : Nat → Nat} (h : CntAt W b n f) (ho : Only g W W') (hne : b ≠ g) : CntAt W' b n f := h.grown ho (by simpa using hne)
theorem CntAt.alloc {W : World} {b n : Nat} {f : Nat → Nat} (h : CntAt W b n f) (o : Obj) : CntAt (W.alloc o) b n f := by
  obtain ⟨D, h, h2⟩ := h
  exact ⟨D, h.alloc o, h2⟩
theorem CntAt.drewN {W : World} {b n : Nat} {f : Nat → Nat} (h : CntAt W b n f) (k : Nat) : CntAt (W.drewN k) b n f := h
theorem CntAt.setCell {W : World} {b n : Nat} {f : Nat → Nat} (h : CntAt W b n f) {p : Addr} (hp : b ≠ p.block) (u : Value) : CntAt (W.setCell p u) b n f := by
  obtain ⟨D, h, h2⟩ := h
  exact ⟨D, h.setCell hp u, h2⟩
theorem CntAt.congr {W : World} {b n : Nat} {f g : Nat → Nat} (h : CntAt W b n f) (e : ∀ b, b < 256 → f b = g b) : CntAt W b n g := by
  obtain ⟨D, h, h2⟩ := h
  exact ⟨D, h, cnt_congr h2 e⟩
theorem CntAt.mono {W : World} {b n m : Nat} {f : Nat → Nat} (h : CntAt W b n f) (hm : n ≤ m) : CntAt W b m f := by
  obtain ⟨D, h, h2⟩ := h
  exact ⟨D, h.mono hm, h2⟩
end Go.Proofs.YtpjgoikdfkaefaaGreat
