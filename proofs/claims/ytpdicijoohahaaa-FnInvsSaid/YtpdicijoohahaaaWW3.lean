/- Merged: Base, Ret, Mem, Str, Ints, Nats, Rec, Alph, Alph2, C1One, C1SRd0, Zr, Zr2, Ivp, Ui, Rti, Chk, Seg, Sbp, Rt, Own8, PM. -/
import Derived.Test.YtpdicijoohahaaaProg
import Derived.Test.YtpdicijoohahaaaWW1
import Derived.WalkKit
import Derived.ProofKit
import Derived.OpenShut
import Derived.ShutString
import Derived.ChangeOld
import Derived.Below
import Derived.Carry
import Derived.Lib.SmallJoins
import Derived.Deep.Draws
import Derived.OwnWalk
import Derived.Laws.OwnMore
import Derived.Laws.Rows
import Derived.Laws.BytesString
import Derived.OneCell
namespace Go.Proofs.Ytpdicijoohahaaa
set_option linter.unusedVariables false
set_option linter.unusedSimpArgs false
open Go.ChangeShapes Go.WideShapes Go.ChangeAt Go.RowKit Go.Joins Go.Deep

/-- A slice of integers that came in: nil, or a row of cells. -/
def IsRow (k : IntKind) (w : World) (a : Option Addr) (len cap : Nat) (zs : List Int) : Prop :=
  (a = none ∧ len = 0 ∧ cap = 0 ∧ zs = []) ∨
  ∃ x, a = some x ∧ len ≤ cap ∧ cap ≤ maxLen ∧ zs.length = cap ∧ (∀ i, i < zs.length → w.cell? (x.add i) = some (.int k (zs.getD i 0))) ∧ ∀ n ∈ zs, (Lit.int k n).wf = true

/-- A struct of a string and an int, by value. -/
theorem open_si {H : Type} {enc : TypeId × Value → H} {P : Program} {w : World} {base : Nat} {spare : Nat → Bool} {held : Bool} {r : Reach} {b0 : Nat} {t : TypeId} {v : Value} {d : DataW H} {p : List MemPlace}
    {f0 f1 : Field} (hs : P.underlying t = some (.struct #[f0, f1])) (hone : oneCellFields P #[f0, f1] = true) (hC : P.cellsOf t = 2) (e0 : P.underlying f0.type = some .string) (e1 : P.underlying f1.type = some (.int .i64))
    (hv : Value.okWide P w r b0 t v) (h : DataW.Trod enc P w base spare held t v d p) :
    ∃ (s : ByteArray) (n : Int), v = .agg #[.string s, .int .i64 n] ∧ s.size ≤ maxLen ∧ (Lit.int .i64 n).wf = true := by
  obtain ⟨c0, c1, y0, y1, m, rfl, _, _, hy0, hy1⟩ := open_agg2 hs hone hC hv h
  obtain ⟨s, q0, _, hsz⟩ := DataW.trod_string e0 hy0
  obtain ⟨n, q1, _, wn⟩ := DataW.trod_int e1 hy1
  simp at q0 q1
  subst q0 q1
  exact ⟨s, n, rfl, hsz, wn⟩

theorem bcell {W w1 : World} (hb : Below W.heap.size W w1) : (∀ b o, b < W.heap.size → w1.cell? ⟨b, o, none⟩ = W.cell? ⟨b, o, none⟩) ∧ (∀ b o, b < W.heap.size → w1.frozen? ⟨b, o, none⟩ = W.frozen? ⟨b, o, none⟩) :=
  ⟨fun b o h => hb.cell (p := ⟨b, o, none⟩) h, fun b o h => hb.frozen (p := ⟨b, o, none⟩) h⟩

theorem bcell3 {W w1 : World} (hb : Below W.heap.size W w1) : (∀ b o, b < W.heap.size → w1.cell? ⟨b, o, none⟩ = W.cell? ⟨b, o, none⟩) ∧ (∀ b o, b < W.heap.size → w1.frozen? ⟨b, o, none⟩ = W.frozen? ⟨b, o, none⟩) ∧ (∀ b, b < W.heap.size → b < w1.heap.size) :=
  ⟨fun b o h => hb.cell (p := ⟨b, o, none⟩) h, fun b o h => hb.frozen (p := ⟨b, o, none⟩) h, fun _ h => Nat.lt_of_lt_of_le h hb.size⟩
theorem bel_thenB {B B' : Nat} {a b c : World} (k : Below B' b c) (hB : B ≤ B') (h : Below B a b) : Below B a c := h.trans (k.mono hB)
theorem hidden {p : Prop} (h : p) : Hid p := h
theorem bel_then {B : Nat} {a b c : World} (k : Below b.heap.size b c) (hB : B ≤ b.heap.size) (h : Below B a b) : Below B a c := h.trans (k.mono hB)

end Go.Proofs.Ytpdicijoohahaaa
namespace Go.Proofs.Ytpdicijoohahaaa
set_option linter.unusedVariables false
set_option linter.unusedSimpArgs false
open Go.RowKit

theorem ret_int {k : IntKind} {a b : Int} (h : a = b) : Ending.returned (.int k a) = .returned (.int k b) := by rw [h]
theorem ret_bool {a b : Bool} (h : a = b) : Ending.returned (.bool a) = .returned (.bool b) := by rw [h]
theorem Try.info5 : (Try.prog.info? 5).map (fun i => (i.zero, i.size, i.bytes)) = some (some (.int .u8 0), 1, 1) := by kernel_rfl
end Go.Proofs.Ytpdicijoohahaaa
namespace Go.Proofs.Ytpdicijoohahaaa
set_option linter.unusedVariables false
set_option linter.unusedSimpArgs false
open Go.RowKit

/-- Block g is made of the cells cs, of element type t, none frozen. -/
def Has (w : World) (g : Nat) (t : TypeId) (cs : Array Value) : Prop := w.heap[g]? = some (.cells cs t (0, 0))
theorem Has.lt {w : World} {g : Nat} {t : TypeId} {cs : Array Value} (h : Has w g t cs) : g < w.heap.size := by
  unfold Has at h
  rcases Nat.lt_or_ge g w.heap.size with hl | hl
  · exact hl
  · rw [Array.getElem?_eq_none hl] at h; cases h
theorem Has.cell {w : World} {g : Nat} {t : TypeId} {cs : Array Value} (h : Has w g t cs) (i : Nat) : w.cell? ⟨g, i, none⟩ = cs[i]? := cell_of_row w g i cs t (0, 0) h
theorem Has.free {w : World} {g : Nat} {t : TypeId} {cs : Array Value} (h : Has w g t cs) (i : Nat) : w.frozen? ⟨g, i, none⟩ = false := by
  unfold Has at h; simp [World.frozen?, h]
theorem Has.store {w : World} {g : Nat} {t : TypeId} {cs : Array Value} (h : Has w g t cs) (i : Nat) (u : Value) : Has (w.setCell ⟨g, i, none⟩ u) g t (cs.setIfInBounds i u) := by
  unfold Has at h ⊢; simp [World.setCell, Array.getElem?_modify, h]
theorem Has.storeAway {w : World} {g : Nat} {t : TypeId} {cs : Array Value} (h : Has w g t cs) {p : Addr} (hp : g ≠ p.block) (u : Value) : Has (w.setCell p u) g t cs := (Below.heap_setCell w p u g hp).trans h
theorem Has.alloc {w : World} {g : Nat} {t : TypeId} {cs : Array Value} (h : Has w g t cs) (o : Obj) : Has (w.alloc o) g t cs := (Below.heap_alloc w o g h.lt).trans h
theorem Has.fresh (w : World) (t : TypeId) (cs : Array Value) : Has (w.alloc (.cells cs t)) w.heap.size t cs := heap_alloc_new w _
theorem Has.freshAt {w : World} {g : Nat} (h : w.heap.size = g) (t : TypeId) (cs : Array Value) : Has (w.alloc (.cells cs t)) g t cs := by subst h; exact Has.fresh _ _ _
theorem Has.drew {w : World} {g : Nat} {t : TypeId} {cs : Array Value} (h : Has w g t cs) : Has w.drew g t cs := h
theorem Has.drewN {w : World} {g : Nat} {t : TypeId} {cs : Array Value} (h : Has w g t cs) (n : Nat) : Has (w.drewN n) g t cs := h
theorem Has.below {w w' : World} {g B : Nat} {t : TypeId} {cs : Array Value} (h : Has w g t cs) (hb : Below B w w') (hg : g < B) : Has w' g t cs := (hb.block g hg).trans h
theorem Has.grown {w w' : World} {g : Nat} {row : Option Nat} {t : TypeId} {cs : Array Value} (h : Has w g t cs) (hb : w.grownBy w' row) (hg : some g ≠ row) : Has w' g t cs := (hb.block g h.lt hg).trans h

/-- Only block g (and what is new) may have turned from a to w. -/
def Only (g : Nat) (a w : World) : Prop := a.grownBy w (some g)
theorem Only.refl (g : Nat) (w : World) : Only g w w := World.grownBy.refl w _
theorem Only.drew {g : Nat} {a w : World} (h : Only g a w) : Only g a w.drew := ⟨h.os, h.tape, h.output, h.size, h.block⟩
theorem Only.drewN {g : Nat} {a w : World} (h : Only g a w) (n : Nat) : Only g a (w.drewN n) := ⟨h.os, h.tape, h.output, h.size, h.block⟩
theorem Only.alloc {g : Nat} {a w : World} (h : Only g a w) (o : Obj) : Only g a (w.alloc o) :=
  ⟨h.os, h.tape, h.output, Nat.le_trans h.size (by simp), fun i hi hne => (Below.heap_alloc w o i (Nat.lt_of_lt_of_le hi h.size)).trans (h.block i hi hne)⟩
theorem Only.store {g : Nat} {a w : World} (h : Only g a w) {p : Addr} (hp : p.block = g ∨ a.heap.size ≤ p.block) (u : Value) : Only g a (w.setCell p u) :=
  ⟨h.os, h.tape, h.output, by simpa [World.setCell] using h.size, fun i hi hne => (Below.heap_setCell w p u i (by
    rintro rfl
    rcases hp with hp | hp
    · exact hne (by rw [hp])
    · omega)).trans (h.block i hi hne)⟩
theorem Only.below {g B : Nat} {a w : World} (h : Only g a w) (hB : B ≤ g) (hs : B ≤ a.heap.size) : Below B a w :=
  ⟨h.os, h.tape, h.output, h.size, fun i hi => h.block i (Nat.lt_of_lt_of_le hi hs) (by simp; omega)⟩
theorem Only.has {g g' : Nat} {a w : World} {t : TypeId} {cs : Array Value} (h : Only g a w) (hh : Has a g' t cs) (hne : g' ≠ g) : Has w g' t cs := hh.grown h (by simpa using hne)
theorem bel_drewN {B : Nat} {a w : World} (h : Below B a w) (n : Nat) : Below B a (w.drewN n) := ⟨h.os, h.tape, h.output, h.size, h.block⟩
theorem ocell {g : Nat} {a w : World} (h : Only g a w) : (∀ b o, b < a.heap.size → b ≠ g → w.cell? ⟨b, o, none⟩ = a.cell? ⟨b, o, none⟩) ∧ (∀ b o, b < a.heap.size → b ≠ g → w.frozen? ⟨b, o, none⟩ = a.frozen? ⟨b, o, none⟩) :=
  ⟨fun b o h1 h2 => World.cell?_of_block (w := a) (a := ⟨b, o, none⟩) (h.block b h1 (by simpa using h2)), fun b o h1 h2 => World.frozen?_of_block (w := a) (a := ⟨b, o, none⟩) (h.block b h1 (by simpa using h2))⟩
theorem only_then {B g : Nat} {a b c : World} (k : Only g b c) (hg : B ≤ g) (hB : B ≤ b.heap.size) (h : Below B a b) : Below B a c := h.trans (k.below hg hB)
theorem Only.grownNew {g : Nat} {a w w' : World} {row : Option Nat} (h : Only g a w) (hg : w.grownBy w' row) (hr : ∀ k, row = some k → a.heap.size ≤ k) : Only g a w' :=
  ⟨hg.os.trans h.os, hg.tape.trans h.tape, hg.output.trans h.output, Nat.le_trans h.size hg.size, fun i hi hne => (hg.block i (Nat.lt_of_lt_of_le hi h.size) (fun e => by have := hr i e.symm; omega)).trans (h.block i hi hne)⟩
end Go.Proofs.Ytpdicijoohahaaa
namespace Go.Proofs.Ytpdicijoohahaaa
set_option linter.unusedVariables false
set_option linter.unusedSimpArgs false
open Go.RowKit

/-- The cells of a row of small numbers. -/
def u8s (l : List Nat) : List Value := l.map fun (b : Nat) => Value.int .u8 (b : Int)
theorem u8s_len (l : List Nat) : (u8s l).length = l.length := by simp [u8s]
theorem u8s_snoc (l : List Nat) (b : Nat) : u8s (l ++ [b]) = u8s l ++ [.int .u8 (b : Int)] := by simp [u8s]
theorem u8s_append (l m : List Nat) : u8s (l ++ m) = u8s l ++ u8s m := by simp [u8s]
theorem u8s_one (l : List Nat) : ∀ u ∈ u8s l, u.oneCell' = true := by
  intro u hu
  simp only [u8s, List.mem_map] at hu
  obtain ⟨b, _, rfl⟩ := hu
  rfl
theorem u8s_set (l : List Nat) (k b : Nat) : u8s (l.set k b) = (u8s l).set k (.int .u8 (b : Int)) := by simp [u8s, List.map_set]
theorem u8s_get (l : List Nat) (k : Nat) (h : k < l.length) : (u8s l)[k]? = some (.int .u8 ((l.getD k 0 : Nat) : Int)) := by simp [u8s, List.getD_eq_getElem?_getD, h]
theorem own_ne {w : World} {base g : Nat} {e : TypeId} {size : Nat} {v : Value} {n : Nat} {xs : List Value} (h : w.ownsRow base e size v n xs) (hg : g < base) : some g ≠ v.ownBlock := by
  intro he
  have := (h.lt g he.symm).1
  omega

theorem fold_push (ns : List Nat) (r : ByteArray) : ns.foldl (fun r n => r.push (UInt8.ofNat n)) r = ⟨(r.data.toList ++ ns.map UInt8.ofNat).toArray⟩ := by
  induction ns generalizing r with
  | nil => simp
  | cons n ns ih =>
    rw [List.foldl_cons, ih]
    simp [ByteArray.push]
theorem run_string_own {P : Program} {w : World} {base g n c : Nat} {D : List Nat} {src dst e : TypeId} (hs : P.underlying src = some (.slice e)) (he : P.underlying e = some (.int .u8)) (hd : P.underlying dst = some .string)
    (h : w.ownsRow base e 1 (.slice (some ⟨g, 0, none⟩) n c) n (u8s D)) (hn : D.length = n) :
    (convert src dst (.slice (some ⟨g, 0, none⟩) n c)).run P w = .ok (.string (strOf D)) w := by
  rw [run_convert_bytes_string w src dst e _ _ _ hs he hd]
  have hl := run_loadCells_list (P := P) (w := w) ⟨g, 0, none⟩ (u8s D) (fun j u hu => h.cells (g := g) rfl j u hu)
  rw [u8s_len, hn] at hl
  have e1 : (u8s D).toArray = ((D.map fun (b : Nat) => (b : Int)).map (Value.int .u8)).toArray := by simp [u8s]
  rw [e1] at hl
  rw [run_bytesToString w ⟨g, 0, none⟩ n c _ hl]
  congr 2
  rw [List.foldl_map]
  simp only [Int.toNat_natCast]
  rw [fold_push]
  simp [strOf]
end Go.Proofs.Ytpdicijoohahaaa
namespace Go.Proofs.Ytpdicijoohahaaa
set_option linter.unusedVariables false
set_option linter.unusedSimpArgs false
open Go.RowKit

/-- The elements zs of a slice that lies at a, in a block below B (or is empty). -/
def Ints (w : World) (B : Nat) (a : Option Addr) (zs : List Int) : Prop :=
  zs.length ≤ 140737488355328 ∧ (∀ n ∈ zs, -9223372036854775808 ≤ n ∧ n ≤ 9223372036854775807) ∧
    (0 < zs.length → ∃ b off, a = some ⟨b, off, none⟩ ∧ b < B ∧ ∀ i, i < zs.length → w.cell? ⟨b, off + i, none⟩ = some (.int .i64 (zs.getD i 0)))
theorem Ints.keep {w w' : World} {B : Nat} {a : Option Addr} {zs : List Int} (h : Ints w B a zs) (hk : ∀ p : Addr, p.block < B → w'.cell? p = w.cell? p) : Ints w' B a zs :=
  ⟨h.1, h.2.1, fun h0 => by
    obtain ⟨b, off, e, hb, hc⟩ := h.2.2 h0
    exact ⟨b, off, e, hb, fun i hi => (hk _ hb).trans (hc i hi)⟩⟩
theorem Ints.below {w w' : World} {B : Nat} {a : Option Addr} {zs : List Int} (h : Ints w B a zs) (hb : Below B w w') : Ints w' B a zs := h.keep fun _ hp => hb.cell hp
theorem Ints.mono {w : World} {B B' : Nat} {a : Option Addr} {zs : List Int} (h : Ints w B a zs) (hB : B ≤ B') : Ints w B' a zs :=
  ⟨h.1, h.2.1, fun h0 => by
    obtain ⟨b, off, e, hb, hc⟩ := h.2.2 h0
    exact ⟨b, off, e, by omega, hc⟩⟩
theorem Ints.range {w : World} {B : Nat} {a : Option Addr} {zs : List Int} (h : Ints w B a zs) (k : Nat) : -9223372036854775808 ≤ zs.getD k 0 ∧ zs.getD k 0 ≤ 9223372036854775807 := by
  rcases Nat.lt_or_ge k zs.length with hk | hk
  · have e : zs.getD k 0 = zs[k] := by simp [List.getD_eq_getElem?_getD, hk]
    rw [e]; exact h.2.1 _ (List.getElem_mem hk)
  · have e : zs.getD k 0 = 0 := by simp [List.getD_eq_getElem?_getD, hk]
    rw [e]; omega
theorem mem_getD {zs : List Int} {x : Int} (h : x ∈ zs) : ∃ k, k < zs.length ∧ zs.getD k 0 = x := by
  obtain ⟨k, hk, e⟩ := List.getElem_of_mem h
  exact ⟨k, hk, by simp [List.getD_eq_getElem?_getD, hk, e]⟩
theorem getD_mem {zs : List Int} {k : Nat} (h : k < zs.length) : zs.getD k 0 ∈ zs := by
  have e : zs.getD k 0 = zs[k] := by simp [List.getD_eq_getElem?_getD, h]
  rw [e]; exact List.getElem_mem h
end Go.Proofs.Ytpdicijoohahaaa
namespace Go.Proofs.Ytpdicijoohahaaa
set_option linter.unusedVariables false
set_option linter.unusedSimpArgs false
open Go.RowKit

theorem own_bel {w w' : World} {base : Nat} {e : TypeId} {size : Nat} {v : Value} {n : Nat} {xs : List Value} (h : w.ownsRow base e size v n xs) (hb : Below w.heap.size w w') : w'.ownsRow base e size v n xs :=
  h.kept (row := none) ⟨hb.os, hb.tape, hb.output, hb.size, fun i hi _ => hb.block i hi⟩ (by
    rcases h.2 with ⟨rfl, _⟩ | ⟨g, _, _, rfl, _⟩
    · exact .inl rfl
    · exact .inr (by simp [Value.ownBlock]))
theorem own_shape {w : World} {base size n : Nat} {e : TypeId} {v : Value} {xs : List Value} (h : w.ownsRow base e size v n xs) : ∃ a c, v = .slice a n c := by
  rcases h.2 with ⟨rfl, rfl⟩ | ⟨g, cap, cur, rfl, _⟩
  · exact ⟨none, 0, rfl⟩
  · exact ⟨_, cap, rfl⟩
def natsL (D : List Nat) : List Value := D.map fun (x : Nat) => Value.int .i64 (x : Int)
theorem natsL_len (D : List Nat) : (natsL D).length = D.length := by simp [natsL]
theorem natsL_get (D : List Nat) (j : Nat) (h : j < D.length) : (natsL D)[j]? = some (.int .i64 (D[j] : Int)) := by simp [natsL, h]
theorem natsL_append (D E : List Nat) : natsL (D ++ E) = natsL D ++ natsL E := by simp [natsL]
theorem natsL_one (D : List Nat) : ∀ u ∈ natsL D, u.oneCell' = true := by
  intro u hu
  simp only [natsL, List.mem_map] at hu
  obtain ⟨x, _, rfl⟩ := hu
  rfl
theorem own_neq {w : World} {base size n g m c : Nat} {e : TypeId} {v : Value} {xs : List Value} (h : w.ownsRow base e size v n xs) (hg : g < base) : Value.ownBlock (.slice (some ⟨g, 0, none⟩) m c) ≠ v.ownBlock := by
  intro he
  have := (h.lt g (by rw [← he]; rfl)).1
  omega
theorem natsL_take {w : World} {base g n c : Nat} {E : TypeId} {D : List Nat} (h : w.ownsRow base E 1 (.slice (some ⟨g, 0, none⟩) n c) n (natsL D)) (k : Nat) : ∀ (j : Nat) (u : Value), (natsL (D.take k))[j]? = some u → w.cell? ((⟨g, 0, none⟩ : Addr).add j) = some u := by
  intro j u hu
  refine h.cells (g := g) rfl j u ?_
  simp only [natsL, List.map_take, List.getElem?_take] at hu ⊢
  split at hu
  · exact hu
  · cases hu
theorem natsL_drop {w : World} {base g n c : Nat} {E : TypeId} {D : List Nat} (h : w.ownsRow base E 1 (.slice (some ⟨g, 0, none⟩) n c) n (natsL D)) (k : Nat) : ∀ (j : Nat) (u : Value), (natsL (D.drop k))[j]? = some u → w.cell? ((⟨g, k, none⟩ : Addr).add j) = some u := by
  intro j u hu
  have e : (⟨g, k, none⟩ : Addr).add j = ⟨g, k + j, none⟩ := by unfold Addr.add; split <;> simp_all
  have hu2 : (natsL D)[k + j]? = some u := by
    simp only [natsL, List.map_drop, List.getElem?_drop] at hu ⊢; exact hu
  have hl := h.1
  have hj : k + j < n * 1 := by rw [← hl]; exact (List.getElem?_eq_some_iff.1 hu2).1
  rw [e, h.cellAt _ hj, hu2]
def nats (n : Nat) (f : Nat → Nat) : List Value := (List.range n).map fun s => Value.int .i64 (f s : Int)
theorem nats_len (n : Nat) (f : Nat → Nat) : (nats n f).length = n := by simp [nats]
theorem nats_get (n : Nat) (f : Nat → Nat) (s : Nat) (h : s < n) : (nats n f)[s]? = some (.int .i64 (f s : Int)) := by simp [nats, h]
theorem nats_set (n : Nat) (f : Nat → Nat) (s : Nat) (x : Nat) : (nats n f).set s (.int .i64 (x : Int)) = nats n (fun t => if t = s then x else f t) := by
  apply List.ext_getElem (by simp [nats])
  intro i h1 h2
  by_cases e : s = i
  · subst e; simp [nats]
  · have : ¬ i = s := fun h => e h.symm
    simp [nats, List.getElem_set, e, this]
theorem nats_congr {n : Nat} {f g : Nat → Nat} (h : ∀ s, s < n → f s = g s) : nats n f = nats n g := by
  unfold nats
  exact List.map_congr_left fun s hs => by rw [h s (List.mem_range.1 hs)]
theorem Try.infoInt : (Try.prog.info? 3).map (fun i => (i.zero, i.size, i.bytes)) = some (some (.int .i64 0), 1, 8) := by kernel_rfl
theorem own_types {w : World} {b1 b2 s1 s2 n1 n2 g : Nat} {e1 e2 : TypeId} {v1 v2 : Value} {xs ys : List Value} (h : w.ownsRow b1 e1 s1 v1 n1 xs) (h' : w.ownsRow b2 e2 s2 v2 n2 ys) (hne : e1 ≠ e2) (hg : v1.ownBlock = some g) : v2.ownBlock ≠ some g := by
  intro he
  rcases h.2 with ⟨rfl, _⟩ | ⟨ga, _, ca, rfl, _, ha, _⟩
  · cases hg
  · rcases h'.2 with ⟨rfl, _⟩ | ⟨gb, _, cb, rfl, _, hb, _⟩
    · cases he
    · simp only [Value.ownBlock, Option.some.injEq] at hg he
      subst hg he
      rw [ha] at hb
      injection hb with hb
      injection hb with _ h2
      exact hne h2
theorem made_nats (n : Nat) : (madeCells #[Value.int .i64 0] n).toList = nats n (fun _ => 0) := by
  rw [toList_madeCells_one]
  apply List.ext_getElem (by simp [nats])
  intro i h1 h2
  simp [nats]
theorem cell_one (w : World) (u : Value) (T : TypeId) : ∀ (j : Nat) (v : Value), [u][j]? = some v → (w.alloc (.cells #[u] T)).cell? ((⟨w.heap.size, 0, none⟩ : Addr).add j) = some v := by
  intro j v hv
  have hj : j = 0 := by
    have := (List.getElem?_eq_some_iff.1 hv).1
    simpa using this
  subst hj
  have := (Has.fresh w T #[u]).cell 0
  have e : (⟨w.heap.size, 0, none⟩ : Addr).add 0 = ⟨w.heap.size, 0, none⟩ := by simp [Addr.add]
  rw [e, this]
  simpa using hv
theorem natsL_nats (L : List Nat) : natsL L = nats L.length (fun s => L.getD s 0) := by
  apply List.ext_getElem (by simp [natsL, nats])
  intro i h1 h2
  have h : i < L.length := by simpa [natsL] using h1
  simp [natsL, nats, List.getD_eq_getElem?_getD, h]
theorem own_away {w : World} {base n S : Nat} {E : TypeId} {v : Value} {xs : List Value} (h : w.ownsRow base E S v n xs) {p : Addr} (hp : p.block < base) (u : Value) : (w.setCell p u).ownsRow base E S v n xs :=
  h.kept ((Only.refl p.block w).store (.inl rfl) u) (.inr (fun he => by have := (h.lt _ he).1; omega))
end Go.Proofs.Ytpdicijoohahaaa
namespace Go.Proofs.Ytpdicijoohahaaa
set_option linter.unusedVariables false
set_option linter.unusedSimpArgs false

/-- Are they symbols of an alphabet of n? -/
def rOk (z : List Int) (n : Int) : Bool := decide (1 ≤ n ∧ n ≤ 256 ∧ z.length ≤ 600 ∧ ∀ x ∈ z, 0 ≤ x ∧ x < n)
theorem rOk_iff (z : List Int) (n : Int) : rOk z n = true ↔ 1 ≤ n ∧ n ≤ 256 ∧ z.length ≤ 600 ∧ ∀ x ∈ z, 0 ≤ x ∧ x < n := by simp [rOk]
/-- Numbers as integers. -/
def ints (L : List Nat) : List Int := L.map fun (x : Nat) => (x : Int)
theorem ints_len (L : List Nat) : (ints L).length = L.length := by simp [ints]
theorem ints_get (L : List Nat) (k : Nat) : (ints L).getD k 0 = ((L.getD k 0 : Nat) : Int) := by
  unfold ints
  simp only [List.getD_eq_getElem?_getD, List.getElem?_map]
  cases L[k]? <;> rfl
theorem ints_snoc (L : List Nat) (x : Nat) : ints (L ++ [x]) = ints L ++ [(x : Int)] := by simp [ints]
/-- A valid list is one of numbers. -/
theorem rOk_nats {z : List Int} {n : Int} (h : rOk z n = true) : ∃ (L : List Nat) (m : Nat), z = ints L ∧ n = m ∧ 1 ≤ m ∧ m ≤ 256 ∧ L.length ≤ 600 ∧ ∀ x ∈ L, x < m := by
  obtain ⟨h1, h2, h3, h4⟩ := (rOk_iff z n).1 h
  have hz : z = ints (z.map Int.toNat) := by
    unfold ints
    rw [List.map_map]
    conv => lhs; rw [← List.map_id z]
    apply List.map_congr_left
    intro x hx
    have := h4 x hx
    simp only [id, Function.comp]
    omega
  refine ⟨z.map Int.toNat, n.toNat, hz, by omega, by omega, by omega, by simpa using h3, ?_⟩
  intro x hx
  obtain ⟨y, hy, rfl⟩ := List.mem_map.1 hx
  have := h4 y hy
  omega
theorem rOk_of {L : List Nat} {m : Nat} (h1 : 1 ≤ m) (h2 : m ≤ 256) (h3 : L.length ≤ 600) (h4 : ∀ x ∈ L, x < m) : rOk (ints L) m = true := by
  rw [rOk_iff]
  refine ⟨by omega, by omega, by rw [ints_len]; exact h3, ?_⟩
  intro x hx
  obtain ⟨y, hy, rfl⟩ := List.mem_map.1 hx
  have := h4 y hy
  omega

/-- A machine's answers, one for each number of a list. -/
def runF {σ : Type} (f : σ → Nat → Nat × σ) : σ → List Nat → List Nat
  | _, [] => []
  | s, x :: xs => (f s x).1 :: runF f (f s x).2 xs
/-- What state the machine is in behind a list. -/
def endF {σ : Type} (f : σ → Nat → Nat × σ) : σ → List Nat → σ
  | s, [] => s
  | s, x :: xs => endF f (f s x).2 xs
theorem runF_len {σ : Type} (f : σ → Nat → Nat × σ) : ∀ (L : List Nat) (s : σ), (runF f s L).length = L.length
  | [], _ => rfl
  | x :: xs, s => by simp [runF, runF_len f xs]
theorem drop_cons (L : List Nat) (k : Nat) (h : k < L.length) : L.drop k = L.getD k 0 :: L.drop (k + 1) := by
  rw [List.drop_eq_getElem_cons h]
  congr 1
  simp [List.getD_eq_getElem?_getD, h]
theorem getD_mem7 (L : List Nat) (k : Nat) (h : k < L.length) : L.getD k 0 ∈ L := by
  have e : L.getD k 0 = L[k] := by simp [List.getD_eq_getElem?_getD, h]
  rw [e]; exact List.getElem_mem h

/-- The one at place k comes to the front. -/
def frontL (r : List Nat) (k : Nat) : List Nat := r.getD k 0 :: r.eraseIdx k
theorem eraseIdx_td (r : List Nat) (k : Nat) : r.eraseIdx k = r.take k ++ r.drop (k + 1) := List.eraseIdx_eq_take_drop_succ r k
theorem frontL_len (r : List Nat) (k : Nat) (h : k < r.length) : (frontL r k).length = r.length := by
  unfold frontL
  rw [List.length_cons, List.length_eraseIdx]
  split <;> omega
theorem split_at (r : List Nat) (k : Nat) (h : k < r.length) : r = r.take k ++ r.getD k 0 :: r.drop (k + 1) := by
  rw [← drop_cons r k h, List.take_append_drop]
theorem frontL_perm (r : List Nat) (k : Nat) (h : k < r.length) : (frontL r k).Perm r := by
  unfold frontL
  rw [eraseIdx_td]
  conv => rhs; rw [split_at r k h]
  exact List.perm_middle.symm
/-- One step of move-to-front, one of its inverse. -/
def mtfF (r : List Nat) (x : Nat) : Nat × List Nat := (r.idxOf x, frontL r (r.idxOf x))
def umtF (r : List Nat) (k : Nat) : Nat × List Nat := (r.getD k 0, frontL r k)
/-- A row of the numbers below n, in some order. -/
def PermN (n : Nat) (r : List Nat) : Prop := r.Perm (List.range n)
theorem PermN.len {n : Nat} {r : List Nat} (h : PermN n r) : r.length = n := by rw [h.length_eq, List.length_range]
theorem PermN.mem {n : Nat} {r : List Nat} (h : PermN n r) (x : Nat) : x ∈ r ↔ x < n := by rw [h.mem_iff, List.mem_range]
theorem PermN.nodup {n : Nat} {r : List Nat} (h : PermN n r) : r.Nodup := h.nodup_iff.2 List.nodup_range
theorem PermN.idx {n : Nat} {r : List Nat} (h : PermN n r) {x : Nat} (hx : x < n) : r.idxOf x < n := by
  have := List.idxOf_lt_length_of_mem ((h.mem x).2 hx)
  rwa [h.len] at this
theorem PermN.at {n : Nat} {r : List Nat} (h : PermN n r) {k : Nat} (hk : k < n) : r.getD k 0 < n := (h.mem _).1 (getD_mem7 r k (by rw [h.len]; exact hk))
theorem PermN.front {n : Nat} {r : List Nat} (h : PermN n r) {k : Nat} (hk : k < n) : PermN n (frontL r k) := (frontL_perm r k (by rw [h.len]; exact hk)).trans h
theorem PermN.start (n : Nat) : PermN n (List.range n) := List.Perm.refl _
theorem idx_at (r : List Nat) {x : Nat} (h : x ∈ r) : r.getD (r.idxOf x) 0 = x := by
  have h2 := List.idxOf_lt_length_of_mem h
  simp [List.getD_eq_getElem?_getD, h2]
theorem idx_first (r : List Nat) (x j : Nat) (h : j < r.idxOf x) : r.getD j 0 ≠ x := by
  intro e
  have hle := List.idxOf_le_length (a := x) (l := r)
  have hj : j < r.length := by omega
  have e2 : r[j] = x := by simpa [List.getD_eq_getElem?_getD, hj] using e
  have h3 : (r.take (j + 1)).idxOf x ≤ j := by
    have hm : x ∈ r.take (j + 1) := by
      rw [List.mem_take_iff_getElem]
      exact ⟨j, by omega, e2⟩
    have := List.idxOf_lt_length_of_mem hm
    rw [List.length_take] at this
    omega
  have h4 : r.idxOf x ≤ j := by
    have hm : x ∈ r.take (j + 1) := by
      rw [List.mem_take_iff_getElem]
      exact ⟨j, by omega, e2⟩
    conv => lhs; rw [← List.take_append_drop (j + 1) r]
    rw [List.idxOf_append, if_pos hm]
    exact h3
  omega
/-- The answers of move-to-front, as integers; none where the list is not valid. -/
def mtfZ (z : List Int) (n : Int) : List Int := if rOk z n = true then ints (runF mtfF (List.range n.toNat) (z.map Int.toNat)) else []
def umtZ (z : List Int) (n : Int) : List Int := if rOk z n = true then ints (runF umtF (List.range n.toNat) (z.map Int.toNat)) else []
theorem ints_toNat (L : List Nat) : (ints L).map Int.toNat = L := by
  unfold ints
  rw [List.map_map]
  conv => rhs; rw [← List.map_id L]
  apply List.map_congr_left
  intro x _
  rfl
theorem mtfZ_yes {L : List Nat} {m : Nat} (h : rOk (ints L) m = true) : mtfZ (ints L) m = ints (runF mtfF (List.range m) L) := by
  unfold mtfZ; rw [if_pos h, ints_toNat]; rfl
theorem umtZ_yes {L : List Nat} {m : Nat} (h : rOk (ints L) m = true) : umtZ (ints L) m = ints (runF umtF (List.range m) L) := by
  unfold umtZ; rw [if_pos h, ints_toNat]; rfl
theorem mtfZ_no {z : List Int} {n : Int} (h : rOk z n = false) : mtfZ z n = [] := by unfold mtfZ; rw [h]; rfl
theorem umtZ_no {z : List Int} {n : Int} (h : rOk z n = false) : umtZ z n = [] := by unfold umtZ; rw [h]; rfl
/-- What a machine's answers are bounded by, where every step keeps a relation on its states. -/
theorem runF_all {σ : Type} {f : σ → Nat → Nat × σ} (R : σ → Prop) (X Y : Nat → Prop) (h : ∀ s x, R s → X x → Y (f s x).1 ∧ R (f s x).2) : ∀ (L : List Nat) (s : σ), R s → (∀ x ∈ L, X x) → ∀ y ∈ runF f s L, Y y
  | [], _, _, _, y, hy => by cases hy
  | x :: xs, s, hR, hX, y, hy => by
    have h1 := h s x hR (hX x (List.mem_cons_self ..))
    rcases List.mem_cons.1 hy with e | e
    · rw [e]; exact h1.1
    · exact runF_all R X Y h xs _ h1.2 (fun q hq => hX q (List.mem_cons_of_mem _ hq)) y e
theorem mtf_lt {n : Nat} {L : List Nat} (hL : ∀ x ∈ L, x < n) : ∀ y ∈ runF mtfF (List.range n) L, y < n :=
  runF_all (PermN n) (· < n) (· < n) (fun s x hs hx => ⟨hs.idx hx, hs.front (hs.idx hx)⟩) L _ (PermN.start n) hL
theorem umt_lt {n : Nat} {L : List Nat} (hL : ∀ x ∈ L, x < n) : ∀ y ∈ runF umtF (List.range n) L, y < n :=
  runF_all (PermN n) (· < n) (· < n) (fun s k hs hk => ⟨hs.at hk, hs.front hk⟩) L _ (PermN.start n) hL
end Go.Proofs.Ytpdicijoohahaaa
namespace Go.Proofs.Ytpdicijoohahaaa
set_option linter.unusedVariables false
set_option linter.unusedSimpArgs false

/-- All of the list are bytes. -/
def Byt (l : List Nat) : Prop := ∀ b ∈ l, b < 256
theorem byt_bytesOf (s : ByteArray) : Byt (bytesOf s) := by
  intro b hb
  simp only [bytesOf, List.mem_map] at hb
  obtain ⟨x, _, rfl⟩ := hb
  exact UInt8.toNat_lt _

/-- Two rows in one strict order with the same members are one. -/
theorem pw_unique {R : Nat → Nat → Prop} (irr : ∀ a, ¬ R a a) (asym : ∀ a b, R a b → ¬ R b a) : ∀ (l m : List Nat), l.Pairwise R → m.Pairwise R → (∀ b, b ∈ l ↔ b ∈ m) → l = m := by
  intro l
  induction l with
  | nil =>
    intro m _ _ h
    cases m with
    | nil => rfl
    | cons b m => exact absurd ((h b).2 (List.mem_cons_self ..)) (by simp)
  | cons a l ih =>
    intro m hl hm h
    cases m with
    | nil => exact absurd ((h a).1 (List.mem_cons_self ..)) (by simp)
    | cons b m =>
      rw [List.pairwise_cons] at hl hm
      have hab : a = b := by
        rcases List.mem_cons.1 ((h a).1 (List.mem_cons_self ..)) with e | e
        · exact e
        · rcases List.mem_cons.1 ((h b).2 (List.mem_cons_self ..)) with e2 | e2
          · exact e2.symm
          · exact absurd (hm.1 a e) (asym _ _ (hl.1 b e2))
      subst hab
      rw [ih m hl.2 hm.2]
      intro x
      constructor
      · intro hx
        rcases List.mem_cons.1 ((h x).1 (List.mem_cons_of_mem _ hx)) with e | e
        · subst e; exact absurd (hl.1 x hx) (irr _)
        · exact e
      · intro hx
        rcases List.mem_cons.1 ((h x).2 (List.mem_cons_of_mem _ hx)) with e | e
        · subst e; exact absurd (hm.1 x hx) (irr _)
        · exact e
theorem asc_unique {l m : List Nat} (h1 : l.Pairwise (· < ·)) (h2 : m.Pairwise (· < ·)) (h : ∀ b, b ∈ l ↔ b ∈ m) : l = m :=
  pw_unique (fun a => Nat.lt_irrefl a) (fun a b h => by omega) l m h1 h2 h

/-- The numbers of the list, each once, ascending, below k. -/
def usedTo (l : List Nat) (k : Nat) : List Nat := (List.range k).filter (fun b => decide (0 < l.count b))
def usedL (l : List Nat) : List Nat := usedTo l 256
theorem usedTo_succ (l : List Nat) (k : Nat) : usedTo l (k + 1) = if 0 < l.count k then usedTo l k ++ [k] else usedTo l k := by
  unfold usedTo
  rw [List.range_succ, List.filter_append]
  split <;> simp_all
theorem mem_usedTo {l : List Nat} {k b : Nat} : b ∈ usedTo l k ↔ b < k ∧ b ∈ l := by
  simp [usedTo, List.count_pos_iff]
theorem mem_usedL {l : List Nat} (h : Byt l) {b : Nat} : b ∈ usedL l ↔ b ∈ l := by
  unfold usedL
  rw [mem_usedTo]
  exact ⟨fun x => x.2, fun x => ⟨h b x, x⟩⟩
theorem usedL_asc (l : List Nat) : (usedL l).Pairwise (· < ·) := List.pairwise_lt_range.sublist List.filter_sublist
theorem usedTo_len (l : List Nat) (k : Nat) : (usedTo l k).length ≤ k := by
  unfold usedTo
  have := List.length_filter_le (fun b => decide (0 < l.count b)) (List.range k)
  simpa using this
theorem byt_usedL (l : List Nat) : Byt (usedL l) := fun b hb => (mem_usedTo.1 hb).1
theorem asc_nodup {l : List Nat} (h : l.Pairwise (· < ·)) : l.Nodup := h.imp (fun h => by omega)
theorem usedL_nodup (l : List Nat) : (usedL l).Nodup := asc_nodup (usedL_asc l)
theorem usedL_count (l : List Nat) (h : Byt l) (b : Nat) : (usedL l).count b = if b ∈ l then 1 else 0 := by
  rw [(usedL_nodup l).count]
  simp [mem_usedL h]
theorem usedL_self {u : List Nat} (hb : Byt u) : usedL u = u ↔ u.Pairwise (· < ·) := by
  constructor
  · intro h; rw [← h]; exact usedL_asc u
  · intro h; exact asc_unique (usedL_asc u) h (fun b => mem_usedL hb)
theorem nodup_len_le : ∀ {l m : List Nat}, l.Nodup → (∀ b ∈ l, b ∈ m) → l.length ≤ m.length := by
  intro l
  induction l with
  | nil => intro m _ _; simp
  | cons a l ih =>
    intro m hl h
    rw [List.nodup_cons] at hl
    have ha := h a (List.mem_cons_self ..)
    have h2 := ih (m := m.erase a) hl.2 (fun b hb => (List.mem_erase_of_ne (fun e => hl.1 (by rw [← e]; exact hb))).2 (h b (List.mem_cons_of_mem _ hb)))
    rw [List.length_erase_of_mem ha] at h2
    have := List.length_pos_of_mem ha
    simp only [List.length_cons]
    omega
theorem used_len_le {l : List Nat} (hb : Byt l) : (usedL l).length ≤ l.length := nodup_len_le (usedL_nodup l) (fun b h => (mem_usedL hb).1 h)
theorem used_len_eq {l : List Nat} (hb : Byt l) : (usedL l).length = l.length ↔ l.Nodup := by
  constructor
  · intro h
    rw [List.nodup_iff_count]
    intro a
    apply Decidable.byContradiction
    intro hc
    have h2 : 2 ≤ l.count a := by omega
    have ha : a ∈ l := List.count_pos_iff.1 (by omega)
    have hb2 : Byt (l.erase a) := fun b hx => hb b (List.mem_of_mem_erase hx)
    have he : usedL l = usedL (l.erase a) := asc_unique (usedL_asc _) (usedL_asc _) (fun b => by
      rw [mem_usedL hb, mem_usedL hb2, ← List.count_pos_iff, ← List.count_pos_iff, List.count_erase]
      by_cases e : b = a
      · subst e; rw [beq_self_eq_true, if_pos rfl]; omega
      · rw [if_neg (by simpa using Ne.symm e)]; rfl)
    have h3 := used_len_le hb2
    rw [← he, List.length_erase_of_mem ha] at h3
    have := List.length_pos_of_mem ha
    omega
  · intro h
    have := nodup_len_le h (fun b hx => (mem_usedL hb).2 hx)
    have := used_len_le hb
    omega
theorem nodup_256 {l : List Nat} (hb : Byt l) (h : l.Nodup) : l.length ≤ 256 := by
  have := (used_len_eq hb).2 h
  have := usedTo_len l 256
  unfold usedL at *
  omega
theorem used_perm {l : List Nat} (hb : Byt l) (h : l.Nodup) : (usedL l).Perm l := by
  rw [List.perm_iff_count]
  intro a
  rw [usedL_count l hb a, h.count]

/-- An order: something, and nothing twice. -/
def ordOk (l : List Nat) : Bool := decide (l ≠ [] ∧ l.Nodup)
theorem ordOk_iff (l : List Nat) : ordOk l = true ↔ l ≠ [] ∧ l.Nodup := by simp [ordOk]
/-- A set: something, and ascending. -/
def setOk (u : List Nat) : Bool := decide (u ≠ [] ∧ usedL u = u)
theorem setOk_iff (u : List Nat) : setOk u = true ↔ u ≠ [] ∧ usedL u = u := by simp [setOk]

/-- By count: what comes more often comes first; else by value. -/
def befC (l : List Nat) (a b : Nat) : Prop := l.count b < l.count a ∨ (l.count a = l.count b ∧ a < b)
theorem befC_irr (l : List Nat) (a : Nat) : ¬ befC l a a := by unfold befC; omega
theorem befC_asym (l : List Nat) (a b : Nat) (h : befC l a b) : ¬ befC l b a := by unfold befC at *; omega
theorem befC_trans (l : List Nat) {a b c : Nat} (h : befC l a b) (h2 : befC l b c) : befC l a c := by unfold befC at *; omega
theorem befC_total (l : List Nat) {a b : Nat} (h : a ≠ b) : befC l a b ∨ befC l b a := by unfold befC; omega
/-- The bytes of l by count. -/
def Ranked (l R : List Nat) : Prop := R.Pairwise (befC l) ∧ ∀ b, b ∈ R ↔ b ∈ l
theorem ranked_unique {l R R2 : List Nat} (h : Ranked l R) (h2 : Ranked l R2) : R = R2 :=
  pw_unique (befC_irr l) (befC_asym l) R R2 h.1 h2.1 (fun b => (h.2 b).trans (h2.2 b).symm)
theorem ranked_nodup {l R : List Nat} (h : Ranked l R) : R.Nodup := h.1.imp (fun {a b} h e => by subst e; exact befC_irr l a h)
theorem ranked_byt {l R : List Nat} (hb : Byt l) (h : Ranked l R) : Byt R := fun b hx => hb b ((h.2 b).1 hx)
theorem ranked_used {l R : List Nat} (hb : Byt l) (h : Ranked l R) : usedL R = usedL l :=
  asc_unique (usedL_asc _) (usedL_asc _) (fun b => by rw [mem_usedL (ranked_byt hb h), mem_usedL hb]; exact h.2 b)
theorem ranked_len {l R : List Nat} (hb : Byt l) (h : Ranked l R) : R.length = (usedL l).length := by
  rw [← ranked_used hb h]; exact ((used_len_eq (ranked_byt hb h)).2 (ranked_nodup h)).symm

/-- What is still to be picked, and how often it occurs. -/
def remF (L R : List Nat) (b : Nat) : Nat := if b ∈ R then 0 else L.count b
/-- R has been picked from L, in order. -/
def Sel (L R : List Nat) : Prop := R.Pairwise (befC L) ∧ (∀ x ∈ R, x ∈ L) ∧ ∀ x ∈ R, ∀ y ∈ L, y ∉ R → befC L x y
theorem sel_nil (L : List Nat) : Sel L [] := ⟨List.Pairwise.nil, by simp, by simp⟩
theorem sel_nodup {L R : List Nat} (h : Sel L R) : R.Nodup := h.1.imp (fun {a b} h e => by subst e; exact befC_irr L a h)
theorem sel_step {L R : List Nat} (hB : Byt L) (h : Sel L R) {m : Nat} (hmax : ∀ x, x < 256 → remF L R x ≤ remF L R m ∧ (remF L R x = remF L R m → m ≤ x)) (hp : 0 < remF L R m) : Sel L (R ++ [m]) ∧ R.length + 1 ≤ 256 := by
  have hm : m ∉ R := fun e => by unfold remF at hp; rw [if_pos e] at hp; omega
  have hr : remF L R m = L.count m := by unfold remF; rw [if_neg hm]
  have hmL : m ∈ L := List.count_pos_iff.1 (by omega)
  have h2 : Sel L (R ++ [m]) := by
    refine ⟨?_, ?_, ?_⟩
    · rw [List.pairwise_append]
      refine ⟨h.1, by simp, fun a ha b hb => ?_⟩
      simp at hb; subst hb
      exact h.2.2 a ha b hmL hm
    · intro x hx
      rcases List.mem_append.1 hx with hx | hx
      · exact h.2.1 x hx
      · simp at hx; subst hx; exact hmL
    · intro x hx y hy hn
      have hy1 : y ∉ R := fun e => hn (List.mem_append_left _ e)
      have hy2 : y ≠ m := fun e => hn (by simp [e])
      rcases List.mem_append.1 hx with hx | hx
      · exact h.2.2 x hx y hy hy1
      · simp at hx; subst hx
        have hq := hmax y (hB y hy)
        have hry : remF L R y = L.count y := by unfold remF; rw [if_neg hy1]
        rw [hry, hr] at hq
        unfold befC; omega
  refine ⟨h2, ?_⟩
  have := nodup_256 (fun b hb => hB b (h2.2.1 b hb)) (sel_nodup h2)
  simpa using this
theorem sel_end {L R : List Nat} (hB : Byt L) (h : Sel L R) {m : Nat} (hmax : ∀ x, x < 256 → remF L R x ≤ remF L R m ∧ (remF L R x = remF L R m → m ≤ x)) (hp : remF L R m = 0) : Ranked L R := by
  refine ⟨h.1, fun b => ⟨h.2.1 b, fun hb => ?_⟩⟩
  apply Decidable.byContradiction
  intro hn
  have h1 := (hmax b (hB b hb)).1
  have h2 : remF L R b = L.count b := by unfold remF; rw [if_neg hn]
  have h3 := List.count_pos_iff.2 hb
  omega
theorem remF_snoc (L R : List Nat) (m t : Nat) : remF L (R ++ [m]) t = if t = m then 0 else remF L R t := by
  unfold remF
  by_cases e : t = m
  · subst e; simp
  · simp [e]
theorem remF_nil (L : List Nat) : remF L [] = fun b => L.count b := by funext b; simp [remF]
end Go.Proofs.Ytpdicijoohahaaa
namespace Go.Proofs.Ytpdicijoohahaaa
set_option linter.unusedVariables false
set_option linter.unusedSimpArgs false

/-- The least number of bits in which m numbers can be told apart. -/
def needB (m : Nat) : Nat := if m ≤ 1 then 0 else Nat.log2 (m - 1) + 1
theorem need_up (m : Nat) : m ≤ 2 ^ needB m := by
  unfold needB
  split
  · simp; omega
  · have := log_up (m - 1); omega
theorem need_low (m j : Nat) (h : j < needB m) : 2 ^ j < m := by
  unfold needB at h
  split at h
  · omega
  · have h1 := log_low (n := m - 1) (by omega)
    have h2 : 2 ^ j ≤ 2 ^ Nat.log2 (m - 1) := Nat.pow_le_pow_right (by omega) (by omega)
    omega
theorem need_le (m : Nat) (h : m ≤ 256) : needB m ≤ 8 := by
  rcases Nat.lt_or_ge 8 (needB m) with h2 | h2
  · have := need_low m 8 h2
    omega
  · exact h2
theorem need_one {m n : Nat} (h1 : m ≤ 2 ^ n) (h2 : ∀ j, j < n → 2 ^ j < m) : n = needB m := by
  rcases Nat.lt_trichotomy n (needB m) with h | h | h
  · have := need_low m n h; omega
  · exact h
  · have := h2 _ h; have := need_up m; omega

/-- An order as bits. -/
def putO : List Nat → List Nat → List Nat
  | _, [] => []
  | u, x :: o => nbits (u.idxOf x) (needB u.length) ++ putO (u.erase x) o
theorem putO_lt (u o : List Nat) : ∀ b ∈ putO u o, b < 2 := by
  induction o generalizing u with
  | nil => simp [putO]
  | cons x o ih =>
    intro b hb
    unfold putO at hb
    rcases List.mem_append.1 hb with h | h
    · exact nbits_lt _ _ b h
    · exact ih _ b h
theorem putO_len (u o : List Nat) (h : u.length ≤ 256) : (putO u o).length ≤ 8 * o.length := by
  induction o generalizing u with
  | nil => simp [putO]
  | cons x o ih =>
    unfold putO
    rw [List.length_append, nbits_len, List.length_cons]
    have h1 := need_le u.length h
    have h2 := ih (u.erase x) (by have := List.length_erase_le (a := x) (l := u); omega)
    omega
theorem erase_idx {u : List Nat} {x : Nat} (h : x ∈ u) : u.erase x = u.eraseIdx (u.idxOf x) := List.erase_eq_eraseIdx_of_idxOf rfl
theorem idx_lt {u : List Nat} {x : Nat} (h : x ∈ u) : u.idxOf x < u.length := List.idxOf_lt_length_of_mem h
theorem idx_get {u : List Nat} {x : Nat} (h : x ∈ u) : u.getD (u.idxOf x) 0 = x := by
  rw [List.getD_eq_getElem?_getD, List.getElem?_eq_getElem (idx_lt h), Option.getD_some, List.getElem_idxOf]

/-- An order read from bits, its set being known. -/
def getO (s : ByteArray) : Nat → List Nat → Nat → Option (List Nat × Nat)
  | 0, _, a => some ([], a)
  | f + 1, u, a => if a + needB (f + 1) ≤ 8 * s.size ∧ num (row s a (needB (f + 1))) ≤ f then
      (getO s f (u.eraseIdx (num (row s a (needB (f + 1))))) (a + needB (f + 1))).map (fun r => (u.getD (num (row s a (needB (f + 1)))) 0 :: r.1, r.2)) else none
theorem getO_put (s : ByteArray) : ∀ (o u : List Nat) (a : Nat), u.Perm o → a + (putO u o).length ≤ 8 * s.size → row s a (putO u o).length = putO u o → getO s u.length u a = some (o, a + (putO u o).length) := by
  intro o
  induction o with
  | nil =>
    intro u a hp _ _
    have : u = [] := List.perm_nil.1 hp
    subst this
    rfl
  | cons x o ih =>
    intro u a hp ha hr
    have hx : x ∈ u := hp.mem_iff.2 (List.mem_cons_self ..)
    have hl := hp.length_eq
    simp only [List.length_cons] at hl
    unfold putO at ha hr ⊢
    rw [List.length_append, nbits_len] at ha hr ⊢
    rw [row_add] at hr
    have hr1 := (List.append_inj hr (by rw [row_len, nbits_len])).1
    have hr2 := (List.append_inj hr (by rw [row_len, nbits_len])).2
    have hk := idx_lt hx
    have hn : num (row s a (needB u.length)) = u.idxOf x := by rw [hr1]; exact num_nbits _ _ (Nat.lt_of_lt_of_le hk (need_up _))
    have hp2 : (u.erase x).Perm o := by have := hp.erase x; rwa [List.erase_cons_head] at this
    have h3 := ih (u.erase x) (a + needB u.length) hp2 (by omega) hr2
    rw [hl]
    unfold getO
    rw [← hl, if_pos ⟨by omega, by rw [hn]; omega⟩, hn, ← erase_idx hx]
    rw [show o.length = (u.erase x).length by rw [hp2.length_eq], h3, idx_get hx]
    simp [Nat.add_assoc]
theorem getO_yes {s : ByteArray} {f v : Nat} {u : List Nat} {a : Nat} (h1 : a + needB (f + 1) ≤ 8 * s.size) (hv : num (row s a (needB (f + 1))) = v) (h2 : v ≤ f) :
    getO s (f + 1) u a = (getO s f (u.eraseIdx v) (a + needB (f + 1))).map (fun r => (u.getD v 0 :: r.1, r.2)) := by
  subst hv
  conv => lhs; unfold getO
  rw [if_pos ⟨h1, h2⟩]
theorem getO_no {s : ByteArray} {f : Nat} {u : List Nat} {a : Nat} (h : ¬ (a + needB (f + 1) ≤ 8 * s.size ∧ num (row s a (needB (f + 1))) ≤ f)) : getO s (f + 1) u a = none := by unfold getO; rw [if_neg h]
theorem getO_len {s : ByteArray} : ∀ {f : Nat} {u : List Nat} {a : Nat} {o : List Nat} {e : Nat}, a ≤ 8 * s.size → getO s f u a = some (o, e) → o.length = f ∧ e ≤ 8 * s.size := by
  intro f
  induction f with
  | zero =>
    intro u a o e ha h
    simp only [getO, Option.some.injEq, Prod.mk.injEq] at h
    obtain ⟨rfl, rfl⟩ := h
    exact ⟨rfl, ha⟩
  | succ f ih =>
    intro u a o e ha h
    unfold getO at h
    split at h
    · rename_i hc
      rw [Option.map_eq_some_iff] at h
      obtain ⟨⟨o2, e2⟩, h1, h2⟩ := h
      simp only [Prod.mk.injEq] at h2
      obtain ⟨rfl, rfl⟩ := h2
      have h3 := ih (by omega) h1
      exact ⟨by simp [h3.1], h3.2⟩
    · cases h

/-- Which of the sixteen bytes of group g are in u. -/
def mem16 (u : List Nat) (g : Nat) : List Nat := (List.range 16).map fun p => if 16 * g + p ∈ u then 1 else 0
def has16 (u : List Nat) (g : Nat) : Nat := if 1 ∈ mem16 u g then 1 else 0
def grp16 (u : List Nat) (g : Nat) : List Nat := if has16 u g = 1 then mem16 u g else []
/-- A set as bits. -/
def usedHead (u : List Nat) : List Nat := (List.range 16).map (has16 u)
def usedRest (u : List Nat) (k : Nat) : List Nat := (List.range k).flatMap (grp16 u)
def usedBits (u : List Nat) : List Nat := usedHead u ++ usedRest u 16
theorem mem16_len (u : List Nat) (g : Nat) : (mem16 u g).length = 16 := by simp [mem16]
theorem mem16_lt (u : List Nat) (g : Nat) : ∀ b ∈ mem16 u g, b < 2 := by
  intro b hb
  simp only [mem16, List.mem_map] at hb
  obtain ⟨p, _, rfl⟩ := hb
  split <;> omega
theorem has16_lt (u : List Nat) (g : Nat) : has16 u g < 2 := by unfold has16; split <;> omega
theorem grp16_len (u : List Nat) (g : Nat) : (grp16 u g).length ≤ 16 := by unfold grp16; split <;> simp [mem16_len]
theorem usedRest_succ (u : List Nat) (k : Nat) : usedRest u (k + 1) = usedRest u k ++ grp16 u k := by simp [usedRest, List.range_succ]
theorem usedRest_len (u : List Nat) (k : Nat) : (usedRest u k).length ≤ 16 * k := by
  induction k with
  | zero => simp [usedRest]
  | succ k ih => rw [usedRest_succ, List.length_append]; have := grp16_len u k; omega
theorem usedBits_len (u : List Nat) : (usedBits u).length ≤ 272 := by
  unfold usedBits; rw [List.length_append]; have := usedRest_len u 16; simp [usedHead]; omega
theorem usedBits_lt (u : List Nat) : ∀ b ∈ usedBits u, b < 2 := by
  intro b hb
  unfold usedBits at hb
  rcases List.mem_append.1 hb with h | h
  · simp only [usedHead, List.mem_map] at h
    obtain ⟨g, _, rfl⟩ := h
    exact has16_lt u g
  · simp only [usedRest, List.mem_flatMap] at h
    obtain ⟨g, _, h⟩ := h
    unfold grp16 at h
    split at h
    · exact mem16_lt u g b h
    · cases h
theorem nbits_num7 (l : List Nat) (h : ∀ b ∈ l, b < 2) : nbits (num l) l.length = l := by
  induction l with
  | nil => rfl
  | cons b l ih =>
    have hb := h b (by simp)
    have ih' := ih fun c hc => h c (by simp [hc])
    have hlt := num_lt l fun c hc => h c (by simp [hc])
    have e : num (b :: l) = b * 2 ^ l.length + num l := by
      have := num_append [b] l
      simpa [num] using this
    rw [List.length_cons, show l.length + 1 = 1 + l.length by omega, e, nbits_add, Nat.add_comm (b * _), Nat.add_mul_div_right _ _ (Nat.two_pow_pos _), Nat.div_eq_of_lt hlt, Nat.add_mul_mod_self_right, Nat.mod_eq_of_lt hlt, ih']
    simp [nbits]; omega

/-- The places that a mask of sixteen bits shows. -/
def places (m : Nat) : List Nat := (List.range 16).filter fun p => decide (m / 2 ^ (15 - p) % 2 = 1)
theorem places_lt (m : Nat) : ∀ p ∈ places m, p < 16 := by intro p hp; simp [places] at hp; exact hp.1
/-- The groups gs read from bits. -/
def getG (s : ByteArray) : List Nat → Nat → Option (List Nat × Nat)
  | [], a => some ([], a)
  | g :: gs, a => if a + 16 ≤ 8 * s.size ∧ num (row s a 16) ≠ 0 then (getG s gs (a + 16)).map (fun r => ((places (num (row s a 16))).map (fun p => 16 * g + p) ++ r.1, r.2)) else none
/-- A set read from bits. -/
def getU (s : ByteArray) (a : Nat) : Option (List Nat × Nat) := if a + 16 ≤ 8 * s.size ∧ num (row s a 16) ≠ 0 then getG s (places (num (row s a 16))) (a + 16) else none

theorem flat_congr {α β : Type} {f g : α → List β} {l : List α} (h : ∀ a ∈ l, f a = g a) : l.flatMap f = l.flatMap g := by
  induction l with
  | nil => rfl
  | cons a l ih => rw [List.flatMap_cons, List.flatMap_cons, h a (List.mem_cons_self ..), ih (fun b hb => h b (List.mem_cons_of_mem _ hb))]
theorem flat_filter {α β : Type} (P : α → Bool) (f : α → List β) (l : List α) : (l.filter P).flatMap f = l.flatMap (fun g => if P g = true then f g else []) := by
  induction l with
  | nil => rfl
  | cons a l ih =>
    rw [List.filter_cons]
    split
    · rename_i h; rw [List.flatMap_cons, List.flatMap_cons, ih, if_pos h]
    · rename_i h; rw [List.flatMap_cons, ih, if_neg h, List.nil_append]
theorem mask_bit {l : List Nat} (hl : l.length = 16) (h : ∀ b ∈ l, b < 2) (p : Nat) (hp : p < 16) : num l / 2 ^ (15 - p) % 2 = l.getD p 0 := by
  have h1 := nbits_num7 l h
  rw [hl] at h1
  have h2 := nbits_get (num l) 16 p hp
  rw [h1] at h2
  rw [h2]
theorem places_num {l : List Nat} (hl : l.length = 16) (h : ∀ b ∈ l, b < 2) : places (num l) = (List.range 16).filter fun p => decide (l.getD p 0 = 1) := by
  unfold places
  apply List.filter_congr
  intro p hp
  rw [List.mem_range] at hp
  rw [mask_bit hl h p hp]
theorem num_zero_not {l : List Nat} (hl : l.length = 16) (h : ∀ b ∈ l, b < 2) (h1 : 1 ∈ l) : num l ≠ 0 := by
  intro h0
  have h2 := nbits_num7 l h
  rw [h0, hl] at h2
  rw [← h2] at h1
  simp [nbits] at h1
theorem mem16_get (u : List Nat) (g p : Nat) (hp : p < 16) : (mem16 u g).getD p 0 = if 16 * g + p ∈ u then 1 else 0 := by simp [mem16, List.getD_eq_getElem?_getD, hp]
theorem has16_iff (u : List Nat) (g : Nat) : has16 u g = 1 ↔ ∃ p, p < 16 ∧ 16 * g + p ∈ u := by
  unfold has16
  have : 1 ∈ mem16 u g ↔ ∃ p, p < 16 ∧ 16 * g + p ∈ u := by
    simp only [mem16, List.mem_map, List.mem_range]
    constructor
    · rintro ⟨p, hp, h⟩
      refine ⟨p, hp, ?_⟩
      split at h
      · assumption
      · omega
    · rintro ⟨p, hp, h⟩
      exact ⟨p, hp, by rw [if_pos h]⟩
  rw [← this]
  split <;> simp_all
theorem getG_put (s : ByteArray) (u : List Nat) : ∀ (gs : List Nat) (a : Nat), (∀ g ∈ gs, has16 u g = 1) → a + (gs.flatMap (mem16 u)).length ≤ 8 * s.size → row s a (gs.flatMap (mem16 u)).length = gs.flatMap (mem16 u) →
    getG s gs a = some (gs.flatMap (fun g => ((List.range 16).filter fun p => decide (16 * g + p ∈ u)).map (fun p => 16 * g + p)), a + (gs.flatMap (mem16 u)).length) := by
  intro gs
  induction gs with
  | nil => intro a _ _ _; rfl
  | cons g gs ih =>
    intro a hg ha hr
    simp only [List.flatMap_cons, List.length_append, mem16_len] at ha hr ⊢
    rw [row_add] at hr
    have hr1 := (List.append_inj hr (by rw [row_len, mem16_len])).1
    have hr2 := (List.append_inj hr (by rw [row_len, mem16_len])).2
    have h3 := ih (a + 16) (fun g h => hg g (List.mem_cons_of_mem _ h)) (by omega) hr2
    have h1 : 1 ∈ mem16 u g := by
      have := hg g (List.mem_cons_self ..)
      unfold has16 at this
      split at this
      · assumption
      · omega
    unfold getG
    rw [hr1, if_pos ⟨by omega, num_zero_not (mem16_len u g) (mem16_lt u g) h1⟩, h3, places_num (mem16_len u g) (mem16_lt u g)]
    simp only [Option.map_some, List.flatMap_cons, Option.some.injEq, Prod.mk.injEq]
    refine ⟨?_, by omega⟩
    congr 2
    apply List.filter_congr
    intro p hp
    rw [List.mem_range] at hp
    rw [mem16_get u g p hp]
    split <;> simp_all
theorem range256 : List.range 256 = (List.range 16).flatMap (fun g => (List.range 16).map (fun p => 16 * g + p)) := by decide +kernel
theorem used_groups {u : List Nat} (hb : Byt u) : ((List.range 16).filter (fun g => decide (has16 u g = 1))).flatMap (fun g => ((List.range 16).filter fun p => decide (16 * g + p ∈ u)).map (fun p => 16 * g + p)) = usedL u := by
  rw [flat_filter]
  unfold usedL usedTo
  rw [range256, List.filter_flatMap]
  apply flat_congr
  intro g hg
  rw [List.filter_map]
  have e : ((List.range 16).filter fun p => decide (16 * g + p ∈ u)) = (List.range 16).filter ((fun b => decide (0 < List.count b u)) ∘ fun p => 16 * g + p) := by
    apply List.filter_congr
    intro p _
    simp [List.count_pos_iff]
  rw [← e]
  by_cases h : has16 u g = 1
  · simp [h]
  · rw [if_neg (by simpa using h)]
    have : ((List.range 16).filter fun p => decide (16 * g + p ∈ u)) = [] := by
      rw [List.filter_eq_nil_iff]
      intro p hp hh
      rw [List.mem_range] at hp
      exact h ((has16_iff u g).2 ⟨p, hp, by simpa using hh⟩)
    rw [this]; rfl
theorem usedHead_len (u : List Nat) : (usedHead u).length = 16 := by simp [usedHead]
theorem usedHead_lt (u : List Nat) : ∀ b ∈ usedHead u, b < 2 := by
  intro b h
  simp only [usedHead, List.mem_map] at h
  obtain ⟨g, _, rfl⟩ := h
  exact has16_lt u g
theorem usedHead_get (u : List Nat) (g : Nat) (hg : g < 16) : (usedHead u).getD g 0 = has16 u g := by simp [usedHead, List.getD_eq_getElem?_getD, hg]
theorem used_some {u : List Nat} (hb : Byt u) (h0 : u ≠ []) : ∃ g, g < 16 ∧ has16 u g = 1 := by
  obtain ⟨b, hbu⟩ := List.exists_mem_of_ne_nil u h0
  have := hb b hbu
  exact ⟨b / 16, by omega, (has16_iff u _).2 ⟨b % 16, by omega, by rwa [Nat.div_add_mod]⟩⟩
theorem getU_put {s : ByteArray} {u : List Nat} {a : Nat} (hb : Byt u) (hu : setOk u = true) (ha : a + (usedBits u).length ≤ 8 * s.size) (hr : row s a (usedBits u).length = usedBits u) : getU s a = some (u, a + (usedBits u).length) := by
  have hu2 := (setOk_iff u).1 hu
  have hR : usedRest u 16 = ((List.range 16).filter (fun g => decide (has16 u g = 1))).flatMap (mem16 u) := by
    rw [flat_filter]
    unfold usedRest
    apply flat_congr
    intro g _
    unfold grp16
    simp
  have hP : places (num (usedHead u)) = (List.range 16).filter (fun g => decide (has16 u g = 1)) := by
    rw [places_num (usedHead_len u) (usedHead_lt u)]
    apply List.filter_congr
    intro g hg
    rw [List.mem_range] at hg
    rw [usedHead_get u g hg]
  have h1 : 1 ∈ usedHead u := by
    obtain ⟨g, hg, h⟩ := used_some hb hu2.1
    rw [← h]
    exact List.mem_map_of_mem (List.mem_range.2 hg)
  unfold usedBits at ha hr ⊢
  rw [List.length_append, usedHead_len] at ha hr ⊢
  rw [row_add] at hr
  have hr1 := (List.append_inj hr (by rw [row_len, usedHead_len])).1
  have hr2 := (List.append_inj hr (by rw [row_len, usedHead_len])).2
  unfold getU
  rw [hr1, if_pos ⟨by omega, num_zero_not (usedHead_len u) (usedHead_lt u) h1⟩, hP]
  rw [hR] at ha hr2 ⊢
  rw [getG_put s u _ (a + 16) (fun g hg => by simpa using (List.mem_filter.1 hg).2) (by omega) hr2, used_groups hb, hu2.2, Nat.add_assoc]

/-- The places from g on. -/
def placesFrom (m g : Nat) : List Nat := (List.range' g (16 - g)).filter fun p => decide (m / 2 ^ (15 - p) % 2 = 1)
theorem placesFrom_zero (m : Nat) : placesFrom m 0 = places m := by unfold placesFrom places; rw [List.range_eq_range']
theorem placesFrom_end (m : Nat) : placesFrom m 16 = [] := rfl
theorem placesFrom_step (m g : Nat) (h : g < 16) : placesFrom m g = if m / 2 ^ (15 - g) % 2 = 1 then g :: placesFrom m (g + 1) else placesFrom m (g + 1) := by
  unfold placesFrom
  rw [show 16 - g = (16 - (g + 1)) + 1 by omega, List.range'_succ, List.filter_cons]
  simp
/-- The first places, up to p. -/
def placesTo (m p : Nat) : List Nat := (List.range p).filter fun p => decide (m / 2 ^ (15 - p) % 2 = 1)
theorem placesTo_succ (m p : Nat) : placesTo m (p + 1) = if m / 2 ^ (15 - p) % 2 = 1 then placesTo m p ++ [p] else placesTo m p := by
  unfold placesTo
  rw [List.range_succ, List.filter_append]
  split <;> simp_all
theorem placesTo_len (m p : Nat) : (placesTo m p).length ≤ p := by
  unfold placesTo
  have := List.length_filter_le (fun q => decide (m / 2 ^ (15 - q) % 2 = 1)) (List.range p)
  simpa using this
theorem places_ne {s : ByteArray} {a : Nat} (h : num (row s a 16) ≠ 0) : places (num (row s a 16)) ≠ [] := by
  intro e
  apply h
  rw [num_zero_bits]
  intro i hi
  rw [places_num (row_len s a 16) (row_bits s a 16), List.filter_eq_nil_iff] at e
  have h1 := e i (List.mem_range.2 hi)
  have h2 := bit_lt s (a + i)
  have h3 : (row s a 16).getD i 0 = bit s (a + i) := by simp [row, List.getD_eq_getElem?_getD, hi]
  rw [h3] at h1
  simp at h1
  omega
theorem getG_le {s : ByteArray} : ∀ {gs : List Nat} {a : Nat} {u : List Nat} {e : Nat}, a ≤ 8 * s.size → getG s gs a = some (u, e) → e ≤ 8 * s.size ∧ (gs ≠ [] → u ≠ []) := by
  intro gs
  induction gs with
  | nil =>
    intro a u e ha h
    simp only [getG, Option.some.injEq, Prod.mk.injEq] at h
    obtain ⟨rfl, rfl⟩ := h
    exact ⟨ha, fun h => absurd rfl h⟩
  | cons g gs ih =>
    intro a u e ha h
    unfold getG at h
    split at h
    · rename_i hc
      rw [Option.map_eq_some_iff] at h
      obtain ⟨⟨u2, e2⟩, h1, h2⟩ := h
      simp only [Prod.mk.injEq] at h2
      obtain ⟨rfl, rfl⟩ := h2
      refine ⟨(ih (by omega) h1).1, fun _ h3 => ?_⟩
      have h4 := (List.append_eq_nil_iff.1 h3).1
      exact places_ne hc.2 (List.map_eq_nil_iff.1 h4)
    · cases h
theorem getU_some {s : ByteArray} {a : Nat} {u : List Nat} {e : Nat} (h : getU s a = some (u, e)) : e ≤ 8 * s.size ∧ u ≠ [] := by
  unfold getU at h
  split at h
  · rename_i hc
    have h1 := getG_le (by omega) h
    exact ⟨h1.1, h1.2 (places_ne hc.2)⟩
  · cases h
theorem getG_no {s : ByteArray} {gs : List Nat} {g a : Nat} (h : ¬ (a + 16 ≤ 8 * s.size ∧ num (row s a 16) ≠ 0)) : getG s (g :: gs) a = none := by unfold getG; rw [if_neg h]
theorem getG_yes {s : ByteArray} {gs : List Nat} {g a : Nat} (h1 : a + 16 ≤ 8 * s.size) (h2 : num (row s a 16) ≠ 0) : getG s (g :: gs) a = (getG s gs (a + 16)).map (fun r => ((places (num (row s a 16))).map (fun p => 16 * g + p) ++ r.1, r.2)) := by
  conv => lhs; unfold getG
  rw [if_pos ⟨h1, h2⟩]
theorem map_map_app {o : Option (List Nat × Nat)} (A B : List Nat) : (o.map (fun r => (B ++ r.1, r.2))).map (fun r => (A ++ r.1, r.2)) = o.map (fun r => (A ++ B ++ r.1, r.2)) := by
  cases o with
  | none => rfl
  | some r => simp
theorem map_cons_app {o : Option (List Nat × Nat)} (A : List Nat) (x : Nat) : (o.map (fun r => (x :: r.1, r.2))).map (fun r => (A ++ r.1, r.2)) = o.map (fun r => ((A ++ [x]) ++ r.1, r.2)) := by
  cases o with
  | none => rfl
  | some r => simp
theorem map_app_nil (o : Option (List Nat × Nat)) : o.map (fun r => (([] : List Nat) ++ r.1, r.2)) = o := by cases o <;> rfl
end Go.Proofs.Ytpdicijoohahaaa
namespace Go.Proofs.Ytpdicijoohahaaa
set_option linter.unusedVariables false
set_option linter.unusedSimpArgs false
open Go.RowKit

end Go.Proofs.Ytpdicijoohahaaa
namespace Go.Proofs.Ytpdicijoohahaaa
set_option linter.unusedVariables false
set_option linter.unusedSimpArgs false
open Go.RowKit

end Go.Proofs.Ytpdicijoohahaaa
namespace Go.Proofs.Ytpdicijoohahaaa
set_option linter.unusedVariables false
set_option linter.unusedSimpArgs false

/-- The digits of a run of k, each less one (f: at least as many steps as there are digits). -/
def rsG : Nat → Nat → List Nat
  | 0, _ => []
  | f + 1, k => if k = 0 then [] else ((k - 1) % 2) :: rsG f ((k - 1) / 2)
def rsF (k : Nat) : List Nat := rsG k k
theorem rsG_more : ∀ (f g k : Nat), k ≤ f → k ≤ g → rsG f k = rsG g k
  | 0, 0, _, _, _ => rfl
  | 0, g + 1, k, h, _ => by
    have : k = 0 := by omega
    subst this; simp [rsG]
  | f + 1, 0, k, _, h => by
    have : k = 0 := by omega
    subst this; simp [rsG]
  | f + 1, g + 1, k, h1, h2 => by
    unfold rsG
    by_cases hk : k = 0
    · rw [if_pos hk, if_pos hk]
    · rw [if_neg hk, if_neg hk, rsG_more f g ((k - 1) / 2) (by omega) (by omega)]
theorem rsF_zero : rsF 0 = [] := rfl
theorem rsF_pos {k : Nat} (h : 0 < k) : rsF k = ((k - 1) % 2) :: rsF ((k - 1) / 2) := by
  obtain ⟨q, rfl⟩ : ∃ q, k = q + 1 := ⟨k - 1, by omega⟩
  show rsG (q + 1) (q + 1) = _
  unfold rsG
  rw [if_neg (by omega)]
  unfold rsF
  rw [rsG_more q ((q + 1 - 1) / 2) ((q + 1 - 1) / 2) (by omega) (Nat.le_refl _)]
theorem rsF_lt (k : Nat) : ∀ d ∈ rsF k, d < 2 := by
  induction k using Nat.strongRecOn with
  | ind k ih =>
    rcases Nat.eq_zero_or_pos k with rfl | h
    · simp [rsF_zero]
    · rw [rsF_pos h]
      intro d hd
      rcases List.mem_cons.1 hd with rfl | hd
      · omega
      · exact ih _ (by omega) d hd
theorem rsF_len (k : Nat) : (rsF k).length ≤ k := by
  induction k using Nat.strongRecOn with
  | ind k ih =>
    rcases Nat.eq_zero_or_pos k with rfl | h
    · simp [rsF_zero]
    · rw [rsF_pos h, List.length_cons]
      have := ih ((k - 1) / 2) (by omega)
      omega
theorem rsF_ne {k : Nat} (h : 0 < k) : rsF k ≠ [] := by rw [rsF_pos h]; simp

/-- How long a run of such digits is. -/
def vF : List Nat → Nat
  | [] => 0
  | d :: ds => d + 1 + 2 * vF ds
theorem vF_rsF (k : Nat) : vF (rsF k) = k := by
  induction k using Nat.strongRecOn with
  | ind k ih =>
    rcases Nat.eq_zero_or_pos k with rfl | h
    · rfl
    · rw [rsF_pos h, vF, ih _ (by omega)]; omega
theorem rsF_vF : ∀ (ds : List Nat), (∀ d ∈ ds, d < 2) → rsF (vF ds) = ds
  | [], _ => rfl
  | d :: ds, h => by
    have hd := h d (List.mem_cons_self ..)
    have e0 : vF (d :: ds) = d + 1 + 2 * vF ds := rfl
    rw [rsF_pos (by omega)]
    have e1 : (vF (d :: ds) - 1) % 2 = d := by omega
    have e2 : (vF (d :: ds) - 1) / 2 = vF ds := by omega
    rw [e1, e2, rsF_vF ds (fun q hq => h q (List.mem_cons_of_mem _ hq))]
theorem vF_append : ∀ (ds es : List Nat), vF (ds ++ es) = vF ds + 2 ^ ds.length * vF es
  | [], es => by simp [vF]
  | d :: ds, es => by
    rw [List.cons_append, vF, vF, vF_append ds es, List.length_cons, Nat.pow_succ, Nat.mul_add, Nat.mul_comm (2 ^ ds.length) 2, Nat.mul_assoc]
    omega
theorem vF_snoc (ds : List Nat) (d : Nat) : vF (ds ++ [d]) = vF ds + (d + 1) * 2 ^ ds.length := by
  rw [vF_append]; simp [vF, Nat.mul_comm]
theorem vF_pow : ∀ (ds : List Nat), 2 ^ ds.length ≤ vF ds + 1
  | [] => by simp [vF]
  | d :: ds => by
    have h1 := vF_pow ds
    have e0 : vF (d :: ds) = d + 1 + 2 * vF ds := rfl
    rw [List.length_cons, Nat.pow_succ]; omega
theorem vF_take (ds : List Nat) (k : Nat) : vF (ds.take k) ≤ vF ds := by
  conv => rhs; rw [← List.take_append_drop k ds, vF_append]
  exact Nat.le_add_right _ _
theorem vF_zero {ds : List Nat} (h : vF ds = 0) : ds = [] := by
  cases ds with
  | nil => rfl
  | cons d ds => unfold vF at h; omega
theorem vF_small {ds : List Nat} (h : vF ds ≤ 600) : ds.length ≤ 9 := by
  rcases Nat.lt_or_ge ds.length 10 with h1 | h1
  · omega
  · have h2 := vF_pow ds
    have h3 : 2 ^ 10 ≤ 2 ^ ds.length := Nat.pow_le_pow_right (by omega) h1
    have : (2 : Nat) ^ 10 = 1024 := rfl
    omega

/-- Are these the digits of a run? -/
def rlOk (z : List Int) : Bool := decide (z ≠ [] ∧ (∀ x ∈ z, x = 0 ∨ x = 1) ∧ vF (z.map Int.toNat) ≤ 600)
theorem rlOk_iff (z : List Int) : rlOk z = true ↔ z ≠ [] ∧ (∀ x ∈ z, x = 0 ∨ x = 1) ∧ vF (z.map Int.toNat) ≤ 600 := by simp [rlOk]
/-- How long it is; -1: it is none. -/
def rlZ (z : List Int) : Int := if rlOk z = true then (vF (z.map Int.toNat) : Int) else -1
theorem rlZ_yes {z : List Int} (h : rlOk z = true) : rlZ z = (vF (z.map Int.toNat) : Int) := by unfold rlZ; rw [if_pos h]
theorem rlZ_no {z : List Int} (h : ¬ rlOk z = true) : rlZ z = -1 := by unfold rlZ; rw [if_neg h]
theorem rlOk_pos {z : List Int} (h : rlOk z = true) : 0 < vF (z.map Int.toNat) := by
  have h1 := ((rlOk_iff z).1 h).1
  rcases Nat.eq_zero_or_pos (vF (z.map Int.toNat)) with h0 | h0
  · exact absurd (List.map_eq_nil_iff.1 (vF_zero h0)) h1
  · exact h0
theorem rlZ_pos {z : List Int} : 0 < rlZ z ↔ rlOk z = true := by
  by_cases h : rlOk z = true
  · rw [rlZ_yes h]; have := rlOk_pos h; exact ⟨fun _ => h, fun _ => by omega⟩
  · rw [rlZ_no h]; exact ⟨fun h2 => by omega, fun h2 => absurd h2 h⟩
theorem rlZ_le (z : List Int) : -1 ≤ rlZ z ∧ rlZ z ≤ 600 := by
  by_cases h : rlOk z = true
  · rw [rlZ_yes h]; have := ((rlOk_iff z).1 h).2.2; omega
  · rw [rlZ_no h]; omega
/-- What RunSyms answers. -/
def rsZ (k : Int) : List Int := if 1 ≤ k ∧ k ≤ 600 then ints (rsF k.toNat) else []
theorem rsZ_yes {k : Nat} (h1 : 1 ≤ k) (h2 : k ≤ 600) : rsZ k = ints (rsF k) := by unfold rsZ; rw [if_pos (by omega), Int.toNat_natCast]
theorem rsZ_no {k : Int} (h : ¬ (1 ≤ k ∧ k ≤ 600)) : rsZ k = [] := by unfold rsZ; rw [if_neg h]
theorem digits_ints {z : List Int} (h : ∀ x ∈ z, x = 0 ∨ x = 1) : z = ints (z.map Int.toNat) ∧ ∀ d ∈ z.map Int.toNat, d < 2 := by
  constructor
  · unfold ints
    rw [List.map_map]
    conv => lhs; rw [← List.map_id z]
    apply List.map_congr_left
    intro x hx
    have := h x hx
    simp only [id, Function.comp]
    omega
  · intro d hd
    obtain ⟨x, hx, rfl⟩ := List.mem_map.1 hd
    have := h x hx
    omega
theorem rs_rl {k : Nat} (h1 : 1 ≤ k) (h2 : k ≤ 600) : rlOk (ints (rsF k)) = true ∧ rlZ (ints (rsF k)) = k := by
  have hok : rlOk (ints (rsF k)) = true := by
    rw [rlOk_iff, ints_toNat, vF_rsF]
    refine ⟨fun e => rsF_ne h1 (List.map_eq_nil_iff.1 e), fun x hx => ?_, h2⟩
    obtain ⟨d, hd, rfl⟩ := List.mem_map.1 hx
    have := rsF_lt k d hd
    omega
  exact ⟨hok, by rw [rlZ_yes hok, ints_toNat, vF_rsF]⟩
theorem rl_rs {z : List Int} (h : rlOk z = true) : rsZ (rlZ z) = z := by
  have h1 := (rlOk_iff z).1 h
  have h2 := digits_ints h1.2.1
  have h3 := rlOk_pos h
  rw [rlZ_yes h, rsZ_yes h3 h1.2.2, rsF_vF _ h2.2]
  exact h2.1.symm

/-- Zeros by their digits, the others one more; r zeros stand ahead. -/
def packF : Nat → List Nat → List Nat
  | r, [] => rsF r
  | r, 0 :: l => packF (r + 1) l
  | r, (x + 1) :: l => rsF r ++ (x + 2) :: packF 0 l
theorem packF_nil (r : Nat) : packF r [] = rsF r := by rw [packF]
theorem packF_zero (r : Nat) (l : List Nat) : packF r (0 :: l) = packF (r + 1) l := by rw [packF]
theorem packF_pos (r : Nat) {x : Nat} (h : 0 < x) (l : List Nat) : packF r (x :: l) = rsF r ++ (x + 1) :: packF 0 l := by
  obtain ⟨q, rfl⟩ : ∃ q, x = q + 1 := ⟨x - 1, by omega⟩
  rw [packF]
theorem packF_len : ∀ (l : List Nat) (r : Nat), (packF r l).length ≤ r + l.length
  | [], r => by rw [packF_nil]; have := rsF_len r; simpa using this
  | 0 :: l, r => by rw [packF_zero, List.length_cons]; have := packF_len l (r + 1); omega
  | (x + 1) :: l, r => by
    rw [packF_pos r (by omega), List.length_append, List.length_cons, List.length_cons]
    have := packF_len l 0
    have := rsF_len r
    omega
theorem packF_le (m : Nat) : ∀ (l : List Nat) (r : Nat), (∀ x ∈ l, x < m) → ∀ y ∈ packF r l, y ≤ m + 1
  | [], r, _, y, hy => by rw [packF_nil] at hy; have := rsF_lt r y hy; omega
  | 0 :: l, r, h, y, hy => by rw [packF_zero] at hy; exact packF_le m l (r + 1) (fun x hx => h x (List.mem_cons_of_mem _ hx)) y hy
  | (x + 1) :: l, r, h, y, hy => by
    rw [packF_pos r (by omega)] at hy
    rcases List.mem_append.1 hy with hy | hy
    · have := rsF_lt r y hy; omega
    · rcases List.mem_cons.1 hy with rfl | hy
      · have := h (x + 1) (List.mem_cons_self ..); omega
      · exact packF_le m l 0 (fun x hx => h x (List.mem_cons_of_mem _ hx)) y hy
/-- What PackRuns answers. -/
def packZ (z : List Int) (n : Int) : List Int := if rOk z n = true then ints (packF 0 (z.map Int.toNat) ++ [n.toNat + 1]) else []
theorem packZ_yes {L : List Nat} {m : Nat} (h : rOk (ints L) m = true) : packZ (ints L) m = ints (packF 0 L ++ [m + 1]) := by
  unfold packZ; rw [if_pos h, ints_toNat]; rfl
theorem packZ_no {z : List Int} {n : Int} (h : rOk z n = false) : packZ z n = [] := by unfold packZ; rw [h]; rfl

/-- What digits stand for: zeros; none where they are no run (no digit: no zero). -/
def zerF (d : List Int) : Option (List Nat) := if d = [] then some [] else if rlOk d = true then some (List.replicate (vF (d.map Int.toNat)) 0) else none
/-- Symbols unpacked, the digits d standing ahead. -/
def unF (n : Int) : List Int → List Int → Option (List Nat)
  | d, [] => zerF d
  | d, x :: xs => if x = 0 ∨ x = 1 then unF n (d ++ [x]) xs else
    match zerF d with
    | none => none
    | some a => if 2 ≤ x ∧ x ≤ n then (unF n [] xs).map (fun y => a ++ (x - 1).toNat :: y) else none
theorem unF_digit {n : Int} {d : List Int} {x : Int} (xs : List Int) (h : x = 0 ∨ x = 1) : unF n d (x :: xs) = unF n (d ++ [x]) xs := by rw [unF, if_pos h]
theorem unF_no {n : Int} {d : List Int} {x : Int} (xs : List Int) (h : ¬ (x = 0 ∨ x = 1)) (h2 : ¬ (2 ≤ x ∧ x ≤ n)) : unF n d (x :: xs) = none := by
  rw [unF, if_neg h]
  cases zerF d with
  | none => rfl
  | some a => simp only; rw [if_neg h2]
theorem unF_bad {n : Int} {d : List Int} {x : Int} (xs : List Int) (h : ¬ (x = 0 ∨ x = 1)) (h2 : zerF d = none) : unF n d (x :: xs) = none := by
  rw [unF, if_neg h, h2]
theorem unF_yes {n : Int} {d : List Int} {x : Int} {a : List Nat} (xs : List Int) (h : 2 ≤ x ∧ x ≤ n) (h2 : zerF d = some a) : unF n d (x :: xs) = (unF n [] xs).map (fun y => a ++ (x - 1).toNat :: y) := by
  rw [unF, if_neg (by omega), h2]
  simp only
  rw [if_pos h]
theorem unF_digits {n : Int} : ∀ (c d xs : List Int), (∀ x ∈ c, x = 0 ∨ x = 1) → unF n d (c ++ xs) = unF n (d ++ c) xs
  | [], d, xs, _ => by simp
  | x :: c, d, xs, h => by
    rw [List.cons_append, unF_digit _ (h x (List.mem_cons_self ..)), unF_digits c (d ++ [x]) xs (fun y hy => h y (List.mem_cons_of_mem _ hy))]
    simp
theorem zerF_nil : zerF [] = some [] := by simp [zerF]
theorem zerF_rs {k : Nat} (h : k ≤ 600) : zerF (ints (rsF k)) = some (List.replicate k 0) := by
  rcases Nat.eq_zero_or_pos k with rfl | h0
  · simp [rsF_zero, ints, zerF]
  · have := rs_rl h0 h
    unfold zerF
    have hne : ¬ ints (rsF k) = [] := fun e => rsF_ne h0 (List.map_eq_nil_iff.1 e)
    rw [if_neg hne, if_pos this.1, ints_toNat, vF_rsF]
theorem zerF_some {d : List Int} {a : List Nat} (h : zerF d = some a) : (∀ x ∈ d, x = 0 ∨ x = 1) ∧ a = List.replicate (vF (d.map Int.toNat)) 0 ∧ vF (d.map Int.toNat) ≤ 600 := by
  unfold zerF at h
  by_cases h0 : d = []
  · subst h0
    simp at h
    subst h
    simp [vF]
  · rw [if_neg h0] at h
    by_cases h1 : rlOk d = true
    · rw [if_pos h1] at h
      have := (rlOk_iff d).1 h1
      exact ⟨this.2.1, (Option.some.inj h).symm, this.2.2⟩
    · rw [if_neg h1] at h; cases h
theorem zerF_cons {d : List Int} (h : d ≠ []) : zerF d = if 0 < rlZ d then some (List.replicate (rlZ d).toNat 0) else none := by
  unfold zerF
  rw [if_neg h]
  by_cases h1 : rlOk d = true
  · rw [if_pos h1, if_pos (rlZ_pos.2 h1), rlZ_yes h1, Int.toNat_natCast]
  · rw [if_neg h1, if_neg (fun h2 => h1 (rlZ_pos.1 h2))]
/-- Unpacking inverts packing. -/
theorem un_pack {n : Int} : ∀ (L : List Nat) (r : Nat), r + L.length ≤ 600 → (∀ x ∈ L, (x : Int) < n) → unF n [] (ints (packF r L)) = some (List.replicate r 0 ++ L)
  | [], r, h, _ => by
    rw [packF_nil]
    have := unF_digits (n := n) (ints (rsF r)) [] [] (fun x hx => by
      obtain ⟨d, hd, rfl⟩ := List.mem_map.1 hx
      have := rsF_lt r d hd
      omega)
    rw [List.append_nil, List.nil_append] at this
    rw [this, unF, zerF_rs (by simpa using h), List.append_nil]
  | 0 :: l, r, h, hl => by
    rw [packF_zero, un_pack l (r + 1) (by simp only [List.length_cons] at h; omega) (fun x hx => hl x (List.mem_cons_of_mem _ hx)), List.replicate_succ']
    simp
  | (x + 1) :: l, r, h, hl => by
    have hx := hl (x + 1) (List.mem_cons_self ..)
    simp only [List.length_cons] at h
    rw [packF_pos r (by omega)]
    have e : ints (rsF r ++ (x + 1 + 1) :: packF 0 l) = ints (rsF r) ++ ((x : Int) + 2) :: ints (packF 0 l) := by
      simp [ints]; omega
    rw [e, unF_digits (ints (rsF r)) [] _ (fun y hy => by
      obtain ⟨d, hd, rfl⟩ := List.mem_map.1 hy
      have := rsF_lt r d hd
      omega), List.nil_append, unF_yes _ (by omega) (zerF_rs (by omega)), un_pack l 0 (by omega) (fun x hx => hl x (List.mem_cons_of_mem _ hx))]
    have e3 : ((x : Int) + 2 - 1).toNat = x + 1 := by omega
    simp [e3]
theorem packF_reps : ∀ (k r : Nat) (l : List Nat), packF r (List.replicate k 0 ++ l) = packF (r + k) l
  | 0, r, l => by simp
  | k + 1, r, l => by
    rw [List.replicate_succ, List.cons_append, packF_zero, packF_reps k (r + 1) l]
    congr 1; omega
/-- Only packed forms are accepted. -/
theorem pack_un {n : Int} : ∀ (z d : List Int) (y : List Nat), unF n d z = some y → (∀ x ∈ d, x = 0 ∨ x = 1) → ints (packF 0 y) = d ++ z ∧ ∀ x ∈ y, (x : Int) < n ∨ x = 0
  | [], d, y, h, hd => by
    rw [unF] at h
    obtain ⟨_, rfl, _⟩ := zerF_some h
    have h2 := digits_ints hd
    have := packF_reps (vF (d.map Int.toNat)) 0 []
    rw [List.append_nil, Nat.zero_add, packF_nil, rsF_vF _ h2.2] at this
    rw [this, List.append_nil]
    exact ⟨h2.1.symm, fun x hx => .inr (List.eq_of_mem_replicate hx)⟩
  | x :: xs, d, y, h, hd => by
    by_cases hx : x = 0 ∨ x = 1
    · rw [unF_digit _ hx] at h
      have := pack_un xs (d ++ [x]) y h (fun q hq => by
        rcases List.mem_append.1 hq with hq | hq
        · exact hd q hq
        · rw [List.mem_singleton.1 hq]; exact hx)
      simpa using this
    · cases hz : zerF d with
      | none => rw [unF_bad _ hx hz] at h; cases h
      | some a =>
        by_cases hn : 2 ≤ x ∧ x ≤ n
        · rw [unF_yes _ hn hz] at h
          cases hu : unF n [] xs with
          | none => rw [hu] at h; cases h
          | some v =>
            rw [hu] at h
            obtain rfl := (Option.some.inj h).symm
            obtain ⟨_, rfl, _⟩ := zerF_some hz
            have h2 := digits_ints hd
            obtain ⟨e, hv⟩ := pack_un xs [] v hu (fun q hq => by cases hq)
            rw [packF_reps, Nat.zero_add, packF_pos _ (by omega), rsF_vF _ h2.2]
            constructor
            · have e2 : ints (d.map Int.toNat ++ ((x - 1).toNat + 1) :: packF 0 v) = ints (d.map Int.toNat) ++ (((x - 1).toNat + 1 : Nat) : Int) :: ints (packF 0 v) := by simp [ints]
              rw [e2, e, ← h2.1]
              congr 2
              omega
            · intro q hq
              rcases List.mem_append.1 hq with hq | hq
              · exact .inr (List.eq_of_mem_replicate hq)
              · rcases List.mem_cons.1 hq with rfl | hq
                · exact .inl (by omega)
                · exact hv q hq
        · rw [unF_no _ hx hn] at h; cases h
/-- Is it a packed form, and no longer than it may be? What of. -/
def upA (z : List Int) (n most : Int) : Option (List Nat) :=
  if 1 ≤ n ∧ n ≤ 256 ∧ z ≠ [] ∧ z.getD (z.length - 1) 0 = n + 1 then
    match unF n [] z.dropLast with
    | none => none
    | some y => if (y.length : Int) ≤ most ∧ y.length ≤ 600 then some y else none
  else none
def upL (z : List Int) (n most : Int) : List Int := ints ((upA z n most).getD [])
def upOk (z : List Int) (n most : Int) : Bool := (upA z n most).isSome
theorem upA_no {z : List Int} {n most : Int} (h : ¬ (1 ≤ n ∧ n ≤ 256 ∧ z ≠ [] ∧ z.getD (z.length - 1) 0 = n + 1)) : upA z n most = none := by unfold upA; rw [if_neg h]
theorem upA_none {z : List Int} {n most : Int} (h : unF n [] z.dropLast = none) : upA z n most = none := by unfold upA; rw [h]; split <;> rfl
theorem upA_long {z : List Int} {n most : Int} {y : List Nat} (h : unF n [] z.dropLast = some y) (h2 : ¬ ((y.length : Int) ≤ most ∧ y.length ≤ 600)) : upA z n most = none := by
  unfold upA; rw [h]; simp only; rw [if_neg h2]; split <;> rfl
theorem upA_yes {z : List Int} {n most : Int} {y : List Nat} (h0 : 1 ≤ n ∧ n ≤ 256 ∧ z ≠ [] ∧ z.getD (z.length - 1) 0 = n + 1) (h : unF n [] z.dropLast = some y) (h2 : (y.length : Int) ≤ most ∧ y.length ≤ 600) : upA z n most = some y := by
  unfold upA; rw [if_pos h0, h]; simp only; rw [if_pos h2]
theorem upA_some {z : List Int} {n most : Int} {y : List Nat} (h : upA z n most = some y) : (1 ≤ n ∧ n ≤ 256 ∧ z ≠ [] ∧ z.getD (z.length - 1) 0 = n + 1) ∧ unF n [] z.dropLast = some y ∧ (y.length : Int) ≤ most ∧ y.length ≤ 600 := by
  by_cases h0 : 1 ≤ n ∧ n ≤ 256 ∧ z ≠ [] ∧ z.getD (z.length - 1) 0 = n + 1
  · cases hu : unF n [] z.dropLast with
    | none => rw [upA_none hu] at h; cases h
    | some v =>
      by_cases h2 : (v.length : Int) ≤ most ∧ v.length ≤ 600
      · rw [upA_yes h0 hu h2] at h
        obtain rfl := Option.some.inj h
        exact ⟨h0, rfl, h2⟩
      · rw [upA_long hu h2] at h; cases h
  · rw [upA_no h0] at h; cases h
theorem dropLast_last {z : List Int} (h : z ≠ []) : z.dropLast ++ [z.getD (z.length - 1) 0] = z := by
  have h2 : z.getD (z.length - 1) 0 = z.getLast h := by
    have : z.length - 1 < z.length := by
      have := List.length_pos_iff.2 h
      omega
    simp [List.getD_eq_getElem?_getD, List.getLast_eq_getElem, this]
  rw [h2, List.dropLast_concat_getLast]
/-- What law FnPacks asks, of lists. -/
theorem up_pack {L : List Nat} {m : Nat} (h : rOk (ints L) m = true) (hl : L.length ≤ 600) (hm1 : 1 ≤ m) (hm2 : m ≤ 256) (hL : ∀ x ∈ L, x < m) : upA (packZ (ints L) m) m L.length = some L := by
  rw [packZ_yes h]
  have hne : ints (packF 0 L ++ [m + 1]) ≠ [] := by simp [ints]
  have hd : (ints (packF 0 L ++ [m + 1])).dropLast = ints (packF 0 L) := by rw [ints_snoc]; simp
  have hu := un_pack (n := (m : Int)) L 0 (by omega) (fun x hx => by have := hL x hx; omega)
  refine upA_yes ⟨by omega, by omega, hne, ?_⟩ (by rw [hd, hu]; rfl) ⟨by omega, hl⟩
  rw [ints_len, ints_get]
  simp
theorem pack_up {z : List Int} {n most : Int} {y : List Nat} (h : upA z n most = some y) : rOk (ints y) n = true ∧ packZ (ints y) n = z := by
  obtain ⟨⟨h1, h2, h3, h4⟩, hu, h5, h6⟩ := upA_some h
  obtain ⟨e, hv⟩ := pack_un _ _ _ hu (fun q hq => by cases hq)
  have hok : rOk (ints y) n = true := by
    rw [rOk_iff]
    refine ⟨h1, h2, by rw [ints_len]; exact h6, fun x hx => ?_⟩
    obtain ⟨q, hq, rfl⟩ := List.mem_map.1 hx
    have := hv q hq
    omega
  refine ⟨hok, ?_⟩
  obtain ⟨m, rfl⟩ : ∃ m : Nat, n = m := ⟨n.toNat, by omega⟩
  rw [packZ_yes hok, ints_snoc, e, List.nil_append]
  conv => rhs; rw [← dropLast_last h3, h4]
  congr 1
end Go.Proofs.Ytpdicijoohahaaa
namespace Go.Proofs.Ytpdicijoohahaaa
set_option linter.unusedVariables false
set_option linter.unusedSimpArgs false

theorem dropZ_cons (z : List Int) (k : Nat) (h : k < z.length) : z.drop k = z.getD k 0 :: z.drop (k + 1) := by
  rw [List.drop_eq_getElem_cons h]
  congr 1
  simp [List.getD_eq_getElem?_getD, h]
/-- What is to come at place i: the digits from f on have come, D is unpacked. -/
def upT (n : Int) (z : List Int) (i f : Nat) (D : List Nat) : Option (List Nat) :=
  if i < z.length then (unF n ((z.take i).drop f) (z.dropLast.drop i)).map (D ++ ·) else some D
theorem upT_start {n : Int} {z : List Int} (h : z ≠ []) : unF n [] z.dropLast = upT n z 0 0 [] := by
  have h0 : 0 < z.length := List.length_pos_iff.2 h
  unfold upT
  rw [if_pos h0, List.drop_zero]
  simp
theorem last_drop {z : List Int} {i : Nat} (h : i + 1 < z.length) : z.dropLast.drop i = z.getD i 0 :: z.dropLast.drop (i + 1) := by
  have h2 : i < z.dropLast.length := by rw [List.length_dropLast]; omega
  rw [dropZ_cons _ i h2]
  congr 1
  rw [List.getD_eq_getElem?_getD, List.getD_eq_getElem?_getD, List.getElem?_dropLast, if_pos (by omega)]
theorem last_nil {z : List Int} {i : Nat} (h : i + 1 = z.length) : z.dropLast.drop i = [] := by
  apply List.drop_eq_nil_of_le
  rw [List.length_dropLast]; omega
theorem seg_snoc {z : List Int} {i f : Nat} (h : i < z.length) (hf : f ≤ i) : (z.take (i + 1)).drop f = (z.take i).drop f ++ [z.getD i 0] := by
  rw [List.take_succ_eq_append_getElem h, List.drop_append_of_le_length (by rw [List.length_take]; omega)]
  simp [List.getD_eq_getElem?_getD, h]
theorem seg_nil (z : List Int) (i : Nat) : (z.take i).drop i = [] := by
  apply List.drop_eq_nil_of_le
  rw [List.length_take]; omega
theorem seg_len {z : List Int} {i f : Nat} (h : i ≤ z.length) : ((z.take i).drop f).length = i - f := by
  rw [List.length_drop, List.length_take]; omega
theorem seg_get {z : List Int} {i f j : Nat} (h : i ≤ z.length) (hj : f + j < i) : ((z.take i).drop f).getD j 0 = z.getD (f + j) 0 := by
  have h2 : f + j < z.length := by omega
  simp [List.getD_eq_getElem?_getD, hj, h2]
theorem upT_digit {n : Int} {z : List Int} {i f : Nat} {D : List Nat} (h : i + 1 < z.length) (hf : f ≤ i) (hx : z.getD i 0 = 0 ∨ z.getD i 0 = 1) : upT n z i f D = upT n z (i + 1) f D := by
  unfold upT
  rw [if_pos (by omega), if_pos h, last_drop h, unF_digit _ hx, ← seg_snoc (by omega) hf]
theorem upT_none {n : Int} {z : List Int} {i f : Nat} {D : List Nat} (h : i < z.length) (hx : ¬ (z.getD i 0 = 0 ∨ z.getD i 0 = 1)) (hz : zerF ((z.take i).drop f) = none) : upT n z i f D = none := by
  unfold upT
  rw [if_pos h]
  by_cases h2 : i + 1 < z.length
  · rw [last_drop h2, unF_bad _ hx hz]; rfl
  · rw [last_nil (by omega), unF, hz]; rfl
theorem upT_bad {n : Int} {z : List Int} {i f : Nat} {D : List Nat} (h : i + 1 < z.length) (hx : ¬ (z.getD i 0 = 0 ∨ z.getD i 0 = 1)) (hn : ¬ (2 ≤ z.getD i 0 ∧ z.getD i 0 ≤ n)) : upT n z i f D = none := by
  unfold upT
  rw [if_pos (by omega), last_drop h, unF_no _ hx hn]; rfl
theorem upT_mid {n : Int} {z : List Int} {i f : Nat} {D a : List Nat} (h : i + 1 < z.length) (hn : 2 ≤ z.getD i 0 ∧ z.getD i 0 ≤ n) (hz : zerF ((z.take i).drop f) = some a) : upT n z i f D = upT n z (i + 1) (i + 1) (D ++ a ++ [(z.getD i 0 - 1).toNat]) := by
  unfold upT
  rw [if_pos (by omega), if_pos h, last_drop h, unF_yes _ hn hz, seg_nil]
  cases unF n [] (z.dropLast.drop (i + 1)) <;> simp
theorem upT_last {n : Int} {z : List Int} {i f : Nat} {D a : List Nat} (h : i + 1 = z.length) (hz : zerF ((z.take i).drop f) = some a) : upT n z i f D = upT n z (i + 1) (i + 1) (D ++ a) := by
  unfold upT
  rw [if_pos (by omega), if_neg (by omega), last_nil h, unF, hz]; rfl
theorem upT_long {n most : Int} {z : List Int} {i f : Nat} {D : List Nat} (hu : unF n [] z.dropLast = upT n z i f D) (h : ¬ ((D.length : Int) ≤ most ∧ D.length ≤ 600)) : upA z n most = none := by
  cases hv : unF n [] z.dropLast with
  | none => exact upA_none hv
  | some y =>
    rw [hv] at hu
    refine upA_long hv ?_
    unfold upT at hu
    by_cases hi : i < z.length
    · rw [if_pos hi] at hu
      cases hw : unF n ((z.take i).drop f) (z.dropLast.drop i) with
      | none => rw [hw] at hu; cases hu
      | some r =>
        rw [hw] at hu
        have e := Option.some.inj hu
        subst e
        rw [List.length_append]
        intro h2
        exact h ⟨by omega, by omega⟩
    · rw [if_neg hi] at hu
      have e := Option.some.inj hu
      subst e
      exact h
theorem upT_end {n : Int} {z : List Int} {f : Nat} {D : List Nat} : upT n z z.length f D = some D := by unfold upT; rw [if_neg (by omega)]
theorem up_none {z : List Int} {n most : Int} (h : upA z n most = none) : upOk z n most = false ∧ upL z n most = [] := by unfold upOk upL; rw [h]; exact ⟨rfl, rfl⟩
theorem up_some {z : List Int} {n most : Int} {y : List Nat} (h : upA z n most = some y) : upOk z n most = true ∧ upL z n most = ints y := by unfold upOk upL; rw [h]; exact ⟨rfl, rfl⟩
end Go.Proofs.Ytpdicijoohahaaa
namespace Go.Proofs.Ytpdicijoohahaaa
set_option linter.unusedVariables false
set_option linter.unusedSimpArgs false

/-- The gaps of x: g greater ones have come since its last occurrence. -/
def gapsF (x : Nat) : Nat → List Nat → List Nat
  | _, [] => []
  | g, y :: ys => if x < y then gapsF x (g + 1) ys else if y = x then g :: gapsF x 0 ys else gapsF x g ys
def gapsL (L : List Nat) (x : Nat) : List Nat := gapsF x 0 L
/-- The gaps of all below k. -/
def gapsTo (L : List Nat) (k : Nat) : List Nat := (List.range k).flatMap (gapsL L)
theorem gapsTo_succ (L : List Nat) (k : Nat) : gapsTo L (k + 1) = gapsTo L k ++ gapsL L k := by simp [gapsTo, List.range_succ]
theorem gapsF_gt {x g y : Nat} (ys : List Nat) (h : x < y) : gapsF x g (y :: ys) = gapsF x (g + 1) ys := by rw [gapsF, if_pos h]
theorem gapsF_eq {x g : Nat} (ys : List Nat) : gapsF x g (x :: ys) = g :: gapsF x 0 ys := by rw [gapsF, if_neg (by omega), if_pos rfl]
theorem gapsF_lt {x g y : Nat} (ys : List Nat) (h : y < x) : gapsF x g (y :: ys) = gapsF x g ys := by rw [gapsF, if_neg (by omega), if_neg (by omega)]
theorem gapsF_len (x : Nat) : ∀ (L : List Nat) (g : Nat), (gapsF x g L).length = L.count x
  | [], _ => rfl
  | y :: ys, g => by
    by_cases h : x < y
    · rw [gapsF_gt _ h, gapsF_len x ys, List.count_cons_of_ne (by omega)]
    · by_cases e : y = x
      · subst e
        rw [gapsF_eq, List.length_cons, gapsF_len y ys, List.count_cons_self]
      · rw [gapsF_lt _ (by omega), gapsF_len x ys, List.count_cons_of_ne e]
theorem gapsF_le (x : Nat) : ∀ (L : List Nat) (g : Nat), ∀ y ∈ gapsF x g L, y ≤ g + L.length
  | [], _, y, h => by cases h
  | z :: zs, g, y, h => by
    by_cases hz : x < z
    · rw [gapsF_gt _ hz] at h
      have := gapsF_le x zs (g + 1) y h
      simp only [List.length_cons]; omega
    · by_cases e : z = x
      · subst e
        rw [gapsF_eq] at h
        rcases List.mem_cons.1 h with e | e
        · simp only [List.length_cons]; omega
        · have := gapsF_le z zs 0 y e
          simp only [List.length_cons]; omega
      · rw [gapsF_lt _ (by omega)] at h
        have := gapsF_le x zs g y h
        simp only [List.length_cons]; omega
theorem count_sum (m : Nat) : ∀ (L : List Nat), (∀ x ∈ L, x < m) → ((List.range m).map (fun x => L.count x)).sum = L.length
  | [], _ => by
    have : ((List.range m).map (fun x => List.count x ([] : List Nat))) = List.replicate m 0 := by
      apply List.ext_getElem <;> simp
    rw [this]; simp
  | y :: ys, h => by
    have ih := count_sum m ys (fun x hx => h x (List.mem_cons_of_mem _ hx))
    have hy := h y (List.mem_cons_self ..)
    have key : ∀ (n : Nat), ((List.range n).map (fun x => (y :: ys).count x)).sum = ((List.range n).map (fun x => ys.count x)).sum + if y < n then 1 else 0 := by
      intro n
      induction n with
      | zero => simp
      | succ n ihn =>
        rw [List.range_succ, List.map_append, List.map_append, List.sum_append, List.sum_append, ihn]
        simp only [List.map_cons, List.map_nil, List.sum_cons, List.sum_nil, Nat.add_zero]
        by_cases e : y = n
        · subst e
          rw [List.count_cons_self, if_neg (by omega), if_pos (by omega)]; omega
        · rw [List.count_cons_of_ne e]
          by_cases h2 : y < n
          · rw [if_pos h2, if_pos (by omega)]; omega
          · rw [if_neg h2, if_neg (by omega)]; omega
    rw [key m, ih, if_pos hy, List.length_cons]
theorem gapsTo_len (L : List Nat) (k : Nat) : (gapsTo L k).length = ((List.range k).map (fun x => L.count x)).sum := by
  unfold gapsTo
  rw [List.length_flatMap]
  congr 1
  apply List.map_congr_left
  intro x _
  exact gapsF_len x L 0
theorem sum_le_of_le (f : Nat → Nat) (k n : Nat) (h : k ≤ n) : ((List.range k).map f).sum ≤ ((List.range n).map f).sum := by
  induction n with
  | zero =>
    have h0 : k = 0 := by omega
    subst h0
    exact Nat.le_refl _
  | succ n ih =>
    rw [List.range_succ, List.map_append, List.sum_append]
    by_cases e : k = n + 1
    · subst e; rw [List.range_succ, List.map_append, List.sum_append]; exact Nat.le_refl _
    · have := ih (by omega); omega
theorem gapsTo_le {L : List Nat} {m : Nat} (h : ∀ x ∈ L, x < m) {k : Nat} (hk : k ≤ m) : (gapsTo L k).length ≤ L.length := by
  rw [gapsTo_len, ← count_sum m L h]
  exact sum_le_of_le _ k m hk
theorem gapsTo_mem {L : List Nat} {k y : Nat} (h : y ∈ gapsTo L k) : y ≤ L.length := by
  unfold gapsTo at h
  obtain ⟨x, _, hx⟩ := List.mem_flatMap.1 h
  have := gapsF_le x L 0 y hx
  omega
theorem count_take8 (L : List Nat) (i x : Nat) (h : i < L.length) : (L.take (i + 1)).count x = (L.take i).count x + if L.getD i 0 = x then 1 else 0 := by
  rw [List.take_succ_eq_append_getElem h, List.count_append]
  have e : L.getD i 0 = L[i] := by simp [List.getD_eq_getElem?_getD, h]
  rw [e]
  by_cases h2 : L[i] = x
  · rw [if_pos h2, h2]; simp
  · rw [if_neg h2, List.count_singleton, if_neg (by simpa using h2)]
/-- What Inv answers. -/
def invC (z : List Int) (n : Int) : List Int := if rOk z n = true then ints ((List.range n.toNat).map fun x => (z.map Int.toNat).count x) else []
def invG (z : List Int) (n : Int) : List Int := if rOk z n = true then ints (gapsTo (z.map Int.toNat) (n.toNat - 1)) else []
theorem invC_yes {L : List Nat} {m : Nat} (h : rOk (ints L) m = true) : invC (ints L) m = ints ((List.range m).map fun x => L.count x) := by unfold invC; rw [if_pos h, ints_toNat]; rfl
theorem invG_yes {L : List Nat} {m : Nat} (h : rOk (ints L) m = true) : invG (ints L) m = ints (gapsTo L (m - 1)) := by unfold invG; rw [if_pos h, ints_toNat]; rfl
theorem invC_no {z : List Int} {n : Int} (h : rOk z n = false) : invC z n = [] := by unfold invC; rw [h]; rfl
theorem invG_no {z : List Int} {n : Int} (h : rOk z n = false) : invG z n = [] := by unfold invG; rw [h]; rfl
end Go.Proofs.Ytpdicijoohahaaa
namespace Go.Proofs.Ytpdicijoohahaaa
set_option linter.unusedVariables false
set_option linter.unusedSimpArgs false

/-- The sum of counts from n on; none where one is below 0 or the sum goes beyond 600. -/
def totF : List Int → Nat → Option Nat
  | [], n => some n
  | x :: l, n => if x < 0 ∨ 600 - (n : Int) < x then none else totF l (n + x.toNat)
def totI (o : Option Nat) : Int := match o with | some n => (n : Int) | none => -1
theorem totF_drop (z : List Int) (k n : Nat) (hk : k < z.length) : totF (z.drop k) n = if z.getD k 0 < 0 ∨ 600 - (n : Int) < z.getD k 0 then none else totF (z.drop (k + 1)) (n + (z.getD k 0).toNat) := by
  rw [List.drop_eq_getElem_cons hk]
  have : z.getD k 0 = z[k] := by simp [List.getD_eq_getElem?_getD, hk]
  rw [this]
  rfl
/-- Are these counts those of a list over n symbols, with g gaps? -/
def szOk (z : List Int) (g : Nat) (n : Int) : Bool :=
  decide (1 ≤ n ∧ n ≤ 256 ∧ (z.length : Int) = n ∧ 0 ≤ totI (totF z 0) ∧ (g : Int) = totI (totF z 0) - z.getD (z.length - 1) 0)
theorem szOk_iff (z : List Int) (g : Nat) (n : Int) : szOk z g n = true ↔ 1 ≤ n ∧ n ≤ 256 ∧ (z.length : Int) = n ∧ 0 ≤ totI (totF z 0) ∧ (g : Int) = totI (totF z 0) - z.getD (z.length - 1) 0 := by simp [szOk]
theorem totF_some {z : List Int} : ∀ {n t : Nat}, totF z n = some t → ∀ x ∈ z, 0 ≤ x ∧ x ≤ 600 := by
  induction z with
  | nil => intro n t _ x hx; cases hx
  | cons y l ih =>
    intro n t h x hx
    unfold totF at h
    by_cases hc : y < 0 ∨ 600 - (n : Int) < y
    · rw [if_pos hc] at h; cases h
    · rw [if_neg hc] at h
      rcases List.mem_cons.1 hx with rfl | hx
      · omega
      · exact ih h x hx
theorem totF_sum {z : List Int} : ∀ {n t : Nat}, n ≤ 600 → totF z n = some t → t = n + (z.map Int.toNat).sum ∧ t ≤ 600 ∧ z = ints (z.map Int.toNat) := by
  induction z with
  | nil => intro n t hn h; simp [totF] at h; subst h; exact ⟨by simp, hn, rfl⟩
  | cons y l ih =>
    intro n t hn h
    unfold totF at h
    by_cases hc : y < 0 ∨ 600 - (n : Int) < y
    · rw [if_pos hc] at h; cases h
    · rw [if_neg hc] at h
      obtain ⟨h1, h2, h3⟩ := ih (by omega) h
      refine ⟨by simp only [List.map_cons, List.sum_cons]; omega, h2, ?_⟩
      simp only [List.map_cons]
      unfold ints at h3 ⊢
      rw [List.map_cons, ← h3]
      congr 1
      omega
theorem totF_of : ∀ (L : List Nat) (n : Nat), n + L.sum ≤ 600 → totF (ints L) n = some (n + L.sum)
  | [], n, _ => by simp [ints, totF]
  | x :: l, n, h => by
    simp only [List.sum_cons] at h
    show totF ((x : Int) :: ints l) n = _
    unfold totF
    rw [if_neg (by omega), Int.toNat_natCast, totF_of l (n + x) (by omega)]
    simp only [List.sum_cons, Nat.add_assoc]

/-- x's put into l by their gaps. -/
def insF (x : Nat) : List Nat → List Int → Option (List Nat)
  | l, [] => some l
  | l, g :: gs => if 0 ≤ g ∧ g ≤ (l.length : Int) then (insF x (l.drop g.toNat) gs).map (fun r => l.take g.toNat ++ x :: r) else none
theorem insF_no {x : Nat} {l : List Nat} {g : Int} (gs : List Int) (h : ¬ (0 ≤ g ∧ g ≤ (l.length : Int))) : insF x l (g :: gs) = none := by rw [insF, if_neg h]
theorem insF_yes {x : Nat} {l : List Nat} {g : Nat} (gs : List Int) (h : g ≤ l.length) : insF x l ((g : Int) :: gs) = (insF x (l.drop g) gs).map (fun r => l.take g ++ x :: r) := by
  rw [insF, if_pos (by omega), Int.toNat_natCast]
theorem insF_iff (x : Nat) : ∀ (gs : List Int) (l : List Nat), (∃ r, insF x l gs = some r) ↔ (∀ g ∈ gs, 0 ≤ g) ∧ gs.sum ≤ (l.length : Int)
  | [], l => by simp [insF]
  | g :: gs, l => by
    by_cases h : 0 ≤ g ∧ g ≤ (l.length : Int)
    · obtain ⟨q, rfl⟩ : ∃ q : Nat, g = q := ⟨g.toNat, by omega⟩
      have ih := insF_iff x gs (l.drop q)
      rw [List.length_drop] at ih
      rw [insF_yes gs (by omega)]
      constructor
      · rintro ⟨r, hr⟩
        cases hu : insF x (l.drop q) gs with
        | none => rw [hu] at hr; cases hr
        | some v =>
          obtain ⟨h1, h2⟩ := ih.1 ⟨v, hu⟩
          refine ⟨fun y hy => ?_, by simp only [List.sum_cons]; omega⟩
          rcases List.mem_cons.1 hy with rfl | hy
          · omega
          · exact h1 y hy
      · rintro ⟨h1, h2⟩
        simp only [List.sum_cons] at h2
        obtain ⟨v, hv⟩ := ih.2 ⟨fun y hy => h1 y (List.mem_cons_of_mem _ hy), by omega⟩
        rw [hv]
        exact ⟨_, rfl⟩
    · rw [insF_no gs h]
      constructor
      · rintro ⟨r, hr⟩; cases hr
      · rintro ⟨h1, h2⟩
        have h3 := h1 g (List.mem_cons_self ..)
        have h4 : 0 ≤ gs.sum := by
          have : ∀ (l : List Int), (∀ y ∈ l, 0 ≤ y) → 0 ≤ l.sum := by
            intro l
            induction l with
            | nil => intro _; simp
            | cons a l ih => intro hl; have := hl a (List.mem_cons_self ..); have := ih (fun y hy => hl y (List.mem_cons_of_mem _ hy)); simp only [List.sum_cons]; omega
          exact this gs (fun y hy => h1 y (List.mem_cons_of_mem _ hy))
        simp only [List.sum_cons] at h2
        omega
theorem insF_len {x : Nat} : ∀ {gs : List Int} {l r : List Nat}, insF x l gs = some r → r.length = l.length + gs.length
  | [], l, r, h => by rw [insF] at h; obtain rfl := Option.some.inj h; simp
  | g :: gs, l, r, h => by
    by_cases hg : 0 ≤ g ∧ g ≤ (l.length : Int)
    · obtain ⟨q, rfl⟩ : ∃ q : Nat, g = q := ⟨g.toNat, by omega⟩
      rw [insF_yes gs (by omega)] at h
      cases hu : insF x (l.drop q) gs with
      | none => rw [hu] at h; cases h
      | some v =>
        rw [hu] at h
        obtain rfl := (Option.some.inj h).symm
        have := insF_len hu
        rw [List.length_drop] at this
        simp only [List.length_append, List.length_take, List.length_cons]
        omega
    · rw [insF_no gs hg] at h; cases h

/-- The lists of the symbols from x on: cs are their counts, gs their gaps (of the last one none). -/
def decR : Nat → List Nat → List Int → Option (List Nat)
  | _, [], _ => some []
  | x, [c], _ => some (List.replicate c x)
  | x, c :: c' :: cs, gs => (decR (x + 1) (c' :: cs) (gs.drop c)).bind (fun L => insF x L (gs.take c))
theorem decR_one (x c : Nat) (gs : List Int) : decR x [c] gs = some (List.replicate c x) := by rw [decR]
theorem decR_more (x c : Nat) {cs : List Nat} (gs : List Int) (h : cs ≠ []) : decR x (c :: cs) gs = (decR (x + 1) cs (gs.drop c)).bind (fun L => insF x L (gs.take c)) := by
  cases cs with
  | nil => exact absurd rfl h
  | cons c' cs => rw [decR]
theorem mem_le_sum8 : ∀ (l : List Nat) (a : Nat), a ∈ l → a ≤ l.sum
  | [], a, h => by cases h
  | b :: l, a, h => by
    rw [List.sum_cons]
    rcases List.mem_cons.1 h with rfl | h
    · omega
    · have := mem_le_sum8 l a h; omega
/-- How many gaps there are ahead of the k-th symbol's. -/
def off8 (cs : List Nat) (k : Nat) : Nat := (cs.take k).sum
theorem off8_succ (cs : List Nat) (k : Nat) (h : k < cs.length) : off8 cs (k + 1) = off8 cs k + cs.getD k 0 := by
  unfold off8
  rw [List.take_succ_eq_append_getElem h, List.sum_append]
  simp [List.getD_eq_getElem?_getD, h]
/-- The list of the symbols from the k-th on. -/
def dk (cs : List Nat) (gs : List Int) (k : Nat) : Option (List Nat) := decR k (cs.drop k) (gs.drop (off8 cs k))
theorem dk_zero (cs : List Nat) (gs : List Int) : dk cs gs 0 = decR 0 cs gs := by unfold dk off8; simp
theorem dk_last (cs : List Nat) (gs : List Int) (h : 0 < cs.length) : dk cs gs (cs.length - 1) = some (List.replicate (cs.getD (cs.length - 1) 0) (cs.length - 1)) := by
  unfold dk
  rw [drop_cons cs (cs.length - 1) (by omega), List.drop_eq_nil_of_le (by omega), decR_one]
theorem dk_step (cs : List Nat) (gs : List Int) (k : Nat) (h : k + 1 < cs.length) : dk cs gs k = (dk cs gs (k + 1)).bind (fun L => insF k L ((gs.drop (off8 cs k)).take (cs.getD k 0))) := by
  unfold dk
  rw [drop_cons cs k (by omega), decR_more _ _ _ (by
    intro e
    have := congrArg List.length e
    rw [List.length_drop] at this
    simp at this; omega), List.drop_drop, off8_succ cs k (by omega)]
theorem dk_none (cs : List Nat) (gs : List Int) : ∀ (k : Nat), k < cs.length → dk cs gs k = none → dk cs gs 0 = none
  | 0, _, h => h
  | k + 1, hk, h => dk_none cs gs k (by omega) (by rw [dk_step cs gs k hk, h]; rfl)

/-- x's put at their places among those that are free (not below x). -/
def plc (x : Nat) : List Nat → List Int → Option (List Nat)
  | out, [] => some out
  | [], _ :: _ => none
  | o :: os, g :: gs => if o < x then (plc x os (g :: gs)).map (o :: ·) else if 0 < g then (plc x os ((g - 1) :: gs)).map (o :: ·) else if g = 0 then (plc x os gs).map (x :: ·) else none
theorem plc_nil (x : Nat) (out : List Nat) : plc x out [] = some out := by cases out <;> rw [plc]
theorem plc_end (x : Nat) (g : Int) (gs : List Int) : plc x [] (g :: gs) = none := by rw [plc]
theorem plc_pass {x o : Nat} (os : List Nat) (g : Int) (gs : List Int) (h : o < x) : plc x (o :: os) (g :: gs) = (plc x os (g :: gs)).map (o :: ·) := by rw [plc, if_pos h]
theorem plc_skip {x o : Nat} (os : List Nat) {g : Int} (gs : List Int) (h : x ≤ o) (hg : 0 < g) : plc x (o :: os) (g :: gs) = (plc x os ((g - 1) :: gs)).map (o :: ·) := by rw [plc, if_neg (by omega), if_pos hg]
theorem plc_here {x o : Nat} (os : List Nat) (gs : List Int) (h : x ≤ o) : plc x (o :: os) (0 :: gs) = (plc x os gs).map (x :: ·) := by rw [plc, if_neg (by omega), if_neg (by omega), if_pos rfl]
theorem plc_bad {x o : Nat} (os : List Nat) {g : Int} (gs : List Int) (h : x ≤ o) (hg : g < 0) : plc x (o :: os) (g :: gs) = none := by rw [plc, if_neg (by omega), if_neg (by omega), if_neg (by omega)]
/-- How many places are free. -/
def free8 (x : Nat) : List Nat → Nat
  | [] => 0
  | o :: os => (if o < x then 0 else 1) + free8 x os
theorem map_some_iff {α β : Type} (f : α → β) (o : Option α) : (∃ r, o.map f = some r) ↔ ∃ r, o = some r := by
  cases o <;> simp
theorem sum_nonneg8 : ∀ (l : List Int), (∀ y ∈ l, 0 ≤ y) → 0 ≤ l.sum
  | [], _ => by simp
  | a :: l, hl => by have := hl a (List.mem_cons_self ..); have := sum_nonneg8 l (fun y hy => hl y (List.mem_cons_of_mem _ hy)); simp only [List.sum_cons]; omega
theorem plc_iff (x : Nat) : ∀ (out : List Nat) (gs : List Int), (∃ r, plc x out gs = some r) ↔ (∀ g ∈ gs, 0 ≤ g) ∧ gs.sum + (gs.length : Int) ≤ (free8 x out : Int)
  | out, [] => by rw [plc_nil]; simp
  | [], g :: gs => by
    rw [plc_end]
    constructor
    · rintro ⟨r, hr⟩; cases hr
    · rintro ⟨h1, h2⟩
      have := sum_nonneg8 _ h1
      simp only [List.length_cons, free8] at h2
      omega
  | o :: os, g :: gs => by
    by_cases ho : o < x
    · rw [plc_pass _ _ _ ho, map_some_iff, plc_iff x os (g :: gs)]
      simp only [free8, if_pos ho, Nat.zero_add]
    · have hx : x ≤ o := by omega
      have hf : free8 x (o :: os) = 1 + free8 x os := by simp only [free8, if_neg ho]
      rcases Int.lt_trichotomy g 0 with hg | rfl | hg
      · rw [plc_bad _ _ hx hg]
        constructor
        · rintro ⟨r, hr⟩; cases hr
        · rintro ⟨h1, _⟩; have := h1 g (List.mem_cons_self ..); omega
      · rw [plc_here _ _ hx, map_some_iff, plc_iff x os gs, hf]
        simp only [List.mem_cons, forall_eq_or_imp, List.sum_cons, List.length_cons]
        constructor
        · rintro ⟨h1, h2⟩; exact ⟨⟨by omega, h1⟩, by omega⟩
        · rintro ⟨⟨_, h1⟩, h2⟩; exact ⟨h1, by omega⟩
      · rw [plc_skip _ _ hx hg, map_some_iff, plc_iff x os ((g - 1) :: gs), hf]
        simp only [List.mem_cons, forall_eq_or_imp, List.sum_cons, List.length_cons]
        constructor
        · rintro ⟨⟨_, h1⟩, h2⟩; exact ⟨⟨by omega, h1⟩, by omega⟩
        · rintro ⟨⟨_, h1⟩, h2⟩; exact ⟨⟨by omega, h1⟩, by omega⟩
theorem plc_out {x : Nat} : ∀ {out : List Nat} {gs : List Int} {r : List Nat}, plc x out gs = some r → (∀ o ∈ out, o < x ∨ x + 1 ≤ o) → r.length = out.length ∧ free8 (x + 1) r + gs.length = free8 x out ∧ ∀ o ∈ r, o ∈ out ∨ o = x
  | out, [], r, h, ha => by
    rw [plc_nil] at h
    obtain rfl := Option.some.inj h
    refine ⟨rfl, ?_, fun o ho => .inl ho⟩
    have : ∀ l : List Nat, (∀ o ∈ l, o < x ∨ x + 1 ≤ o) → free8 (x + 1) l = free8 x l := by
      intro l
      induction l with
      | nil => intro _; rfl
      | cons o l ih =>
        intro hl
        have h1 := hl o (List.mem_cons_self ..)
        rw [free8, free8, ih (fun q hq => hl q (List.mem_cons_of_mem _ hq))]
        congr 1
        by_cases h2 : o < x
        · rw [if_pos h2, if_pos (by omega)]
        · rw [if_neg h2, if_neg (by omega)]
    simpa using this out ha
  | [], g :: gs, r, h, _ => by rw [plc_end] at h; cases h
  | o :: os, g :: gs, r, h, ha => by
    have ha' : ∀ q ∈ os, q < x ∨ x + 1 ≤ q := fun q hq => ha q (List.mem_cons_of_mem _ hq)
    have h1 := ha o (List.mem_cons_self ..)
    by_cases ho : o < x
    · rw [plc_pass _ _ _ ho] at h
      cases hu : plc x os (g :: gs) with
      | none => rw [hu] at h; cases h
      | some v =>
        rw [hu] at h
        obtain rfl := (Option.some.inj h).symm
        obtain ⟨l1, l2, l3⟩ := plc_out hu ha'
        refine ⟨by simp [l1], ?_, fun q hq => ?_⟩
        · simp only [free8, if_pos ho, if_pos (show o < x + 1 by omega)]
          omega
        · rcases List.mem_cons.1 hq with rfl | hq
          · exact .inl (List.mem_cons_self ..)
          · rcases l3 q hq with e | e
            · exact .inl (List.mem_cons_of_mem _ e)
            · exact .inr e
    · have hx : x ≤ o := by omega
      rcases Int.lt_trichotomy g 0 with hg | rfl | hg
      · rw [plc_bad _ _ hx hg] at h; cases h
      · rw [plc_here _ _ hx] at h
        cases hu : plc x os gs with
        | none => rw [hu] at h; cases h
        | some v =>
          rw [hu] at h
          obtain rfl := (Option.some.inj h).symm
          obtain ⟨l1, l2, l3⟩ := plc_out hu ha'
          refine ⟨by simp [l1], ?_, fun q hq => ?_⟩
          · simp only [free8, if_neg ho, if_pos (show x < x + 1 by omega), List.length_cons]
            omega
          · rcases List.mem_cons.1 hq with rfl | hq
            · exact .inr rfl
            · rcases l3 q hq with e | e
              · exact .inl (List.mem_cons_of_mem _ e)
              · exact .inr e
      · rw [plc_skip _ _ hx hg] at h
        cases hu : plc x os ((g - 1) :: gs) with
        | none => rw [hu] at h; cases h
        | some v =>
          rw [hu] at h
          obtain rfl := (Option.some.inj h).symm
          obtain ⟨l1, l2, l3⟩ := plc_out hu ha'
          refine ⟨by simp [l1], ?_, fun q hq => ?_⟩
          · simp only [free8, if_neg ho, if_neg (show ¬ o < x + 1 by omega), List.length_cons] at l2 ⊢
            omega
          · rcases List.mem_cons.1 hq with rfl | hq
            · exact .inl (List.mem_cons_self ..)
            · rcases l3 q hq with e | e
              · exact .inl (List.mem_cons_of_mem _ e)
              · exact .inr e
/-- The free places filled. -/
def fill8 (x : Nat) : List Nat → List Nat → List Nat
  | [], _ => []
  | o :: os, [] => o :: fill8 x os []
  | o :: os, h :: t => if o < x then o :: fill8 x os (h :: t) else h :: fill8 x os t
theorem fill8_pass {x o : Nat} (os L : List Nat) (h : o < x) : fill8 x (o :: os) L = o :: fill8 x os L := by
  cases L with
  | nil => rw [fill8]
  | cons a t => rw [fill8, if_pos h]
theorem fill8_free {x o : Nat} (os : List Nat) (a : Nat) (t : List Nat) (h : ¬ o < x) : fill8 x (o :: os) (a :: t) = a :: fill8 x os t := by rw [fill8, if_neg h]
theorem fill8_succ {x : Nat} : ∀ (out L : List Nat), (∀ o ∈ out, o < x ∨ x + 1 ≤ o) → fill8 (x + 1) out L = fill8 x out L
  | [], _, _ => by rw [fill8, fill8]
  | o :: os, [], ha => by rw [fill8, fill8, fill8_succ os [] (fun q hq => ha q (List.mem_cons_of_mem _ hq))]
  | o :: os, a :: t, ha => by
    have h1 := ha o (List.mem_cons_self ..)
    have ha' : ∀ q ∈ os, q < x ∨ x + 1 ≤ q := fun q hq => ha q (List.mem_cons_of_mem _ hq)
    by_cases ho : o < x
    · rw [fill8_pass _ _ ho, fill8_pass _ _ (by omega), fill8_succ os _ ha']
    · rw [fill8_free _ _ _ ho, fill8_free _ _ _ (by omega), fill8_succ os _ ha']
theorem plc_fill {x : Nat} : ∀ {out : List Nat} {gs : List Int} {L r R : List Nat}, plc x out gs = some r → insF x L gs = some R → (∀ o ∈ out, o < x ∨ x + 1 ≤ o) → fill8 (x + 1) r L = fill8 x out R
  | out, [], L, r, R, h, hi, ha => by
    rw [plc_nil] at h
    rw [insF] at hi
    obtain rfl := Option.some.inj h
    obtain rfl := Option.some.inj hi
    exact fill8_succ _ _ ha
  | [], g :: gs, L, r, R, h, _, _ => by rw [plc_end] at h; cases h
  | o :: os, g :: gs, L, r, R, h, hi, ha => by
    have ha' : ∀ q ∈ os, q < x ∨ x + 1 ≤ q := fun q hq => ha q (List.mem_cons_of_mem _ hq)
    have h1 := ha o (List.mem_cons_self ..)
    by_cases ho : o < x
    · rw [plc_pass _ _ _ ho] at h
      cases hu : plc x os (g :: gs) with
      | none => rw [hu] at h; cases h
      | some v =>
        rw [hu] at h
        obtain rfl := (Option.some.inj h).symm
        rw [fill8_pass _ _ (show o < x + 1 by omega), fill8_pass _ _ ho, plc_fill hu hi ha']
    · have hx : x ≤ o := by omega
      rcases Int.lt_trichotomy g 0 with hg | rfl | hg
      · rw [plc_bad _ _ hx hg] at h; cases h
      · rw [plc_here _ _ hx] at h
        have hi2 := insF_yes (x := x) (l := L) (g := 0) gs (Nat.zero_le _)
        rw [Int.natCast_zero] at hi2
        rw [hi2] at hi
        cases hu : plc x os gs with
        | none => rw [hu] at h; cases h
        | some v =>
          rw [hu] at h
          obtain rfl := (Option.some.inj h).symm
          cases hv : insF x (L.drop 0) gs with
          | none => rw [hv] at hi; cases hi
          | some q =>
            rw [hv] at hi
            obtain rfl := (Option.some.inj hi).symm
            rw [List.drop_zero] at hv
            simp only [List.take_zero, List.nil_append]
            rw [fill8_pass _ _ (show x < x + 1 by omega), fill8_free _ _ _ ho, plc_fill hu hv ha']
      · rw [plc_skip _ _ hx hg] at h
        cases hu : plc x os ((g - 1) :: gs) with
        | none => rw [hu] at h; cases h
        | some v =>
          rw [hu] at h
          obtain rfl := (Option.some.inj h).symm
          obtain ⟨q, rfl⟩ : ∃ q : Nat, g = ((q + 1 : Nat) : Int) := ⟨(g - 1).toNat, by omega⟩
          have e : ((q + 1 : Nat) : Int) - 1 = (q : Int) := by omega
          rw [e] at hu
          by_cases hl : q + 1 ≤ L.length
          · cases L with
            | nil => simp at hl
            | cons a t =>
              rw [insF_yes gs hl, List.drop_succ_cons, List.take_succ_cons] at hi
              have hi3 := insF_yes (x := x) (l := t) (g := q) gs (by simpa using hl)
              cases hv : insF x (t.drop q) gs with
              | none => rw [hv] at hi; cases hi
              | some s =>
                rw [hv] at hi hi3
                obtain rfl := (Option.some.inj hi).symm
                simp only [List.cons_append]
                rw [fill8_free _ _ _ (show ¬ o < x + 1 by omega), fill8_free _ _ _ ho, plc_fill hu hi3 ha']
          · rw [insF_no gs (by omega)] at hi; cases hi
/-- The model: symbol by symbol from the least. -/
def modR : Nat → List Nat → List Int → List Nat → Option (List Nat)
  | _, [], _, out => some out
  | _, [_], _, out => some out
  | x, c :: c' :: cs, gs, out => (plc x out (gs.take c)).bind (modR (x + 1) (c' :: cs) (gs.drop c))
theorem modR_one (x c : Nat) (gs : List Int) (out : List Nat) : modR x [c] gs out = some out := by rw [modR]
theorem modR_more (x c : Nat) {cs : List Nat} (gs : List Int) (out : List Nat) (h : cs ≠ []) : modR x (c :: cs) gs out = (plc x out (gs.take c)).bind (modR (x + 1) cs (gs.drop c)) := by
  cases cs with
  | nil => exact absurd rfl h
  | cons c' cs => rw [modR]
def last8 (cs : List Nat) : Nat := cs.getD (cs.length - 1) 0
theorem last8_cons (c : Nat) {cs : List Nat} (h : cs ≠ []) : last8 (c :: cs) = last8 cs := by
  unfold last8
  cases cs with
  | nil => exact absurd rfl h
  | cons a t => simp [List.getD_eq_getElem?_getD]
theorem decR_len : ∀ {cs : List Nat} {x : Nat} {gs : List Int} {L : List Nat}, cs ≠ [] → gs.length + last8 cs = cs.sum → decR x cs gs = some L → L.length = cs.sum
  | [], _, _, _, h, _, _ => absurd rfl h
  | [c], x, gs, L, _, _, h => by rw [decR_one] at h; obtain rfl := (Option.some.inj h).symm; simp
  | c :: c' :: cs, x, gs, L, _, hs, h => by
    rw [decR_more x c gs (by simp)] at h
    rw [last8_cons c (by simp), List.sum_cons] at hs
    have hle : last8 (c' :: cs) ≤ (c' :: cs).sum := by
      unfold last8
      have hm : (c' :: cs).getD ((c' :: cs).length - 1) 0 ∈ (c' :: cs) := getD_mem7 _ _ (by simp)
      exact mem_le_sum8 _ _ hm
    cases hu : decR (x + 1) (c' :: cs) (gs.drop c) with
    | none => rw [hu] at h; cases h
    | some v =>
      rw [hu] at h
      have h2 : insF x v (gs.take c) = some L := h
      have l1 := decR_len (by simp) (by rw [List.length_drop]; omega) hu
      have e0 : (c :: c' :: cs).sum = c + (c' :: cs).sum := List.sum_cons
      rw [insF_len h2, l1, List.length_take, e0]
      omega
theorem last8_le (cs : List Nat) (h : cs ≠ []) : last8 cs ≤ cs.sum := by
  unfold last8
  have : 0 < cs.length := List.length_pos_iff.2 h
  exact mem_le_sum8 _ _ (getD_mem7 _ _ (by omega))
theorem fill8_all {x : Nat} : ∀ (out : List Nat) (c : Nat), (∀ o ∈ out, o < x ∨ o = x) → free8 x out = c → fill8 x out (List.replicate c x) = out
  | [], c, _, _ => by rw [fill8]
  | o :: os, c, ha, hf => by
    have ha' : ∀ q ∈ os, q < x ∨ q = x := fun q hq => ha q (List.mem_cons_of_mem _ hq)
    by_cases ho : o < x
    · rw [fill8_pass _ _ ho, fill8_all os c ha' (by simpa only [free8, if_pos ho, Nat.zero_add] using hf)]
    · have h1 := ha o (List.mem_cons_self ..)
      simp only [free8, if_neg ho] at hf
      obtain ⟨q, rfl⟩ : ∃ q, c = q + 1 := ⟨c - 1, by omega⟩
      rw [List.replicate_succ, fill8_free _ _ _ ho, fill8_all os q ha' (by omega)]
      congr 1
      omega
/-- Both ways accept the same and answer the same. -/
theorem modR_eq {n : Nat} : ∀ (cs : List Nat) (x : Nat) (gs : List Int) (out : List Nat), cs ≠ [] → x + cs.length = n → (∀ o ∈ out, o < x ∨ o = n - 1) → free8 x out = cs.sum → gs.length + last8 cs = cs.sum → modR x cs gs out = (decR x cs gs).map (fill8 x out)
  | [], _, _, _, h, _, _, _, _ => absurd rfl h
  | [c], x, gs, out, _, hn, ha, hf, _ => by
    rw [modR_one, decR_one, Option.map_some, fill8_all out c (fun o ho => by have := ha o ho; simp at hn; omega) (by simpa using hf)]
  | c :: c' :: cs, x, gs, out, _, hn, ha, hf, hs => by
    have hne : (c' :: cs) ≠ [] := by simp
    rw [modR_more x c gs out hne, decR_more x c gs hne]
    rw [last8_cons c hne, List.sum_cons] at hs
    rw [List.sum_cons] at hf
    have hle := last8_le (c' :: cs) hne
    rw [List.length_cons] at hn
    have hpos : 0 < (c' :: cs).length := by simp
    have ha2 : ∀ o ∈ out, o < x ∨ x + 1 ≤ o := fun o ho => by have := ha o ho; omega
    have htl : (gs.take c).length = c := by rw [List.length_take]; omega
    have hiff := plc_iff x out (gs.take c)
    rw [htl, hf] at hiff
    cases hp : plc x out (gs.take c) with
    | none =>
      rw [Option.bind_none]
      cases hu : decR (x + 1) (c' :: cs) (gs.drop c) with
      | none => rfl
      | some L =>
        have l1 := decR_len hne (by rw [List.length_drop]; omega) hu
        rw [Option.bind_some]
        cases hi : insF x L (gs.take c) with
        | none => rfl
        | some R =>
          exfalso
          have h1 := (insF_iff x (gs.take c) L).1 ⟨R, hi⟩
          rw [l1] at h1
          obtain ⟨r, hr⟩ := hiff.2 ⟨h1.1, by omega⟩
          rw [hr] at hp; cases hp
    | some out2 =>
      rw [Option.bind_some]
      obtain ⟨l1, l2, l3⟩ := plc_out hp ha2
      rw [htl] at l2
      rw [modR_eq (n := n) (c' :: cs) (x + 1) (gs.drop c) out2 hne (by omega) (fun o ho => by
        rcases l3 o ho with e | e
        · have := ha o e; omega
        · omega) (by omega) (by rw [List.length_drop]; omega)]
      cases hu : decR (x + 1) (c' :: cs) (gs.drop c) with
      | none => rfl
      | some L =>
        have l4 := decR_len hne (by rw [List.length_drop]; omega) hu
        have h1 := hiff.1 ⟨out2, hp⟩
        obtain ⟨R, hR⟩ := (insF_iff x (gs.take c) L).2 ⟨h1.1, by rw [l4]; omega⟩
        rw [Option.bind_some, hR, Option.map_some, Option.map_some, plc_fill hp hR ha2]
theorem free8_all (v : Nat) : ∀ t : Nat, free8 0 (List.replicate t v) = t
  | 0 => rfl
  | t + 1 => by rw [List.replicate_succ, free8, free8_all v t]; simp; omega
theorem fill8_zero (v : Nat) : ∀ (t : Nat) (L : List Nat), L.length = t → fill8 0 (List.replicate t v) L = L
  | 0, L, h => by rw [List.length_eq_zero_iff.1 h]; rfl
  | t + 1, [], h => by simp at h
  | t + 1, a :: L, h => by rw [List.replicate_succ, fill8_free _ _ _ (by omega), fill8_zero v t L (by simpa using h)]
theorem modR_zero {cs : List Nat} {gs : List Int} (hne : cs ≠ []) (hs : gs.length + last8 cs = cs.sum) : modR 0 cs gs (List.replicate cs.sum (cs.length - 1)) = decR 0 cs gs := by
  rw [modR_eq (n := cs.length) cs 0 gs _ hne (by omega) (fun o ho => .inr (List.eq_of_mem_replicate ho)) (free8_all _ _) hs]
  cases hd : decR 0 cs gs with
  | none => rfl
  | some L => rw [Option.map_some, fill8_zero _ _ _ (decR_len hne hs hd)]
/-- The list of inversion frequencies; none where they are those of no list. -/
def uiA (z g : List Int) (n : Int) : Option (List Nat) := if szOk z g.length n = true then decR 0 (z.map Int.toNat) g else none
def uiL (z g : List Int) (n : Int) : List Int := ints ((uiA z g n).getD [])
def uiOk (z g : List Int) (n : Int) : Bool := (uiA z g n).isSome
/-- What sizes that are right say. -/
theorem szOk_nats {z g : List Int} {n : Int} (h : szOk z g.length n = true) : ∃ (cs : List Nat) (m : Nat), z = ints cs ∧ n = m ∧ cs.length = m ∧ 1 ≤ m ∧ m ≤ 256 ∧ cs.sum ≤ 600 ∧ g.length + last8 cs = cs.sum ∧ totF z 0 = some cs.sum := by
  obtain ⟨h1, h2, h3, h4, h5⟩ := (szOk_iff z g.length n).1 h
  cases ht : totF z 0 with
  | none => rw [ht] at h4; simp [totI] at h4
  | some t =>
    obtain ⟨e1, e2, e3⟩ := totF_sum (by omega) ht
    rw [ht] at h5
    have h6 : z.getD (z.length - 1) 0 = (last8 (z.map Int.toNat) : Int) := by
      conv => lhs; rw [e3]
      rw [ints_get, ints_len]
      rfl
    rw [h6] at h5
    simp only [totI] at h5
    refine ⟨z.map Int.toNat, n.toNat, e3, by omega, by simp only [List.length_map]; omega, by omega, by omega, by omega, by omega, by rw [e1, Nat.zero_add]⟩
theorem uiA_yes {cs : List Nat} {g : List Int} {m : Nat} (h : szOk (ints cs) g.length m = true) : uiA (ints cs) g m = decR 0 cs g := by unfold uiA; rw [if_pos h, ints_toNat]
theorem uiA_no {z g : List Int} {n : Int} (h : szOk z g.length n = false) : uiA z g n = none := by unfold uiA; rw [h]; rfl
theorem szOk_of {cs : List Nat} {g : List Int} {m : Nat} (h1 : 1 ≤ m) (h2 : m ≤ 256) (h3 : cs.length = m) (h4 : cs.sum ≤ 600) (h5 : g.length + last8 cs = cs.sum) : szOk (ints cs) g.length m = true := by
  have ht := totF_of cs 0 (by omega)
  rw [Nat.zero_add] at ht
  rw [szOk_iff, ht, ints_len, ints_get]
  simp only [totI]
  refine ⟨by omega, by omega, by omega, by omega, ?_⟩
  have : cs.getD (cs.length - 1) 0 = last8 cs := rfl
  omega
theorem decR_mem {n : Nat} : ∀ {cs : List Nat} {x : Nat} {gs : List Int} {L : List Nat}, x + cs.length = n → decR x cs gs = some L → ∀ y ∈ L, x ≤ y ∧ y < n
  | [], _, _, L, _, h => by rw [decR] at h; obtain rfl := (Option.some.inj h).symm; simp
  | [c], x, gs, L, hn, h => by
    rw [decR_one] at h
    obtain rfl := (Option.some.inj h).symm
    intro y hy
    have := List.eq_of_mem_replicate hy
    simp at hn
    omega
  | c :: c' :: cs, x, gs, L, hn, h => by
    rw [decR_more x c gs (by simp)] at h
    rw [List.length_cons] at hn
    cases hu : decR (x + 1) (c' :: cs) (gs.drop c) with
    | none => rw [hu] at h; cases h
    | some v =>
      rw [hu] at h
      have ih := decR_mem (n := n) (by omega) hu
      have hpos : 0 < (c' :: cs).length := by simp
      have key : ∀ (gs : List Int) (l r : List Nat), insF x l gs = some r → (∀ y ∈ l, x ≤ y ∧ y < n) → ∀ y ∈ r, x ≤ y ∧ y < n := by
        intro gs
        induction gs with
        | nil => intro l r h hl; rw [insF] at h; obtain rfl := Option.some.inj h; exact hl
        | cons g gs ihg =>
          intro l r h hl
          by_cases hg : 0 ≤ g ∧ g ≤ (l.length : Int)
          · obtain ⟨q, rfl⟩ : ∃ q : Nat, g = q := ⟨g.toNat, by omega⟩
            rw [insF_yes gs (by omega)] at h
            cases hw : insF x (l.drop q) gs with
            | none => rw [hw] at h; cases h
            | some s =>
              rw [hw] at h
              obtain rfl := (Option.some.inj h).symm
              intro y hy
              rcases List.mem_append.1 hy with hy | hy
              · exact hl y (List.mem_of_mem_take hy)
              · rcases List.mem_cons.1 hy with rfl | hy
                · omega
                · exact ihg _ _ hw (fun y hy => hl y (List.mem_of_mem_drop hy)) y hy
          · rw [insF_no gs hg] at h; cases h
      exact key _ _ _ h (fun y hy => by have := ih y hy; omega)
theorem uiA_len {z g : List Int} {n : Int} {L : List Nat} (h : uiA z g n = some L) : L.length ≤ 600 ∧ ∀ x ∈ L, x < 256 ∧ (x : Int) < n := by
  by_cases hz : szOk z g.length n = true
  · obtain ⟨cs, m, rfl, rfl, e1, e2, e3, e4, e5, _⟩ := szOk_nats hz
    rw [uiA_yes hz] at h
    have hne : cs ≠ [] := fun e => by subst e; simp at e1; omega
    refine ⟨by rw [decR_len hne e5 h]; exact e4, fun x hx => ?_⟩
    have := decR_mem (n := m) (by omega) h x hx
    omega
  · rw [uiA_no (by simpa using hz)] at h; cases h
end Go.Proofs.Ytpdicijoohahaaa
namespace Go.Proofs.Ytpdicijoohahaaa
set_option linter.unusedVariables false
set_option linter.unusedSimpArgs false

theorem ints_append8 (a b : List Nat) : ints (a ++ b) = ints a ++ ints b := by simp [ints]
theorem gapsF_pre {x : Nat} : ∀ (p t : List Nat) (g : Nat), (∀ y ∈ p, x < y) → gapsF x g (p ++ t) = gapsF x (g + p.length) t
  | [], t, g, _ => rfl
  | y :: p, t, g, h => by
    rw [List.cons_append, gapsF_gt _ (h y (List.mem_cons_self ..)), gapsF_pre p t (g + 1) (fun z hz => h z (List.mem_cons_of_mem _ hz)), List.length_cons]
    congr 1; omega
theorem gapsF_none {x : Nat} (p : List Nat) (g : Nat) (h : ∀ y ∈ p, x < y) : gapsF x g p = [] := by
  have := gapsF_pre p [] g h
  rw [List.append_nil] at this
  rw [this]; rfl
theorem gapsF_filter {x j : Nat} (hj : x < j) : ∀ (r : List Nat) (g : Nat), gapsF j g (r.filter (fun y => decide (x < y))) = gapsF j g r
  | [], _ => rfl
  | y :: ys, g => by
    by_cases h : x < y
    · rw [List.filter_cons_of_pos (by simpa using h)]
      by_cases h2 : j < y
      · rw [gapsF_gt _ h2, gapsF_gt _ h2, gapsF_filter hj ys]
      · by_cases e : y = j
        · subst e; rw [gapsF_eq, gapsF_eq, gapsF_filter hj ys]
        · rw [gapsF_lt _ (by omega), gapsF_lt _ (by omega), gapsF_filter hj ys]
    · rw [List.filter_cons_of_neg (by simpa using h), gapsF_lt _ (by omega), gapsF_filter hj ys]
/-- All x's come to their places. -/
theorem ins_gaps {x : Nat} : ∀ (L pre : List Nat), insF x (pre ++ L.filter (fun y => decide (x < y))) (ints (gapsF x pre.length L)) = some (pre ++ L.filter (fun y => decide (x ≤ y)))
  | [], pre => by simp [gapsF, ints, insF]
  | y :: ys, pre => by
    by_cases h : x < y
    · rw [gapsF_gt _ h, List.filter_cons_of_pos (by simpa using h), List.filter_cons_of_pos (by simp; omega)]
      have := ins_gaps (x := x) ys (pre ++ [y])
      simpa using this
    · by_cases e : y = x
      · subst e
        rw [gapsF_eq, List.filter_cons_of_neg (by simp), List.filter_cons_of_pos (by simp)]
        have := ins_gaps (x := y) ys []
        rw [List.nil_append, List.nil_append, List.length_nil] at this
        show insF y _ ((pre.length : Int) :: ints (gapsF y 0 ys)) = _
        rw [insF_yes _ (by simp), List.drop_left, List.take_left, this]
        rfl
      · rw [gapsF_lt _ (by omega), List.filter_cons_of_neg (by simp; omega), List.filter_cons_of_neg (by simp; omega)]
        exact ins_gaps ys pre
theorem filter_top {L : List Nat} {m : Nat} (h : ∀ x ∈ L, x < m + 1) : L.filter (fun y => decide (m ≤ y)) = List.replicate (L.count m) m := by
  rw [← List.filter_beq]
  apply List.filter_congr
  intro x hx
  have := h x hx
  rw [Bool.eq_iff_iff]
  simp
  omega
theorem filter_lt_succ (L : List Nat) (k : Nat) : L.filter (fun y => decide (k + 1 ≤ y)) = L.filter (fun y => decide (k < y)) := rfl
theorem dec_inv {L : List Nat} : ∀ (j k m : Nat), m = k + j + 1 → (∀ x ∈ L, x < m) → decR k ((List.range' k (j + 1)).map fun x => L.count x) (ints ((List.range' k j).flatMap (gapsL L))) = some (L.filter (fun y => decide (k ≤ y)))
  | 0, k, m, hm, h => by
    show decR k [L.count k] _ = _
    rw [decR_one, filter_top (fun x hx => by have := h x hx; omega)]
  | j + 1, k, m, hm, h => by
    have ih := dec_inv j (k + 1) m (by omega) h
    have e1 : List.range' k (j + 1 + 1) = k :: List.range' (k + 1) (j + 1) := rfl
    have e2 : List.range' k (j + 1) = k :: List.range' (k + 1) j := rfl
    rw [e1, e2, List.map_cons, List.flatMap_cons, ints_append8, decR_more _ _ _ (by simp)]
    have hl : (ints (gapsL L k)).length = L.count k := by rw [ints_len]; exact gapsF_len k L 0
    rw [List.take_left' hl, List.drop_left' hl, ih]
    show insF k _ _ = _
    rw [filter_lt_succ]
    have := ins_gaps (x := k) L []
    rw [List.nil_append, List.nil_append] at this
    exact this
theorem inv_counts {L : List Nat} {m : Nat} (h : ∀ x ∈ L, x < m) (hm : 1 ≤ m) : (gapsTo L (m - 1)).length + L.count (m - 1) = ((List.range m).map fun x => L.count x).sum := by
  obtain ⟨q, rfl⟩ : ∃ q, m = q + 1 := ⟨m - 1, by omega⟩
  rw [gapsTo_len, List.range_succ, List.map_append, List.sum_append]
  simp
theorem ui_inv {L : List Nat} {m : Nat} (h : rOk (ints L) m = true) (hm1 : 1 ≤ m) (hm2 : m ≤ 256) (hl : L.length ≤ 600) (hL : ∀ x ∈ L, x < m) : uiA (invC (ints L) m) (invG (ints L) m) m = some L := by
  rw [invC_yes h, invG_yes h]
  have hs := count_sum m L hL
  have hlast : last8 ((List.range m).map fun x => L.count x) = L.count (m - 1) := by
    unfold last8
    rw [List.length_map, List.length_range, List.getD_eq_getElem?_getD, List.getElem?_map, List.getElem?_range (by omega)]
    rfl
  rw [uiA_yes (szOk_of hm1 hm2 (by simp) (by rw [hs]; exact hl) (by rw [ints_len, hlast]; exact inv_counts hL hm1))]
  obtain ⟨q, rfl⟩ : ∃ q, m = q + 1 := ⟨m - 1, by omega⟩
  have := dec_inv q 0 (q + 1) (by omega) hL
  rw [← List.range_eq_range', ← List.range_eq_range'] at this
  unfold gapsTo
  rw [Nat.add_sub_cancel, this]
  simp
/-- What insF makes: without the x's what it was, and the gaps are those. -/
theorem ins_back {x : Nat} : ∀ {gs : List Int} {l r : List Nat}, (∀ y ∈ l, x < y) → insF x l gs = some r → r.filter (fun y => decide (x < y)) = l ∧ ints (gapsF x 0 r) = gs ∧ r.count x = gs.length
  | [], l, r, hl, h => by
    rw [insF] at h
    obtain rfl := Option.some.inj h
    refine ⟨List.filter_eq_self.2 (fun y hy => by simpa using hl y hy), by rw [gapsF_none _ _ hl]; rfl, ?_⟩
    rw [List.count_eq_zero.2 (fun h => by have := hl x h; omega)]; rfl
  | g :: gs, l, r, hl, h => by
    by_cases hg : 0 ≤ g ∧ g ≤ (l.length : Int)
    · obtain ⟨q, rfl⟩ : ∃ q : Nat, g = q := ⟨g.toNat, by omega⟩
      rw [insF_yes gs (by omega)] at h
      cases hu : insF x (l.drop q) gs with
      | none => rw [hu] at h; cases h
      | some v =>
        rw [hu] at h
        obtain rfl := (Option.some.inj h).symm
        obtain ⟨h1, h2, h3⟩ := ins_back (fun y hy => hl y (List.mem_of_mem_drop hy)) hu
        have ht : ∀ y ∈ l.take q, x < y := fun y hy => hl y (List.mem_of_mem_take hy)
        refine ⟨?_, ?_, ?_⟩
        · rw [List.filter_append, List.filter_cons_of_neg (by simp), h1, List.filter_eq_self.2 (fun y hy => by simpa using ht y hy), List.take_append_drop]
        · rw [gapsF_pre _ _ _ ht, gapsF_eq, Nat.zero_add, List.length_take, Nat.min_eq_left (by omega)]
          show (q : Int) :: ints (gapsF x 0 v) = _
          rw [h2]
        · rw [List.count_append, List.count_cons_self, h3, List.count_eq_zero.2 (fun h => by have := ht x h; omega), List.length_cons]
          omega
    · rw [insF_no gs hg] at h; cases h
theorem dec_back {n : Nat} : ∀ {cs : List Nat} {k : Nat} {gs : List Int} {L : List Nat}, cs ≠ [] → k + cs.length = n → gs.length + last8 cs = cs.sum → decR k cs gs = some L →
    (List.range' k cs.length).map (fun x => L.count x) = cs ∧ ints ((List.range' k (cs.length - 1)).flatMap (gapsL L)) = gs
  | [], _, _, _, h, _, _, _ => absurd rfl h
  | [c], k, gs, L, _, _, hs, h => by
    rw [decR_one] at h
    obtain rfl := (Option.some.inj h).symm
    have : gs.length = 0 := by simp [last8] at hs; simpa using hs
    rw [List.length_eq_zero_iff.1 this]
    simp [ints]
  | c :: c' :: cs, k, gs, L, _, hn, hs, h => by
    have hne : c' :: cs ≠ [] := by simp
    rw [decR_more _ _ _ hne] at h
    rw [last8_cons _ hne, List.sum_cons] at hs
    have hle := last8_le (c' :: cs) hne
    cases hu : decR (k + 1) (c' :: cs) (gs.drop c) with
    | none => rw [hu] at h; cases h
    | some l =>
      rw [hu] at h
      have h' : insF k l (gs.take c) = some L := h
      have hn' : k + 1 + (c' :: cs).length = n := by simp only [List.length_cons] at hn ⊢; omega
      obtain ⟨i1, i2⟩ := dec_back hne hn' (by rw [List.length_drop]; omega) hu
      have hlk : ∀ y ∈ l, k < y := fun y hy => by have := decR_mem hn' hu y hy; omega
      obtain ⟨b1, b2, b3⟩ := ins_back hlk h'
      have hc : ∀ j, k < j → L.count j = l.count j := fun j hj => by
        rw [← b1, List.count_filter]; simpa using hj
      have hg : ∀ j, k < j → gapsL L j = gapsL l j := fun j hj => by
        unfold gapsL
        rw [← b1, gapsF_filter hj]
      refine ⟨?_, ?_⟩
      · rw [List.length_cons, List.range'_succ, List.map_cons, b3, List.length_take, Nat.min_eq_left (by omega)]
        congr 1
        rw [← i1]
        rw [show (c' :: cs).length = (List.map (fun x => List.count x l) (List.range' (k + 1) (c' :: cs).length)).length by simp] 
        rw [i1]
        conv => rhs; rw [← i1]
        apply List.map_congr_left
        intro j hj
        have := (List.mem_range'_1.1 hj).1
        exact hc j (by omega)
      · rw [show (c :: c' :: cs).length - 1 = cs.length + 1 by simp, List.range'_succ, List.flatMap_cons, ints_append8]
        have e1 : ints (gapsL L k) = gs.take c := b2
        have e2 : (List.range' (k + 1) cs.length).flatMap (gapsL L) = (List.range' (k + 1) cs.length).flatMap (gapsL l) := by
          rw [List.flatMap_def, List.flatMap_def]
          congr 1
          apply List.map_congr_left
          intro j hj
          have := (List.mem_range'_1.1 hj).1
          exact hg j (by omega)
        rw [e1, e2]
        have i2' : ints ((List.range' (k + 1) cs.length).flatMap (gapsL l)) = gs.drop c := i2
        rw [i2', List.take_append_drop]
theorem inv_ui {z g : List Int} {n : Int} {L : List Nat} (h : uiA z g n = some L) : rOk (ints L) n = true ∧ invC (ints L) n = z ∧ invG (ints L) n = g := by
  by_cases hs : szOk z g.length n = true
  · obtain ⟨cs, m, rfl, rfl, h1, h2, h3, h4, h5, h6⟩ := szOk_nats hs
    have hne : cs ≠ [] := by intro e; subst e; simp at h1; omega
    rw [uiA_yes hs] at h
    obtain ⟨b1, b2⟩ := dec_back (n := m) hne (by omega) h5 h
    have hm := decR_mem (n := m) (x := 0) (by omega) h
    have hlen := decR_len hne h5 h
    have hok : rOk (ints L) m = true := rOk_of h2 h3 (by omega) (fun x hx => (hm x hx).2)
    refine ⟨hok, ?_, ?_⟩
    · rw [invC_yes hok, List.range_eq_range', ← h1, b1]
    · rw [invG_yes hok]
      unfold gapsTo
      rw [List.range_eq_range', ← h1, b2]
  · rw [uiA_no (by simpa using hs)] at h; cases h
end Go.Proofs.Ytpdicijoohahaaa
namespace Go.Proofs.Ytpdicijoohahaaa
set_option linter.unusedVariables false
set_option linter.unusedSimpArgs false

/-- With how many elements below b it begins. -/
def frZ (b : Int) : List Int → Nat
  | [] => 0
  | x :: l => if x < b then frZ b l + 1 else 0
theorem frZ_le (b : Int) : ∀ l, frZ b l ≤ l.length
  | [] => Nat.le_refl _
  | x :: l => by
    unfold frZ
    have := frZ_le b l
    split
    · simp only [List.length_cons]; omega
    · omega
theorem frZ_in (b : Int) : ∀ (l : List Int), ∀ x ∈ l.take (frZ b l), x < b
  | [], x, h => by simp at h
  | y :: l, x, h => by
    unfold frZ at h
    by_cases hy : y < b
    · rw [if_pos hy, List.take_succ_cons] at h
      rcases List.mem_cons.1 h with rfl | h
      · exact hy
      · exact frZ_in b l x h
    · rw [if_neg hy] at h; simp at h
theorem frZ_out (b : Int) : ∀ (l : List Int) (y : Int) (r : List Int), l.drop (frZ b l) = y :: r → b ≤ y
  | [], y, r, h => by simp [frZ] at h
  | x :: l, y, r, h => by
    unfold frZ at h
    by_cases hx : x < b
    · rw [if_pos hx, List.drop_succ_cons] at h
      exact frZ_out b l y r h
    · rw [if_neg hx, List.drop_zero] at h
      injection h with h _
      omega
/-- The runs from place s on: where each begins, how long it is. -/
def chG (b : Int) (z : List Int) : Nat → Nat → List (Nat × Nat)
  | 0, _ => []
  | f + 1, s => if s < z.length then (s, max 1 (frZ b (z.drop s))) :: chG b z f (s + max 1 (frZ b (z.drop s))) else []
def chR (b : Int) (z : List Int) (s : Nat) : List (Nat × Nat) := chG b z (z.length - s) s
theorem chG_more (b : Int) (z : List Int) : ∀ (f g s : Nat), z.length - s ≤ f → z.length - s ≤ g → chG b z f s = chG b z g s
  | 0, 0, _, _, _ => rfl
  | 0, g + 1, s, h, _ => by rw [chG, chG, if_neg (by omega)]
  | f + 1, 0, s, _, h => by rw [chG, chG, if_neg (by omega)]
  | f + 1, g + 1, s, h1, h2 => by
    rw [chG, chG]
    by_cases h : s < z.length
    · rw [if_pos h, if_pos h, chG_more b z f g _ (by omega) (by omega)]
    · rw [if_neg h, if_neg h]
theorem chR_end {b : Int} {z : List Int} {s : Nat} (h : z.length ≤ s) : chR b z s = [] := by
  unfold chR
  rw [show z.length - s = 0 by omega, chG]
theorem chR_step {b : Int} {z : List Int} {s : Nat} (h : s < z.length) : chR b z s = (s, max 1 (frZ b (z.drop s))) :: chR b z (s + max 1 (frZ b (z.drop s))) := by
  unfold chR
  obtain ⟨f, hf⟩ : ∃ f, z.length - s = f + 1 := ⟨z.length - s - 1, by omega⟩
  rw [hf, chG, if_pos h, chG_more b z f (z.length - (s + max 1 (frZ b (z.drop s)))) _ (by omega) (by omega)]
theorem chR_fit {b : Int} {z : List Int} {s : Nat} (h : s < z.length) : s + max 1 (frZ b (z.drop s)) ≤ z.length := by
  have := frZ_le b (z.drop s)
  rw [List.length_drop] at this
  omega

/-- What a run of numbers packs to. -/
def pkC (z : List Int) (p : Nat × Nat) : List Nat := if 0 < z.getD p.1 0 then [(z.getD p.1 0).toNat + 1] else rsF p.2
theorem zeros_split : ∀ (L : List Nat), L = List.replicate (frZ 1 (ints L)) 0 ++ L.drop (frZ 1 (ints L)) ∧ (∀ y r, L.drop (frZ 1 (ints L)) = y :: r → 0 < y)
  | [] => by simp [ints, frZ]
  | x :: l => by
    have hs : ints (x :: l) = (x : Int) :: ints l := rfl
    rw [hs]
    unfold frZ
    by_cases hx : (x : Int) < 1
    · rw [if_pos hx]
      have hx0 : x = 0 := by omega
      subst hx0
      obtain ⟨h1, h2⟩ := zeros_split l
      refine ⟨?_, ?_⟩
      · rw [List.replicate_succ, List.cons_append, List.drop_succ_cons, ← h1]
      · rw [List.drop_succ_cons]; exact h2
    · rw [if_neg hx]
      refine ⟨by simp, fun y r h => ?_⟩
      rw [List.drop_zero] at h
      injection h with h _
      omega
theorem ints_drop (L : List Nat) (s : Nat) : (ints L).drop s = ints (L.drop s) := by unfold ints; rw [List.map_drop]
theorem pack_chunks (L : List Nat) : ∀ (k s : Nat), L.length - s ≤ k → (chR 1 (ints L) s).flatMap (pkC (ints L)) = packF 0 (L.drop s)
  | 0, s, h => by
    rw [chR_end (by rw [ints_len]; omega), List.drop_eq_nil_of_le (by omega), packF_nil]; rfl
  | k + 1, s, h => by
    by_cases hs : s < L.length
    · rw [chR_step (by rw [ints_len]; exact hs), List.flatMap_cons]
      have hd := drop_cons L s hs
      have hpos : s + max 1 (frZ 1 ((ints L).drop s)) ≤ L.length := by have := chR_fit (b := 1) (z := ints L) (s := s) (by rw [ints_len]; exact hs); rwa [ints_len] at this
      rw [pack_chunks L k _ (by omega)]
      unfold pkC
      simp only
      rw [ints_get, ints_drop]
      rw [ints_drop] at hpos
      obtain ⟨x, hx⟩ : ∃ x, L.getD s 0 = x := ⟨_, rfl⟩
      rw [hx] at hd ⊢
      by_cases h0 : 0 < x
      · have hfr : frZ 1 (ints (L.drop s)) = 0 := by
          rw [hd]
          show frZ 1 ((x : Int) :: ints (L.drop (s + 1))) = 0
          unfold frZ
          rw [if_neg (by omega)]
        rw [hfr, if_pos (by omega), hd, packF_pos 0 h0, rsF_zero]
        simp
      · have hx0 : x = 0 := by omega
        subst hx0
        obtain ⟨h1, h2⟩ := zeros_split (L.drop s)
        have hfr : 1 ≤ frZ 1 (ints (L.drop s)) := by
          rw [hd]
          show 1 ≤ frZ 1 ((0 : Int) :: ints (L.drop (s + 1)))
          unfold frZ
          rw [if_pos (by omega)]
          omega
        rw [if_neg (by omega)]
        obtain ⟨e, he⟩ : ∃ e, frZ 1 (ints (L.drop s)) = e := ⟨_, rfl⟩
        rw [he] at h1 h2 hfr ⊢
        rw [show max 1 e = e by omega]
        rw [List.drop_drop] at h1 h2
        conv => rhs; rw [h1, packF_reps, Nat.zero_add]
        cases hR : L.drop (s + e) with
        | nil => rw [packF_nil, packF_nil, rsF_zero, List.append_nil]
        | cons y r =>
          have hy := h2 y r hR
          rw [packF_pos 0 hy, packF_pos e hy, rsF_zero, List.nil_append]
    · rw [chR_end (by rw [ints_len]; omega), List.drop_eq_nil_of_le (by omega), packF_nil]; rfl

/-- What a run of symbols unpacks to; none where it is no such. -/
def upC (n : Int) (z : List Int) (p : Nat × Nat) : Option (List Nat) :=
  if 0 < rlZ ((z.drop p.1).take p.2) then some (List.replicate (rlZ ((z.drop p.1).take p.2)).toNat 0)
  else if 2 ≤ z.getD p.1 0 ∧ z.getD p.1 0 ≤ n then some [(z.getD p.1 0 - 1).toNat] else none
def upS (n : Int) (z : List Int) : List (Nat × Nat) → Option (List Nat)
  | [] => some []
  | p :: ps => (upC n z p).bind fun a => (upS n z ps).map (a ++ ·)
theorem upS_append (n : Int) (z : List Int) : ∀ (ps qs : List (Nat × Nat)), upS n z (ps ++ qs) = (upS n z ps).bind fun a => (upS n z qs).map (a ++ ·)
  | [], qs => by
    rw [List.nil_append, upS, Option.bind_some]
    cases upS n z qs <;> simp
  | p :: ps, qs => by
    rw [List.cons_append, upS, upS, upS_append n z ps qs]
    cases upC n z p with
    | none => rfl
    | some a =>
      cases upS n z ps with
      | none => rfl
      | some b =>
        simp only [Option.bind_some, Option.map_some]
        cases upS n z qs <;> simp
theorem upS_snoc (n : Int) (z : List Int) (ps : List (Nat × Nat)) (p : Nat × Nat) : upS n z (ps ++ [p]) = (upS n z ps).bind fun a => (upC n z p).map (a ++ ·) := by
  rw [upS_append]
  have : upS n z [p] = upC n z p := by
    unfold upS upS
    cases upC n z p <;> simp
  rw [this]
theorem unF_more {n : Int} {d : List Int} {a : List Nat} {y : Int} (R : List Int) (hy : ¬ (y = 0 ∨ y = 1)) (ha : zerF d = some a) : unF n d (y :: R) = (unF n [] (y :: R)).map (a ++ ·) := by
  by_cases hn : 2 ≤ y ∧ y ≤ n
  · rw [unF_yes R hn ha, unF_yes R hn zerF_nil]
    cases unF n [] R <;> simp
  · rw [unF_no R hy hn, unF_no R hy hn]; rfl
theorem unF_neg {n : Int} : ∀ (c d R : List Int), (∀ x ∈ c, x < 2) → (¬ ∀ x ∈ c, x = 0 ∨ x = 1) → unF n d (c ++ R) = none
  | [], d, R, _, h => absurd (fun x hx => by cases hx) h
  | x :: c, d, R, h, h2 => by
    rw [List.cons_append]
    by_cases hx : x = 0 ∨ x = 1
    · rw [unF_digit _ hx]
      refine unF_neg c _ R (fun y hy => h y (List.mem_cons_of_mem _ hy)) (fun h3 => h2 (fun y hy => ?_))
      rcases List.mem_cons.1 hy with rfl | hy
      · exact hx
      · exact h3 y hy
    · have := h x (List.mem_cons_self ..)
      exact unF_no _ hx (by omega)
theorem un_chunks (n : Int) (z : List Int) : ∀ (k s : Nat), z.length - s ≤ k → unF n [] (z.drop s) = upS n z (chR 2 z s)
  | 0, s, h => by rw [chR_end (by omega), List.drop_eq_nil_of_le (by omega), unF, zerF_nil, upS]
  | k + 1, s, h => by
    by_cases hs : s < z.length
    · rw [chR_step hs, upS]
      have hd := dropZ_cons z s hs
      have hfit := chR_fit (b := 2) hs
      rw [← un_chunks n z k (s + max 1 (frZ 2 (z.drop s))) (by omega)]
      obtain ⟨x, hx⟩ : ∃ x, z.getD s 0 = x := ⟨_, rfl⟩
      unfold upC
      simp only
      rw [hx]
      rw [hx] at hd
      by_cases h2 : 2 ≤ x
      · have hfr : frZ 2 (z.drop s) = 0 := by rw [hd]; unfold frZ; rw [if_neg (by omega)]
        rw [hfr]
        have hc : (z.drop s).take (max 1 0) = [x] := by rw [hd]; rfl
        have hrl : rlZ [x] = -1 := rlZ_no (fun h3 => by have := ((rlOk_iff [x]).1 h3).2.1 x (by simp); omega)
        rw [hc, hrl, if_neg (by omega), hd]
        by_cases hn : x ≤ n
        · rw [if_pos ⟨h2, hn⟩, unF_yes _ ⟨h2, hn⟩ zerF_nil]
          simp only [Option.bind_some]
          rfl
        · rw [if_neg (by omega), unF_no _ (by omega) (by omega)]; rfl
      · have hfr : 1 ≤ frZ 2 (z.drop s) := by rw [hd]; unfold frZ; rw [if_pos (by omega)]; omega
        obtain ⟨e, he⟩ : ∃ e, frZ 2 (z.drop s) = e := ⟨_, rfl⟩
        have hin := frZ_in 2 (z.drop s)
        have hout := frZ_out 2 (z.drop s)
        rw [he] at hfr hin hout hfit ⊢
        rw [show max 1 e = e by omega]
        have hsp : z.drop s = (z.drop s).take e ++ z.drop (s + e) := by rw [← List.drop_drop, List.take_append_drop]
        rw [List.drop_drop] at hout
        obtain ⟨c, hc⟩ : ∃ c, (z.drop s).take e = c := ⟨_, rfl⟩
        rw [hc] at hin hsp ⊢
        have hne : c ≠ [] := by
          rw [← hc, hd]
          obtain ⟨q, rfl⟩ : ∃ q, e = q + 1 := ⟨e - 1, by omega⟩
          simp
        rw [hsp, if_neg (show ¬ (2 ≤ x ∧ x ≤ n) by omega)]
        by_cases hdg : ∀ y ∈ c, y = 0 ∨ y = 1
        · rw [unF_digits c [] _ hdg, List.nil_append]
          have hz := zerF_cons hne
          cases hR : z.drop (s + e) with
          | nil =>
            rw [unF, unF, hz, zerF_nil]
            split
            · simp
            · rfl
          | cons y R =>
            have hy := hout y R hR
            by_cases hp : 0 < rlZ c
            · rw [if_pos hp] at hz ⊢
              rw [unF_more R (by omega) hz]; rfl
            · rw [if_neg hp] at hz ⊢
              rw [unF_bad R (by omega) hz]; rfl
        · rw [unF_neg c [] _ hin hdg]
          have hrl : rlZ c = -1 := rlZ_no (fun h3 => hdg ((rlOk_iff c).1 h3).2.1)
          rw [hrl, if_neg (by omega)]
          rfl
    · rw [chR_end (by omega), List.drop_eq_nil_of_le (by omega), unF, zerF_nil, upS]
/-- A part of the runs that is bad: so is the whole. -/
theorem up_prefix_none {n most : Int} {z : List Int} {pre : List (Nat × Nat)} (hp : pre <+: chR 2 z.dropLast 0) (h : upS n z.dropLast pre = none) : upA z n most = none := by
  obtain ⟨q, hq⟩ := hp
  refine upA_none ?_
  have := un_chunks n z.dropLast z.dropLast.length 0 (by omega)
  rw [List.drop_zero] at this
  rw [this, ← hq, upS_append, h]; rfl
theorem up_prefix_long {n most : Int} {z : List Int} {pre : List (Nat × Nat)} {a : List Nat} (hp : pre <+: chR 2 z.dropLast 0) (h : upS n z.dropLast pre = some a) (h2 : ¬ ((a.length : Int) ≤ most ∧ a.length ≤ 600)) : upA z n most = none := by
  obtain ⟨q, hq⟩ := hp
  have := un_chunks n z.dropLast z.dropLast.length 0 (by omega)
  rw [List.drop_zero, ← hq, upS_append, h, Option.bind_some] at this
  cases hr : upS n z.dropLast q with
  | none => rw [hr] at this; exact upA_none this
  | some r =>
    rw [hr] at this
    refine upA_long (y := a ++ r) this ?_
    rw [List.length_append]
    omega
theorem up_done {n most : Int} {z : List Int} {a : List Nat} (h0 : 1 ≤ n ∧ n ≤ 256 ∧ z ≠ [] ∧ z.getD (z.length - 1) 0 = n + 1) (h : upS n z.dropLast (chR 2 z.dropLast 0) = some a) (h2 : (a.length : Int) ≤ most ∧ a.length ≤ 600) : upA z n most = some a := by
  have := un_chunks n z.dropLast z.dropLast.length 0 (by omega)
  rw [List.drop_zero, h] at this
  exact upA_yes h0 this h2
end Go.Proofs.Ytpdicijoohahaaa
namespace Go.Proofs.Ytpdicijoohahaaa
set_option linter.unusedVariables false
set_option linter.unusedSimpArgs false
open Go.RowKit

theorem seg_ints {w : World} {B b off : Nat} {z : List Int} (hl : z.length ≤ 1048576) (hr : ∀ x ∈ z, -9223372036854775808 ≤ x ∧ x ≤ 9223372036854775807) (hb : b < B) (hc : ∀ i, i < z.length → w.cell? ⟨b, off + i, none⟩ = some (.int .i64 (z.getD i 0))) {i f : Nat} (hi : i ≤ z.length) :
    Ints w B (some ⟨b, off + f, none⟩) ((z.take i).drop f) := by
  refine ⟨by rw [seg_len hi]; omega, fun x hx => hr x (List.mem_of_mem_take (List.mem_of_mem_drop hx)), fun _ => ⟨b, off + f, rfl, hb, fun j hj => ?_⟩⟩
  rw [seg_len hi] at hj
  rw [seg_get hi (by omega), Nat.add_assoc]
  exact hc _ (by omega)
/-- No element: whatever the address. -/
theorem ints_nil (w : World) (B : Nat) (a : Option Addr) : Ints w B a [] := ⟨by simp, by simp, fun h => by simp at h⟩
theorem seg_take (gz : List Int) (f c : Nat) (h : f + c ≤ gz.length) : (gz.take (f + c)).drop f = (gz.drop f).take c := by
  rw [List.drop_take]
  congr 1
  omega
end Go.Proofs.Ytpdicijoohahaaa
namespace Go.Proofs.Ytpdicijoohahaaa
set_option linter.unusedVariables false
set_option linter.unusedSimpArgs false

/-- x stands ahead of y: its sum is greater, or the sums are equal and it is the less number. -/
def bfS (f : Nat → Nat) (x y : Nat) : Prop := f y < f x ∨ (f x = f y ∧ x < y)
theorem bfS_irr (f : Nat → Nat) (x : Nat) : ¬ bfS f x x := by unfold bfS; omega
theorem bfS_asym (f : Nat → Nat) {x y : Nat} (h : bfS f x y) : ¬ bfS f y x := by unfold bfS at *; omega
theorem bfS_trans (f : Nat → Nat) {x y z : Nat} (h : bfS f x y) (h2 : bfS f y z) : bfS f x z := by unfold bfS at *; omega
theorem bfS_total (f : Nat → Nat) {x y : Nat} (h : x ≠ y) : bfS f x y ∨ bfS f y x := by unfold bfS; omega
/-- The numbers below n, sorted so. -/
def ByS (f : Nat → Nat) (n : Nat) (S : List Nat) : Prop := PermN n S ∧ S.Pairwise (bfS f)
theorem byS_unique {f : Nat → Nat} {n : Nat} {S S2 : List Nat} (h : ByS f n S) (h2 : ByS f n S2) : S = S2 := by
  refine List.Perm.eq_of_pairwise ?_ h.2 h2.2 (h.1.trans h2.1.symm)
  intro a b _ _ h3 h4
  exact absurd h4 (bfS_asym f h3)
theorem ins_pair {R : Nat → Nat → Prop} {P Q : List Nat} {x : Nat} (h : (P ++ Q).Pairwise R) (h1 : ∀ y ∈ P, R y x) (h2 : ∀ y ∈ Q, R x y) : (P ++ x :: Q).Pairwise R := by
  obtain ⟨a, b, c⟩ := List.pairwise_append.1 h
  refine List.pairwise_append.2 ⟨a, List.pairwise_cons.2 ⟨h2, b⟩, ?_⟩
  intro y hy z hz
  rcases List.mem_cons.1 hz with e | e
  · rw [e]; exact h1 y hy
  · exact c y hy z e
/-- Where there is one: the numbers below n in their order. -/
def insS (f : Nat → Nat) (x : Nat) : List Nat → List Nat
  | [] => [x]
  | y :: ys => if f y < f x ∨ (f x = f y ∧ x < y) then x :: y :: ys else y :: insS f x ys
def byL (f : Nat → Nat) : Nat → List Nat
  | 0 => []
  | n + 1 => insS f n (byL f n)
theorem insS_perm (f : Nat → Nat) (x : Nat) : ∀ (S : List Nat), (insS f x S).Perm (x :: S)
  | [] => List.Perm.refl _
  | y :: ys => by
    unfold insS
    split
    · exact List.Perm.refl _
    · exact ((insS_perm f x ys).cons y).trans (List.Perm.swap x y ys)
theorem insS_pair (f : Nat → Nat) (x : Nat) : ∀ (S : List Nat), S.Pairwise (bfS f) → x ∉ S → (insS f x S).Pairwise (bfS f)
  | [], _, _ => by simp [insS]
  | y :: ys, h, hx => by
    obtain ⟨h1, h2⟩ := List.pairwise_cons.1 h
    have hxy : x ≠ y := fun e => hx (e ▸ List.mem_cons_self ..)
    unfold insS
    split
    · next hb =>
      refine List.pairwise_cons.2 ⟨?_, h⟩
      intro z hz
      rcases List.mem_cons.1 hz with e | e
      · rw [e]; exact hb
      · exact bfS_trans f hb (h1 z e)
    · next hb =>
      refine List.pairwise_cons.2 ⟨?_, insS_pair f x ys h2 (fun hm => hx (List.mem_cons_of_mem _ hm))⟩
      intro z hz
      rcases List.mem_cons.1 ((insS_perm f x ys).mem_iff.1 hz) with e | e
      · rw [e]
        rcases bfS_total f hxy with h3 | h3
        · exact absurd h3 hb
        · exact h3
      · exact h1 z e
theorem byL_by (f : Nat → Nat) : ∀ (n : Nat), ByS f n (byL f n)
  | 0 => ⟨List.Perm.refl _, List.Pairwise.nil⟩
  | n + 1 => by
    obtain ⟨h1, h2⟩ := byL_by f n
    refine ⟨?_, insS_pair f n _ h2 (fun hm => by have := (h1.mem n).1 hm; omega)⟩
    show (insS f n (byL f n)).Perm (List.range (n + 1))
    rw [List.range_succ]
    exact ((insS_perm f n _).trans (h1.cons n)).trans (List.perm_append_comm (l₁ := [n]))
/-- The times of the symbols, and how many have come. -/
structure SB where
  a : Nat → Nat
  b : Nat → Nat
  t : Nat
def SB.sm (s : SB) (x : Nat) : Nat := s.a x + s.b x
def SB.up (s : SB) (x : Nat) : SB := ⟨fun y => if y = x then s.t + 1 else s.a y, fun y => if y = x then s.a x else s.b y, s.t + 1⟩
def sb0 : SB := ⟨fun _ => 0, fun _ => 0, 0⟩
def sbrF (n : Nat) (s : SB) (x : Nat) : Nat × SB := ((byL s.sm n).idxOf x, s.up x)
def usbF (n : Nat) (s : SB) (k : Nat) : Nat × SB := ((byL s.sm n).getD k 0, s.up ((byL s.sm n).getD k 0))
/-- No time is later than now. -/
def SB.ok (s : SB) : Prop := ∀ x, s.a x ≤ s.t ∧ s.b x ≤ s.t
theorem sb0_ok : sb0.ok := fun _ => ⟨Nat.le_refl _, Nat.le_refl _⟩
theorem SB.ok.up {s : SB} (h : s.ok) (x : Nat) : (s.up x).ok := fun y => by
  have := h y
  have := h x
  show (if y = x then s.t + 1 else s.a y) ≤ s.t + 1 ∧ (if y = x then s.a x else s.b y) ≤ s.t + 1
  split <;> omega
theorem sm_up (s : SB) (x y : Nat) : (s.up x).sm y = if y = x then s.t + 1 + s.a x else s.sm y := by
  show (if y = x then s.t + 1 else s.a y) + (if y = x then s.a x else s.b y) = _
  split <;> rfl
theorem sm_range0 : byL sb0.sm = byL fun _ => 0 := rfl
theorem by_zero (n : Nat) : ByS (fun _ => 0) n (List.range n) := ⟨PermN.start n, by
  refine List.pairwise_lt_range.imp ?_
  intro a b h
  exact .inr ⟨rfl, h⟩⟩
/-- An insertion that stands behind all that are ahead of x, ahead of all that are behind it, is the order by the new sums. -/
theorem by_move {s : SB} {n x : Nat} {P Q : List Nat} (h : ByS s.sm n (P ++ x :: Q)) (hok : s.ok) (p : Nat) (hp : p ≤ P.length) (h1 : ∀ y ∈ P.drop p, bfS (s.up x).sm x y) (h2 : ∀ y ∈ P.take p, bfS (s.up x).sm y x) :
    ByS (s.up x).sm n (P.take p ++ x :: (P.drop p ++ Q)) := by
  obtain ⟨hP, hS⟩ := h
  have hnd := hP.nodup
  have hd := (List.perm_middle (a := x) (l₁ := P) (l₂ := Q)).nodup_iff.1 hnd
  have hxn : x ∉ P ++ Q := (List.nodup_cons.1 hd).1
  obtain ⟨a, b, c⟩ := List.pairwise_append.1 hS
  obtain ⟨b1, b2⟩ := List.pairwise_cons.1 b
  have hgrow : s.sm x < (s.up x).sm x := by
    rw [sm_up, if_pos rfl]
    have := hok x
    show s.a x + s.b x < _
    omega
  have same : ∀ y ∈ P ++ Q, (s.up x).sm y = s.sm y := fun y hy => by
    rw [sm_up, if_neg]
    intro e
    rw [e] at hy
    exact hxn hy
  have hPQ : (P ++ Q).Pairwise (bfS (s.up x).sm) := by
    have : (P ++ Q).Pairwise (bfS s.sm) := List.pairwise_append.2 ⟨a, b2, fun y hy z hz => c y hy z (List.mem_cons_of_mem _ hz)⟩
    refine List.Pairwise.imp_of_mem ?_ this
    intro y z hy hz hb
    unfold bfS at hb ⊢
    rw [same y hy, same z hz]
    exact hb
  refine ⟨?_, ?_⟩
  · refine List.Perm.trans ?_ hP
    refine (List.perm_middle).trans (List.Perm.trans ?_ List.perm_middle.symm)
    rw [← List.append_assoc, List.take_append_drop]
  · refine ins_pair (by rw [← List.append_assoc, List.take_append_drop]; exact hPQ) h2 ?_
    intro y hy
    rcases List.mem_append.1 hy with hy | hy
    · exact h1 y hy
    · have := b1 y hy
      unfold bfS at this ⊢
      rw [same y (List.mem_append_right _ hy)]
      omega
def sbrZ (z : List Int) (n : Int) : List Int := if rOk z n = true then ints (runF (sbrF n.toNat) sb0 (z.map Int.toNat)) else []
def usbZ (z : List Int) (n : Int) : List Int := if rOk z n = true then ints (runF (usbF n.toNat) sb0 (z.map Int.toNat)) else []
theorem sbrZ_yes {L : List Nat} {m : Nat} (h : rOk (ints L) m = true) : sbrZ (ints L) m = ints (runF (sbrF m) sb0 L) := by unfold sbrZ; rw [if_pos h, ints_toNat]; rfl
theorem usbZ_yes {L : List Nat} {m : Nat} (h : rOk (ints L) m = true) : usbZ (ints L) m = ints (runF (usbF m) sb0 L) := by unfold usbZ; rw [if_pos h, ints_toNat]; rfl
theorem sbrZ_no {z : List Int} {n : Int} (h : rOk z n = false) : sbrZ z n = [] := by unfold sbrZ; rw [h]; rfl
theorem usbZ_no {z : List Int} {n : Int} (h : rOk z n = false) : usbZ z n = [] := by unfold usbZ; rw [h]; rfl
theorem sbr_lt {n : Nat} {L : List Nat} (hL : ∀ x ∈ L, x < n) : ∀ y ∈ runF (sbrF n) sb0 L, y < n :=
  runF_all (fun _ => True) (· < n) (· < n) (fun s x _ hx => ⟨(byL_by s.sm n).1.idx hx, trivial⟩) L _ trivial hL
theorem usb_lt {n : Nat} {L : List Nat} (hL : ∀ x ∈ L, x < n) : ∀ y ∈ runF (usbF n) sb0 L, y < n :=
  runF_all (fun _ => True) (· < n) (· < n) (fun s x _ hx => ⟨(byL_by s.sm n).1.at hx, trivial⟩) L _ trivial hL
/-- A row with a hole at p, whose other places hold S. -/
def Sh (X S : List Nat) (p : Nat) : Prop := X.length = S.length + 1 ∧ X.take p = S.take p ∧ X.drop (p + 1) = S.drop p
theorem Sh.start (S : List Nat) (x : Nat) : Sh (S ++ [x]) S S.length := ⟨by simp, by simp, by simp⟩
theorem Sh.mid (P Q : List Nat) (x : Nat) : Sh (P ++ x :: Q) (P ++ Q) P.length := ⟨by simp; omega, by simp, by simp [List.drop_append]⟩
theorem getD_take (L : List Nat) (p q : Nat) (h : q < p) : (L.take p).getD q 0 = L.getD q 0 := by simp [List.getD_eq_getElem?_getD, List.getElem?_take, h]
theorem Sh.get {X S : List Nat} {q : Nat} (h : Sh X S (q + 1)) : X.getD q 0 = S.getD q 0 := by
  have := congrArg (fun (l : List Nat) => l.getD q 0) h.2.1
  rwa [getD_take _ _ _ (by omega), getD_take _ _ _ (by omega)] at this
theorem Sh.step {X S : List Nat} {q : Nat} (h : Sh X S (q + 1)) (hq : q < S.length) : Sh (X.set (q + 1) (S.getD q 0)) S q := by
  obtain ⟨h1, h2, h3⟩ := h
  refine ⟨by rw [List.length_set, h1], ?_, ?_⟩
  · have := congrArg (List.take q) h2
    rw [List.take_take, List.take_take, Nat.min_eq_left (by omega)] at this
    rw [List.take_set_of_le (by omega)]
    exact this
  · have e : (X.set (q + 1) (S.getD q 0)).drop (q + 1) = S.getD q 0 :: X.drop (q + 1 + 1) := by
      rw [List.drop_eq_getElem_cons (by rw [List.length_set]; omega)]
      congr 1
      · simp
      · rw [List.drop_set]; simp
    rw [e, h3, ← drop_cons S q hq]
theorem Sh.put {X S : List Nat} {p : Nat} (h : Sh X S p) (hp : p ≤ S.length) (x : Nat) : X.set p x = S.take p ++ x :: S.drop p := by
  obtain ⟨h1, h2, h3⟩ := h
  rw [List.set_eq_take_append_cons_drop, if_pos (by omega), h2, h3]
theorem not_take {f : Nat → Nat} {S : List Nat} {x q : Nat} (hS : S.Pairwise (bfS f)) (hq : q < S.length) (h : ¬ bfS f x (S.getD q 0)) : ∀ y ∈ S.take (q + 1), ¬ bfS f x y := by
  intro y hy hb
  obtain ⟨j, hj, rfl⟩ := List.getElem_of_mem hy
  rw [List.length_take] at hj
  rw [List.getElem_take] at hb
  have e : S.getD q 0 = S[q] := by simp [List.getD_eq_getElem?_getD, hq]
  rw [e] at h
  by_cases hjq : j = q
  · subst hjq; exact h hb
  · exact h (bfS_trans f hb (List.pairwise_iff_getElem.1 hS j q (by omega) hq (by omega)))
/-- One number more, put where the sums say. -/
theorem byL_put {f : Nat → Nat} {i p : Nat} (h1 : ∀ y ∈ (byL f i).drop p, bfS f i y) (h2 : ∀ y ∈ (byL f i).take p, bfS f y i) : (byL f i).take p ++ i :: (byL f i).drop p = byL f (i + 1) := by
  refine byS_unique (f := f) (n := i + 1) ⟨?_, ins_pair (by rw [List.take_append_drop]; exact (byL_by f i).2) h2 h1⟩ (byL_by f (i + 1))
  show List.Perm _ (List.range (i + 1))
  rw [List.range_succ]
  refine List.perm_middle.trans ?_
  rw [List.take_append_drop]
  exact ((byL_by f i).1.cons i).trans (List.perm_append_comm (l₁ := [i]))
theorem byL_len (f : Nat → Nat) (n : Nat) : (byL f n).length = n := (byL_by f n).1.len
end Go.Proofs.Ytpdicijoohahaaa
namespace Go.Proofs.Ytpdicijoohahaaa
set_option linter.unusedVariables false
set_option linter.unusedSimpArgs false

/-- A machine that reads what another one writes. -/
theorem runF_inv {σ : Type} {f g : σ → Nat → Nat × σ} (R : σ → Prop) (X : Nat → Prop) (h : ∀ s x, R s → X x → g s (f s x).1 = (x, (f s x).2) ∧ R (f s x).2) : ∀ (L : List Nat) (s : σ), R s → (∀ x ∈ L, X x) → runF g s (runF f s L) = L
  | [], _, _, _ => rfl
  | x :: xs, s, hs, hx => by
    obtain ⟨h1, h2⟩ := h s x hs (hx x (List.mem_cons_self ..))
    have ih := runF_inv R X h xs _ h2 (fun y hy => hx y (List.mem_cons_of_mem _ hy))
    show (g s (f s x).1).1 :: runF g (g s (f s x).1).2 (runF f (f s x).2 xs) = x :: xs
    rw [h1]
    show x :: runF g (f s x).2 (runF f (f s x).2 xs) = x :: xs
    rw [ih]
theorem at_idx {n : Nat} {r : List Nat} (h : PermN n r) {k : Nat} (hk : k < n) : r.idxOf (r.getD k 0) = k := by
  have hl : k < r.length := by rw [h.len]; exact hk
  have e : r.getD k 0 = r[k] := by simp [List.getD_eq_getElem?_getD, hl]
  rw [e]
  exact h.nodup.idxOf_getElem k hl
theorem umt_mtf {n : Nat} {L : List Nat} (h : ∀ x ∈ L, x < n) : runF umtF (List.range n) (runF mtfF (List.range n) L) = L :=
  runF_inv (PermN n) (· < n) (fun s x hs hx => by
    have hm := (hs.mem x).2 hx
    have := hs.front (hs.idx hx)
    refine ⟨?_, this⟩
    show (s.getD (s.idxOf x) 0, frontL s (s.idxOf x)) = (x, frontL s (s.idxOf x))
    rw [idx_at s hm]) L _ (PermN.start n) h
theorem mtf_umt {n : Nat} {L : List Nat} (h : ∀ x ∈ L, x < n) : runF mtfF (List.range n) (runF umtF (List.range n) L) = L :=
  runF_inv (PermN n) (· < n) (fun s k hs hk => by
    refine ⟨?_, hs.front hk⟩
    show (s.idxOf (s.getD k 0), frontL s (s.idxOf (s.getD k 0))) = (k, frontL s k)
    rw [at_idx hs hk]) L _ (PermN.start n) h
theorem usb_sbr {n : Nat} {L : List Nat} (h : ∀ x ∈ L, x < n) : runF (usbF n) sb0 (runF (sbrF n) sb0 L) = L :=
  runF_inv (fun _ => True) (· < n) (fun s x _ hx => by
    have hs := (byL_by s.sm n).1
    refine ⟨?_, trivial⟩
    show ((byL s.sm n).getD ((byL s.sm n).idxOf x) 0, s.up ((byL s.sm n).getD ((byL s.sm n).idxOf x) 0)) = (x, s.up x)
    rw [idx_at _ ((hs.mem x).2 hx)]) L _ trivial h
theorem sbr_usb {n : Nat} {L : List Nat} (h : ∀ x ∈ L, x < n) : runF (sbrF n) sb0 (runF (usbF n) sb0 L) = L :=
  runF_inv (fun _ => True) (· < n) (fun s k _ hk => by
    have hs := (byL_by s.sm n).1
    refine ⟨?_, trivial⟩
    show ((byL s.sm n).idxOf ((byL s.sm n).getD k 0), s.up ((byL s.sm n).getD k 0)) = (k, s.up ((byL s.sm n).getD k 0))
    rw [at_idx hs hk]) L _ trivial h
/-- What comes again at once is 0, nothing else is. -/
theorem mtf_again {n : Nat} : ∀ (L s : List Nat) (i : Nat), PermN n s → (∀ x ∈ L, x < n) → i + 1 < L.length → ((runF mtfF s L).getD (i + 1) 0 = 0 ↔ L.getD (i + 1) 0 = L.getD i 0)
  | [], _, _, _, _, h => by simp at h
  | [x], _, _, _, _, h => by simp at h
  | x :: y :: ys, s, 0, hs, hx, _ => by
    have hxn := hx x (List.mem_cons_self ..)
    have hm := (hs.mem x).2 hxn
    show (frontL s (s.idxOf x)).idxOf y = 0 ↔ y = x
    unfold frontL
    rw [idx_at s hm, List.idxOf_cons]
    by_cases e : y = x
    · subst e; simp
    · have : (x == y) = false := by simp; exact fun h => e h.symm
      rw [this]
      simp [e]
  | x :: y :: ys, s, i + 1, hs, hx, hi => by
    have hxn := hx x (List.mem_cons_self ..)
    have := mtf_again (y :: ys) _ i (hs.front (hs.idx hxn)) (fun z hz => hx z (List.mem_cons_of_mem _ hz)) (by simp at hi ⊢; omega)
    exact this
end Go.Proofs.Ytpdicijoohahaaa
namespace Go.Proofs.Ytpdicijoohahaaa
set_option linter.unusedVariables false
set_option linter.unusedSimpArgs false
open Go.RowKit

theorem own_belH8 {w w' : World} {base : Nat} {e : TypeId} {size : Nat} {v : Value} {n : Nat} {xs : List Value} (h : w.ownsRow base e size v n xs) (hb : ∀ i, i < w.heap.size → w'.heap[i]? = w.heap[i]?) : w'.ownsRow base e size v n xs := by
  refine ⟨h.1, ?_⟩
  rcases h.2 with h2 | ⟨g, cap, cur, hv, hg, hc, hr⟩
  · exact .inl h2
  · exact .inr ⟨g, cap, cur, hv, hg, (hb g ((Array.getElem?_eq_some_iff.1 hc).1)).trans hc, hr⟩
theorem own_other7 {w : World} {base n S : Nat} {E : TypeId} {v : Value} {xs : List Value} (h : w.ownsRow base E S v n xs) {p : Addr} (hp : v.ownBlock ≠ some p.block) (u : Value) : (w.setCell p u).ownsRow base E S v n xs := ownsRow_setCell_other h hp u
end Go.Proofs.Ytpdicijoohahaaa
namespace Go.Proofs.Ytpdicijoohahaaa
set_option linter.unusedVariables false
set_option linter.unusedSimpArgs false

/-! ### sums over the first n numbers -/
def rsum : Nat → (Nat → Nat) → Nat
  | 0, _ => 0
  | n + 1, f => rsum n f + f n
theorem rsum_congr {n : Nat} {f g : Nat → Nat} (h : ∀ j, j < n → f j = g j) : rsum n f = rsum n g := by
  induction n with
  | zero => rfl
  | succ n ih => show rsum n f + f n = rsum n g + g n; rw [ih fun j hj => h j (by omega), h n (by omega)]
theorem rsum_add (n : Nat) (f g : Nat → Nat) : rsum n (fun j => f j + g j) = rsum n f + rsum n g := by
  induction n with
  | zero => rfl
  | succ n ih => show rsum n _ + (f n + g n) = rsum n f + f n + (rsum n g + g n); rw [ih]; omega
theorem rsum_mul (n c : Nat) (f : Nat → Nat) : rsum n (fun j => c * f j) = c * rsum n f := by
  induction n with
  | zero => rfl
  | succ n ih => show rsum n _ + c * f n = c * (rsum n f + f n); rw [ih, Nat.mul_add]
theorem rsum_le {n : Nat} {f g : Nat → Nat} (h : ∀ j, j < n → f j ≤ g j) : rsum n f ≤ rsum n g := by
  induction n with
  | zero => exact Nat.le_refl _
  | succ n ih => exact Nat.add_le_add (ih fun j hj => h j (by omega)) (h n (by omega))
theorem rsum_one (n : Nat) : rsum n (fun _ => 1) = n := by
  induction n with
  | zero => rfl
  | succ n ih => show rsum n _ + 1 = _; rw [ih]
theorem rsum_zero (n : Nat) : rsum n (fun _ => 0) = 0 := by
  induction n with
  | zero => rfl
  | succ n ih => show rsum n _ + 0 = _; rw [ih]
theorem rsum_split (a b : Nat) (f : Nat → Nat) : rsum (a + b) f = rsum a f + rsum b (fun j => f (a + j)) := by
  induction b with
  | zero => rfl
  | succ b ih => show rsum (a + b) f + f (a + b) = rsum a f + (rsum b _ + f (a + b)); rw [ih]; omega
theorem rsum_if (n a : Nat) (f : Nat → Nat) (h : a ≤ n) : rsum n (fun j => if j < a then f j else 0) = rsum a f := by
  obtain ⟨b, rfl⟩ : ∃ b, n = a + b := ⟨n - a, by omega⟩
  rw [rsum_split, rsum_congr (f := fun j => if j < a then f j else 0) (g := f) (n := a) fun j hj => by simp [hj]]
  rw [rsum_congr (n := b) (g := fun _ => 0) fun j _ => if_neg (by omega), rsum_zero, Nat.add_zero]
theorem rsum_map (n : Nat) (f : Nat → Nat) : ((List.range n).map f).sum = rsum n f := by
  induction n with
  | zero => rfl
  | succ n ih => rw [List.range_succ, List.map_append, List.sum_append, ih]; simp [rsum]
theorem take_rsum (l : List Nat) (a : Nat) (h : a ≤ l.length) : (l.take a).sum = rsum a (fun j => l.getD j 0) := by
  induction a with
  | zero => rfl
  | succ a ih =>
    have hl : a < l.length := by omega
    rw [List.take_succ_eq_append_getElem hl, List.sum_append, ih (by omega)]
    simp [rsum, List.getD_eq_getElem?_getD, hl]
theorem filter_rsum (n : Nat) (p : Nat → Bool) (f : Nat → Nat) : (((List.range n).filter p).map f).sum = rsum n (fun j => if p j = true then f j else 0) := by
  induction n with
  | zero => rfl
  | succ n ih =>
    rw [List.range_succ, List.filter_append, List.map_append, List.sum_append, ih]
    show _ = rsum n _ + _
    by_cases h : p n = true
    · simp [List.filter_cons, h]
    · simp [List.filter_cons, h]
theorem filter_count (n : Nat) (p : Nat → Bool) : ((List.range n).filter p).length = rsum n (fun j => if p j = true then 1 else 0) := by
  induction n with
  | zero => rfl
  | succ n ih =>
    rw [List.range_succ, List.filter_append, List.length_append, ih]
    show _ = rsum n _ + _
    by_cases h : p n = true
    · simp [List.filter_cons, h]
    · simp [List.filter_cons, h]

/-! ### rows -/
def Sorted (l : List Nat) : Prop := l.Pairwise (· ≤ ·)
abbrev Item := Nat × Int
def wts (r : List Item) : List Nat := r.map Prod.fst
def isLeaf (x : Item) : Bool := decide (0 ≤ x.2)
/-- The packages of a row: its items in pairs. -/
def packs : List Item → List Nat
  | a :: b :: r => (a.1 + b.1) :: packs r
  | _ => []
/-- Leaves and packages, a leaf ahead of a package of its weight. -/
def mergeM : List Item → List Nat → List Item
  | L, [] => L
  | [], p :: P => (p, -1) :: mergeM [] P
  | x :: L, p :: P => if x.1 ≤ p then x :: mergeM L (p :: P) else (p, -1) :: mergeM (x :: L) P
termination_by L P => L.length + P.length
def rowM (L : List Item) : Nat → List Item
  | 0 => L
  | k + 1 => mergeM L (packs (rowM L k))

theorem packs_len (r : List Item) : (packs r).length = r.length / 2 := by
  induction r using packs.induct with
  | case1 a b r ih => simp only [packs, List.length_cons, ih]; omega
  | case2 r h => cases r with
    | nil => simp [packs]
    | cons a r => cases r with
      | nil => simp [packs]
      | cons b r => exact absurd rfl (h a b r)
theorem packs_take (r : List Item) (p : Nat) (h : 2 * p ≤ r.length) : ((packs r).take p).sum = (wts (r.take (2 * p))).sum := by
  induction r using packs.induct generalizing p with
  | case1 a b r ih =>
    cases p with
    | zero => rfl
    | succ p =>
      simp only [List.length_cons] at h
      rw [show 2 * (p + 1) = 2 * p + 1 + 1 by omega]
      simp only [packs, List.take_succ_cons, List.sum_cons, wts, List.map_cons]
      rw [ih p (by omega)]
      simp only [wts]; omega
  | case2 r h2 => cases r with
    | nil => simp [packs, wts]
    | cons a r => cases r with
      | nil => simp at h; have : p = 0 := by omega
               subst this; rfl
      | cons b r => exact absurd rfl (h2 a b r)
theorem packs_sorted (r : List Item) (h : Sorted (wts r)) : Sorted (packs r) ∧ ∀ c, (∀ x ∈ wts r, c ≤ x) → ∀ p ∈ packs r, c ≤ p := by
  induction r using packs.induct with
  | case1 a b r ih =>
    simp only [wts, List.map_cons, Sorted, List.pairwise_cons] at h
    obtain ⟨h1, h2, h3⟩ := h
    obtain ⟨i1, i2⟩ := ih h3
    refine ⟨?_, ?_⟩
    · simp only [packs, Sorted, List.pairwise_cons]
      refine ⟨fun p hp => ?_, i1⟩
      have : ∀ (r : List Item) (c : Nat), (∀ x ∈ wts r, c ≤ x) → ∀ p ∈ packs r, c + c ≤ p := by
        intro r
        induction r using packs.induct with
        | case1 a b r ih =>
          intro c hc p hp
          simp only [packs, List.mem_cons] at hp
          simp only [wts, List.map_cons, List.mem_cons] at hc
          have e1 := hc a.1 (.inl rfl)
          have e2 := hc b.1 (.inr (.inl rfl))
          rcases hp with rfl | hp
          · omega
          · exact ih c (fun x hx => hc x (.inr (.inr hx))) p hp
        | case2 r h => intro c _ p hp; cases r with
          | nil => simp [packs] at hp
          | cons a r => cases r with
            | nil => simp [packs] at hp
            | cons b r => exact absurd rfl (h a b r)
      have e := this r b.1 h2 p hp
      have e1 := h1 b.1 (by simp)
      omega
    · intro c hc p hp
      simp only [packs, List.mem_cons] at hp
      rcases hp with rfl | hp
      · have := hc a.1 (by simp [wts]); omega
      · exact i2 c (fun x hx => hc x (by simp [wts] at hx ⊢; exact .inr (.inr hx))) p hp
  | case2 r h2 => cases r with
    | nil => exact ⟨by simp [packs, Sorted], by simp [packs]⟩
    | cons a r => cases r with
      | nil => exact ⟨by simp [packs, Sorted], by simp [packs]⟩
      | cons b r => exact absurd rfl (h2 a b r)

theorem mergeM_len (L : List Item) (P : List Nat) : (mergeM L P).length = L.length + P.length := by
  induction L, P using mergeM.induct with
  | case1 L => simp [mergeM]
  | case2 p P ih => rw [mergeM, List.length_cons, ih]; simp
  | case3 x L p P h ih => rw [mergeM, if_pos h, List.length_cons, ih]; simp; omega
  | case4 x L p P h ih => rw [mergeM, if_neg h, List.length_cons, ih]; simp; omega
theorem mergeM_mem (L : List Item) (P : List Nat) : ∀ y ∈ wts (mergeM L P), y ∈ wts L ∨ y ∈ P := by
  induction L, P using mergeM.induct with
  | case1 L => intro y hy; rw [mergeM] at hy; exact .inl hy
  | case2 p P ih => intro y hy; rw [mergeM] at hy; simp only [wts, List.map_cons, List.mem_cons] at hy ⊢; rcases hy with rfl | hy
                    · exact .inr (.inl rfl)
                    · rcases ih y hy with h | h
                      · exact .inl h
                      · exact .inr (.inr h)
  | case3 x L p P h ih => intro y hy; rw [mergeM, if_pos h] at hy; simp only [wts, List.map_cons, List.mem_cons] at hy ⊢; rcases hy with rfl | hy
                          · exact .inl (.inl rfl)
                          · rcases ih y hy with h | h
                            · exact .inl (.inr h)
                            · exact .inr (by simpa using h)
  | case4 x L p P h ih => intro y hy; rw [mergeM, if_neg h] at hy; simp only [wts, List.map_cons, List.mem_cons] at hy ⊢; rcases hy with rfl | hy
                          · exact .inr (.inl rfl)
                          · rcases ih y hy with h | h
                            · exact .inl (by simpa [wts] using h)
                            · exact .inr (.inr h)
theorem mergeM_sorted (L : List Item) (P : List Nat) (hL : Sorted (wts L)) (hP : Sorted P) : Sorted (wts (mergeM L P)) := by
  induction L, P using mergeM.induct with
  | case1 L => rw [mergeM]; exact hL
  | case2 p P ih =>
    rw [mergeM]
    simp only [Sorted, List.pairwise_cons] at hP
    simp only [wts, List.map_cons, Sorted, List.pairwise_cons]
    refine ⟨fun y hy => ?_, ih hL hP.2⟩
    rcases mergeM_mem [] P y hy with h | h
    · simp [wts] at h
    · exact hP.1 y h
  | case3 x L p P h ih =>
    rw [mergeM, if_pos h]
    have hL' := hL
    simp only [wts, List.map_cons, Sorted, List.pairwise_cons] at hL
    simp only [wts, List.map_cons, Sorted, List.pairwise_cons]
    refine ⟨fun y hy => ?_, ih hL.2 hP⟩
    rcases mergeM_mem L (p :: P) y hy with h1 | h1
    · exact hL.1 y h1
    · simp only [Sorted, List.pairwise_cons] at hP
      rcases List.mem_cons.1 h1 with rfl | h1
      · exact h
      · exact Nat.le_trans h (hP.1 y h1)
  | case4 x L p P h ih =>
    rw [mergeM, if_neg h]
    have hP' := hP
    simp only [Sorted, List.pairwise_cons] at hP
    simp only [wts, List.map_cons, Sorted, List.pairwise_cons]
    refine ⟨fun y hy => ?_, ih hL hP.2⟩
    rcases mergeM_mem (x :: L) P y hy with h1 | h1
    · simp only [wts, List.map_cons, Sorted, List.pairwise_cons] at hL h1
      rcases List.mem_cons.1 h1 with rfl | h1
      · omega
      · have := hL.1 y h1; omega
    · exact hP.1 y h1
theorem rowM_sorted (L : List Item) (hL : Sorted (wts L)) (k : Nat) : Sorted (wts (rowM L k)) := by
  induction k with
  | zero => exact hL
  | succ k ih => exact mergeM_sorted _ _ hL (packs_sorted _ ih).1
theorem rowM_len (L : List Item) (k : Nat) : (rowM L (k + 1)).length = L.length + (rowM L k).length / 2 := by
  show (mergeM L (packs (rowM L k))).length = _
  rw [mergeM_len, packs_len]

/-- How many of the first m items are leaves. -/
def cntL (r : List Item) (m : Nat) : Nat := (r.take m).countP isLeaf
theorem cntL_cons (x : Item) (r : List Item) (m : Nat) : cntL (x :: r) (m + 1) = cntL r m + if isLeaf x = true then 1 else 0 := by
  unfold cntL; rw [List.take_succ_cons, List.countP_cons]
theorem cntL_le (r : List Item) (m : Nat) : cntL r m ≤ m := by
  unfold cntL
  exact Nat.le_trans List.countP_le_length (by rw [List.length_take]; omega)
theorem cntL_all (L : List Item) (hL : ∀ x ∈ L, isLeaf x = true) (m : Nat) (h : m ≤ L.length) : cntL L m = m := by
  unfold cntL
  rw [List.countP_eq_length.2 fun x hx => hL x (List.mem_of_mem_take hx), List.length_take]; omega
theorem pack_leaf (p : Nat) : isLeaf (p, -1) = false := rfl
theorem cntL_leaf {x : Item} (h : isLeaf x = true) (r : List Item) (m : Nat) : cntL (x :: r) (m + 1) = cntL r m + 1 := by rw [cntL_cons, if_pos h]
theorem cntL_pack (p : Nat) (r : List Item) (m : Nat) : cntL ((p, -1) :: r) (m + 1) = cntL r m := by rw [cntL_cons, if_neg (by simp [pack_leaf])]; rfl
theorem filter_pack (p : Nat) (r : List Item) : ((p, (-1 : Int)) :: r).filter isLeaf = r.filter isLeaf := List.filter_cons_of_neg (by simp [pack_leaf])
/-- The first m items of a merged row: the first leaves, and the first packages. -/
theorem mergeM_take (L : List Item) (P : List Nat) (hL : ∀ x ∈ L, isLeaf x = true) (m : Nat) (hm : m ≤ (mergeM L P).length) :
    cntL (mergeM L P) m ≤ L.length ∧ m - cntL (mergeM L P) m ≤ P.length ∧ ((mergeM L P).take m).filter isLeaf = L.take (cntL (mergeM L P) m) ∧
    (wts ((mergeM L P).take m)).sum = (wts (L.take (cntL (mergeM L P) m))).sum + (P.take (m - cntL (mergeM L P) m)).sum := by
  induction L, P using mergeM.induct generalizing m with
  | case1 L =>
    simp only [mergeM] at hm ⊢
    rw [cntL_all L hL m hm]
    refine ⟨hm, by omega, List.filter_eq_self.2 fun x hx => hL x (List.mem_of_mem_take hx), by simp⟩
  | case2 p P ih =>
    cases m with
    | zero => simp [cntL, wts]
    | succ m =>
      rw [mergeM] at hm ⊢
      obtain ⟨i1, i2, i3, i4⟩ := ih hL m (by simpa using hm)
      have hle := cntL_le (mergeM [] P) m
      rw [cntL_pack, List.take_succ_cons, filter_pack, show m + 1 - cntL (mergeM [] P) m = m - cntL (mergeM [] P) m + 1 by omega]
      simp only [wts, List.map_cons, List.take_succ_cons, List.sum_cons, List.length_cons] at i4 ⊢
      exact ⟨i1, by omega, i3, by omega⟩
  | case3 x L p P h ih =>
    cases m with
    | zero => simp [cntL, wts]
    | succ m =>
      rw [mergeM, if_pos h] at hm ⊢
      obtain ⟨i1, i2, i3, i4⟩ := ih (fun y hy => hL y (by simp [hy])) m (by simpa using hm)
      have hx := hL x (by simp)
      rw [cntL_leaf hx, List.take_succ_cons, List.filter_cons_of_pos hx, i3, show m + 1 - (cntL (mergeM L (p :: P)) m + 1) = m - cntL (mergeM L (p :: P)) m by omega]
      simp only [wts, List.map_cons, List.take_succ_cons, List.sum_cons, List.length_cons] at i2 i4 ⊢
      exact ⟨by omega, by omega, trivial, by omega⟩
  | case4 x L p P h ih =>
    cases m with
    | zero => simp [cntL, wts]
    | succ m =>
      rw [mergeM, if_neg h] at hm ⊢
      obtain ⟨i1, i2, i3, i4⟩ := ih hL m (by simpa using hm)
      have hle := cntL_le (mergeM (x :: L) P) m
      rw [cntL_pack, List.take_succ_cons, filter_pack, i3, show m + 1 - cntL (mergeM (x :: L) P) m = m - cntL (mergeM (x :: L) P) m + 1 by omega]
      simp only [wts, List.map_cons, List.take_succ_cons, List.sum_cons, List.length_cons] at i4 ⊢
      exact ⟨i1, by omega, trivial, by omega⟩
/-- A leaf that is not taken is heavier than the last package that is. -/
theorem mergeM_rest (L : List Item) (P : List Nat) (hL : ∀ x ∈ L, isLeaf x = true) (hs : Sorted (wts L)) (m : Nat) (hm : m ≤ (mergeM L P).length) (hp : 0 < m - cntL (mergeM L P) m) :
    ∀ y ∈ wts (L.drop (cntL (mergeM L P) m)), P.getD (m - cntL (mergeM L P) m - 1) 0 < y := by
  induction L, P using mergeM.induct generalizing m with
  | case1 L =>
    simp only [mergeM] at hm hp
    rw [cntL_all L hL m hm] at hp; omega
  | case2 p P ih => intro y hy; simp [wts] at hy
  | case3 x L p P h ih =>
    cases m with
    | zero => simp at hp
    | succ m =>
      rw [mergeM, if_pos h] at hm hp ⊢
      have hx := hL x (by simp)
      rw [cntL_leaf hx] at hp ⊢
      rw [show m + 1 - (cntL (mergeM L (p :: P)) m + 1) = m - cntL (mergeM L (p :: P)) m by omega] at hp ⊢
      simp only [wts, List.map_cons, Sorted, List.pairwise_cons] at hs
      exact ih (fun y hy => hL y (by simp [hy])) hs.2 m (by simpa using hm) hp
  | case4 x L p P h ih =>
    cases m with
    | zero => simp at hp
    | succ m =>
      rw [mergeM, if_neg h] at hm hp ⊢
      have hle := cntL_le (mergeM (x :: L) P) m
      rw [cntL_pack] at hp ⊢
      by_cases h0 : 0 < m - cntL (mergeM (x :: L) P) m
      · have := ih hL hs m (by simpa using hm) h0
        rw [show m + 1 - cntL (mergeM (x :: L) P) m - 1 = (m - cntL (mergeM (x :: L) P) m - 1) + 1 by omega]
        simpa using this
      · rw [show m + 1 - cntL (mergeM (x :: L) P) m - 1 = 0 by omega]
        intro y hy
        have hy2 : y ∈ wts (x :: L) := by
          simp only [wts, List.mem_map] at hy ⊢
          obtain ⟨z, hz, rfl⟩ := hy
          exact ⟨z, List.mem_of_mem_drop hz, rfl⟩
        simp only [wts, List.map_cons, Sorted, List.pairwise_cons, List.mem_cons] at hs hy2
        show p < y
        rcases hy2 with rfl | hy2
        · omega
        · have := hs.1 y hy2; omega

/-! ### the least sum -/
theorem sublist_min (S : List Nat) (hs : Sorted S) : ∀ T : List Nat, T.Sublist S → (S.take T.length).sum ≤ T.sum := by
  induction S with
  | nil => intro T h; rw [List.sublist_nil.1 h]; exact Nat.le_refl _
  | cons x S ih =>
    simp only [Sorted, List.pairwise_cons] at hs
    intro T h
    rcases List.sublist_cons_iff.1 h with h | ⟨T', rfl, h2⟩
    · cases T with
      | nil => simp
      | cons t T' =>
        have i := ih hs.2 T' ((List.sublist_cons_self t T').trans h)
        have := hs.1 t (h.subset (by simp))
        simp only [List.length_cons, List.take_succ_cons, List.sum_cons]
        omega
    · have i := ih hs.2 T' h2
      simp only [List.length_cons, List.take_succ_cons, List.sum_cons]
      omega
theorem take_last (x : Nat) (P : List Nat) (h : Sorted P) (hx : ∀ y ∈ P, x ≤ y) (q : Nat) (hq : q < P.length) : x + (P.take q).sum ≤ (P.take (q + 1)).sum := by
  rw [List.take_succ_eq_append_getElem hq, List.sum_append]
  have := hx P[q] (List.getElem_mem hq)
  simp; omega
theorem merge_min (L : List Item) (P : List Nat) (hL : Sorted (wts L)) (hP : Sorted P) : ∀ T : List Nat, T.Sublist (wts L) → ∀ p, p ≤ P.length → ((wts (mergeM L P)).take (T.length + p)).sum ≤ T.sum + (P.take p).sum := by
  induction L, P using mergeM.induct with
  | case1 L =>
    intro T h p hp
    have : p = 0 := by simpa using hp
    subst this
    rw [mergeM]
    simpa using sublist_min _ hL T h
  | case2 p0 P ih =>
    intro T h p hp
    have hT : T = [] := List.sublist_nil.1 (by simpa [wts] using h)
    subst hT
    simp only [Sorted, List.pairwise_cons] at hP
    cases p with
    | zero => simp
    | succ p =>
      have := ih hL hP.2 [] (List.nil_sublist _) p (by simpa using hp)
      rw [mergeM]
      simp only [List.length_nil, Nat.zero_add, wts, List.map_cons, List.take_succ_cons, List.sum_cons, List.sum_nil] at this ⊢
      omega
  | case3 x L p0 P hx ih =>
    intro T h p hp
    have hL0 := hL
    simp only [wts, List.map_cons, Sorted, List.pairwise_cons] at hL
    have IH := ih hL.2 hP
    rw [mergeM, if_pos hx]
    simp only [wts, List.map_cons] at h
    have hxP : ∀ y ∈ p0 :: P, x.1 ≤ y := by
      simp only [Sorted, List.pairwise_cons] at hP
      intro y hy
      rcases List.mem_cons.1 hy with rfl | hy
      · exact hx
      · exact Nat.le_trans hx (hP.1 y hy)
    rcases List.sublist_cons_iff.1 h with h | ⟨T', rfl, h2⟩
    · cases T with
      | nil =>
        cases p with
        | zero => simp
        | succ q =>
          have i := IH [] (List.nil_sublist _) q (by omega)
          have t := take_last x.1 (p0 :: P) hP hxP q (by omega)
          simp only [List.length_nil, Nat.zero_add, wts, List.map_cons, List.take_succ_cons, List.sum_cons, List.sum_nil] at i t ⊢
          omega
      | cons t T' =>
        have i := IH T' ((List.sublist_cons_self t T').trans h) p hp
        have := hL.1 t (h.subset (by simp))
        rw [show (t :: T').length + p = T'.length + p + 1 by simp; omega]
        simp only [wts, List.map_cons, List.take_succ_cons, List.sum_cons] at i ⊢
        omega
    · have i := IH T' h2 p hp
      rw [show (x.1 :: T').length + p = T'.length + p + 1 by simp; omega]
      simp only [wts, List.map_cons, List.take_succ_cons, List.sum_cons] at i ⊢
      omega
  | case4 x L p0 P hx ih =>
    intro T h p hp
    have hL0 := hL
    simp only [wts, List.map_cons, Sorted, List.pairwise_cons] at hL
    have hP0 := hP
    simp only [Sorted, List.pairwise_cons] at hP
    have IH := ih hL0 hP.2
    rw [mergeM, if_neg hx]
    cases p with
    | zero =>
      cases T with
      | nil => simp
      | cons t T' =>
        have i := IH T' ((List.sublist_cons_self t T').trans h) 0 (Nat.zero_le _)
        have ht : x.1 ≤ t := by
          have := h.subset (show t ∈ t :: T' by simp)
          simp only [wts, List.map_cons, List.mem_cons] at this
          rcases this with rfl | this
          · exact Nat.le_refl _
          · exact hL.1 t this
        simp only [List.length_cons, Nat.add_zero, wts, List.map_cons, List.take_succ_cons, List.sum_cons, List.take_zero, List.sum_nil] at i ⊢
        omega
    | succ q =>
      have i := IH T h q (by simpa using hp)
      rw [← Nat.add_assoc]
      simp only [wts, List.map_cons, List.take_succ_cons, List.sum_cons] at i ⊢
      omega
theorem wts_take (r : List Item) (m : Nat) : wts (r.take m) = (wts r).take m := by simp [wts, List.map_take]
theorem sum_take_mono (l : List Nat) {a b : Nat} (h : a ≤ b) : (l.take a).sum ≤ (l.take b).sum := by
  obtain ⟨c, rfl⟩ : ∃ c, b = a + c := ⟨b - a, by omega⟩
  rw [List.take_add, List.sum_append]; omega

/-! ### what the descent takes -/
theorem rowM_filter (L : List Item) (hL : ∀ x ∈ L, isLeaf x = true) (k m : Nat) (hm : m ≤ (rowM L k).length) : cntL (rowM L k) m ≤ L.length ∧ ((rowM L k).take m).filter isLeaf = L.take (cntL (rowM L k) m) := by
  cases k with
  | zero =>
    show cntL L m ≤ _ ∧ (L.take m).filter isLeaf = L.take (cntL L m)
    rw [cntL_all L hL m hm]
    exact ⟨hm, List.filter_eq_self.2 fun x hx => hL x (List.mem_of_mem_take hx)⟩
  | succ k => have := mergeM_take L (packs (rowM L k)) hL m hm; exact ⟨this.1, this.2.2.1⟩
theorem packs_top (r : List Item) (hs : Sorted (wts r)) (p : Nat) (hp : 0 < p) (h : 2 * p ≤ r.length) : ∀ y ∈ wts (r.take (2 * p)), y ≤ (packs r).getD (p - 1) 0 := by
  induction r using packs.induct generalizing p with
  | case1 a b r ih =>
    simp only [wts, List.map_cons, Sorted, List.pairwise_cons] at hs
    simp only [List.length_cons] at h
    intro y hy
    obtain ⟨q, rfl⟩ : ∃ q, p = q + 1 := ⟨p - 1, by omega⟩
    rw [show 2 * (q + 1) = 2 * q + 1 + 1 by omega] at hy
    simp only [wts, List.take_succ_cons, List.map_cons, List.mem_cons] at hy
    cases q with
    | zero =>
      simp only [Nat.mul_zero, List.take_zero, List.map_nil, List.not_mem_nil, or_false] at hy
      show y ≤ a.1 + b.1
      omega
    | succ q =>
      have hq : q < (packs r).length := by rw [packs_len]; omega
      have hmem : (packs r).getD q 0 ∈ packs r := by
        rw [List.getD_eq_getElem?_getD, List.getElem?_eq_getElem hq]; exact List.getElem_mem hq
      have hb := (packs_sorted r hs.2.2).2 b.1 hs.2.1 _ hmem
      have hab := hs.1 b.1 (by simp)
      have i := ih hs.2.2 (q + 1) (by omega) (by omega)
      show y ≤ (packs r).getD q 0
      rcases hy with rfl | rfl | hy
      · omega
      · exact hb
      · exact i y hy
  | case2 r h2 => cases r with
    | nil => simp at h; omega
    | cons a r => cases r with
      | nil => simp at h; omega
      | cons b r => exact absurd rfl (h2 a b r)
theorem pm_room (L : List Item) (hL : ∀ x ∈ L, isLeaf x = true) (k m : Nat) (hm : m ≤ (rowM L (k + 1)).length) : 2 * (m - cntL (rowM L (k + 1)) m) ≤ (rowM L k).length := by
  have := (mergeM_take L (packs (rowM L k)) hL m hm).2.1
  rw [packs_len] at this
  show 2 * (m - cntL (mergeM L (packs (rowM L k))) m) ≤ _
  omega
theorem pm_nest (L : List Item) (hL : ∀ x ∈ L, isLeaf x = true) (hs : Sorted (wts L)) (k m : Nat) (hm : m ≤ (rowM L (k + 1)).length) :
    cntL (rowM L k) (2 * (m - cntL (rowM L (k + 1)) m)) ≤ cntL (rowM L (k + 1)) m := by
  have hroom := pm_room L hL k m hm
  obtain ⟨a, ha⟩ : ∃ a, a = cntL (rowM L (k + 1)) m := ⟨_, rfl⟩
  rw [← ha] at hroom ⊢
  by_cases hp : 0 < m - a
  · have hrest := mergeM_rest L (packs (rowM L k)) hL hs m hm (by show 0 < m - cntL (rowM L (k + 1)) m; rw [← ha]; exact hp)
    have hrest' : ∀ y ∈ wts (L.drop a), (packs (rowM L k)).getD (m - a - 1) 0 < y := by rw [ha]; exact hrest
    have htop := packs_top (rowM L k) (rowM_sorted L hs k) (m - a) hp hroom
    have hf := rowM_filter L hL k (2 * (m - a)) hroom
    rcases Nat.lt_or_ge a (cntL (rowM L k) (2 * (m - a))) with hlt | hge
    · exfalso
      have haL : a < L.length := by omega
      have hin : L[a] ∈ L.take (cntL (rowM L k) (2 * (m - a))) := List.mem_take_iff_getElem.2 ⟨a, by omega, rfl⟩
      rw [← hf.2, List.mem_filter] at hin
      have h1 := htop L[a].1 (List.mem_map_of_mem hin.1)
      have h2 := hrest' L[a].1 (List.mem_map_of_mem (List.mem_drop_iff_getElem.2 ⟨0, by omega, by simp⟩))
      omega
    · exact hge
  · have : m - a = 0 := by omega
    rw [this]; simp [cntL]

/-- How many of the rows k .. 0 take the leaf at place j, where m items of row k are taken. -/
def lenJ (L : List Item) : Nat → Nat → Nat → Nat
  | 0, m, j => if j < cntL (rowM L 0) m then 1 else 0
  | k + 1, m, j => (if j < cntL (rowM L (k + 1)) m then 1 else 0) + lenJ L k (2 * (m - cntL (rowM L (k + 1)) m)) j
theorem lenJ_le (L : List Item) (k m j : Nat) : lenJ L k m j ≤ k + 1 := by
  induction k generalizing m with
  | zero => unfold lenJ; split <;> omega
  | succ k ih => unfold lenJ; have := ih (2 * (m - cntL (rowM L (k + 1)) m)); split <;> omega
theorem lenJ_zero (L : List Item) (hL : ∀ x ∈ L, isLeaf x = true) (hs : Sorted (wts L)) (k m j : Nat) (hm : m ≤ (rowM L k).length) (hj : cntL (rowM L k) m ≤ j) : lenJ L k m j = 0 := by
  induction k generalizing m with
  | zero => unfold lenJ; rw [if_neg (by omega)]
  | succ k ih =>
    unfold lenJ
    rw [if_neg (by omega), ih _ (pm_room L hL k m hm) (Nat.le_trans (pm_nest L hL hs k m hm) hj)]
theorem lenJ_pos (L : List Item) (k m j : Nat) (hj : j < cntL (rowM L k) m) : 1 ≤ lenJ L k m j := by
  cases k with
  | zero => unfold lenJ; rw [if_pos hj]; omega
  | succ k => unfold lenJ; rw [if_pos hj]; omega
/-- A leaf further ahead is taken by no fewer rows. -/
theorem lenJ_mono (L : List Item) (k m i j : Nat) (h : i ≤ j) : lenJ L k m j ≤ lenJ L k m i := by
  induction k generalizing m with
  | zero => unfold lenJ; split <;> split <;> omega
  | succ k ih => unfold lenJ; have := ih (2 * (m - cntL (rowM L (k + 1)) m)); split <;> split <;> omega
theorem pm_cost (L : List Item) (hL : ∀ x ∈ L, isLeaf x = true) (k m : Nat) (hm : m ≤ (rowM L k).length) :
    rsum L.length (fun j => (wts L).getD j 0 * lenJ L k m j) = (wts ((rowM L k).take m)).sum := by
  have hw : (wts L).length = L.length := by simp [wts]
  have base : ∀ a, a ≤ L.length → rsum L.length (fun j => (wts L).getD j 0 * if j < a then 1 else 0) = (wts (L.take a)).sum := by
    intro a ha
    rw [wts_take, take_rsum _ _ (by omega), ← rsum_if L.length a _ ha]
    exact rsum_congr fun j _ => by split <;> simp
  induction k generalizing m with
  | zero =>
    have hc : cntL (rowM L 0) m = m := cntL_all L hL m hm
    rw [rsum_congr (g := fun j => (wts L).getD j 0 * if j < m then 1 else 0) fun j _ => by unfold lenJ; rw [hc]]
    exact base m hm
  | succ k ih =>
    have ht := mergeM_take L (packs (rowM L k)) hL m hm
    have hroom := pm_room L hL k m hm
    have i := ih _ hroom
    obtain ⟨a, ha⟩ : ∃ a, a = cntL (rowM L (k + 1)) m := ⟨_, rfl⟩
    have e1 : (wts ((rowM L (k + 1)).take m)).sum = (wts (L.take a)).sum + ((packs (rowM L k)).take (m - a)).sum := by rw [ha]; exact ht.2.2.2
    rw [← ha] at hroom i
    rw [e1, packs_take _ _ hroom, ← i, ← base a (by rw [ha]; exact ht.1), ← rsum_add]
    exact rsum_congr fun j _ => by
      show _ * lenJ L (k + 1) m j = _
      rw [lenJ, ← ha, Nat.mul_add]
theorem pm_kraft (L : List Item) (hL : ∀ x ∈ L, isLeaf x = true) (hs : Sorted (wts L)) (k m : Nat) (hm : m ≤ (rowM L k).length) :
    rsum (cntL (rowM L k) m) (fun j => 2 ^ (k + 1 - lenJ L k m j)) + m * 2 ^ k = 2 * cntL (rowM L k) m * 2 ^ k := by
  induction k generalizing m with
  | zero =>
    have hc : cntL (rowM L 0) m = m := cntL_all L hL m hm
    rw [hc, rsum_congr (g := fun _ => 1) fun j hj => by rw [lenJ, hc, if_pos hj], rsum_one]
    omega
  | succ k ih =>
    have hroom := pm_room L hL k m hm
    have hn := pm_nest L hL hs k m hm
    have i := ih _ hroom
    have hle := cntL_le (rowM L (k + 1)) m
    obtain ⟨a, ha⟩ : ∃ a, a = cntL (rowM L (k + 1)) m := ⟨_, rfl⟩
    obtain ⟨c, hc⟩ : ∃ c, c = cntL (rowM L k) (2 * (m - a)) := ⟨_, rfl⟩
    rw [← ha] at hroom hn i hle ⊢
    rw [← hc] at hn i
    obtain ⟨d, rfl⟩ : ∃ d, a = c + d := ⟨a - c, by omega⟩
    rw [rsum_split]
    have e1 : rsum c (fun j => 2 ^ (k + 1 + 1 - lenJ L (k + 1) m j)) = rsum c (fun j => 2 ^ (k + 1 - lenJ L k (2 * (m - (c + d))) j)) :=
      rsum_congr fun j hj => by
        rw [lenJ, ← ha, if_pos (by omega)]
        congr 1; omega
    have e2 : rsum d (fun j => 2 ^ (k + 1 + 1 - lenJ L (k + 1) m (c + j))) = rsum d (fun _ => 2 ^ (k + 1) * 1) :=
      rsum_congr fun j hj => by
        rw [lenJ, ← ha, if_pos (by omega), lenJ_zero L hL hs k _ (c + j) hroom (by omega)]
        simp
    rw [e1, e2, rsum_mul, rsum_one]
    obtain ⟨p, hp⟩ : ∃ p, m = c + d + p := ⟨m - (c + d), by omega⟩
    rw [show m - (c + d) = p by omega] at i ⊢
    rw [hp, Nat.pow_succ]
    generalize 2 ^ k = q at i ⊢
    generalize rsum c (fun j => 2 ^ (k + 1 - lenJ L k (2 * p) j)) = R at i ⊢
    have h1 : (c + d + p) * (q * 2) = c * q * 2 + d * q * 2 + p * q * 2 := by rw [← Nat.mul_assoc, Nat.add_mul, Nat.add_mul, Nat.add_mul, Nat.add_mul]
    have h2 : 2 * (c + d) * (q * 2) = c * q * 4 + d * q * 4 := by
      rw [show 2 * (c + d) * (q * 2) = (c + d) * q * 4 by rw [Nat.mul_comm 2, Nat.mul_assoc, ← Nat.mul_assoc 2 q 2, Nat.mul_comm 2 q, Nat.mul_assoc q 2 2, ← Nat.mul_assoc], Nat.add_mul, Nat.add_mul]
    have h3 : 2 * p * q = p * q * 2 := by rw [Nat.mul_assoc, Nat.mul_comm]
    have h4 : 2 * c * q = c * q * 2 := by rw [Nat.mul_assoc, Nat.mul_comm]
    have h5 : q * 2 * d = d * q * 2 := by rw [Nat.mul_comm, ← Nat.mul_assoc]
    rw [h3, h4] at i
    rw [h1, h2, h5]
    omega
theorem row_most (L : List Item) (k : Nat) : (rowM L k).length ≤ 2 * L.length := by
  induction k with
  | zero => show L.length ≤ _; omega
  | succ k ih => rw [rowM_len]; omega
theorem row_big (L : List Item) (k : Nat) (h : L.length ≤ 2 ^ (k + 1)) : 2 * L.length - 2 ≤ (rowM L k).length := by
  have key : ∀ k, 2 ^ k * (2 * L.length - (rowM L k).length) < L.length + 2 ^ k := by
    intro k
    induction k with
    | zero => show 1 * (2 * L.length - L.length) < _; simp; omega
    | succ k ih =>
      have hm := row_most L k
      have hl := rowM_len L k
      obtain ⟨c, hc⟩ : ∃ c, c = 2 * L.length - (rowM L k).length := ⟨_, rfl⟩
      rw [← hc] at ih
      have e : 2 * L.length - (rowM L (k + 1)).length ≤ (c + 1) / 2 := by omega
      have h1 : 2 ^ (k + 1) * (2 * L.length - (rowM L (k + 1)).length) ≤ 2 ^ (k + 1) * ((c + 1) / 2) := Nat.mul_le_mul_left _ e
      have h2 : 2 ^ (k + 1) * ((c + 1) / 2) ≤ 2 ^ k * (c + 1) := by
        rw [Nat.pow_succ, Nat.mul_assoc]; exact Nat.mul_le_mul_left _ (by omega)
      rw [Nat.mul_add] at h2
      rw [Nat.pow_succ] at h1 h2 ⊢
      omega
  have h0 := key k
  rw [Nat.pow_succ] at h
  rcases Nat.lt_or_ge (2 * L.length - (rowM L k).length) 3 with h3 | h3
  · omega
  · have := Nat.mul_le_mul_left (2 ^ k) h3
    omega
theorem pm_top (L : List Item) (hL : ∀ x ∈ L, isLeaf x = true) (hs : Sorted (wts L)) (h2 : 2 ≤ L.length) (k m : Nat) (hm : m ≤ (rowM L k).length) (h : 2 * L.length - 2 ≤ m) : cntL (rowM L k) m = L.length := by
  have hle := (rowM_filter L hL k m hm).1
  induction k generalizing m with
  | zero =>
    have hc : cntL (rowM L 0) m = m := cntL_all L hL m hm
    have : m ≤ L.length := hm
    rw [hc] at hle ⊢; omega
  | succ k ih =>
    rcases Nat.lt_or_ge (cntL (rowM L (k + 1)) m) L.length with hlt | hge
    · exfalso
      have hroom := pm_room L hL k m hm
      have := ih _ hroom (by omega) (rowM_filter L hL k _ hroom).1
      have hn := pm_nest L hL hs k m hm
      omega
    · omega
/-- The lengths use all codes: their Kraft sum is whole. -/
theorem pm_whole (L : List Item) (hL : ∀ x ∈ L, isLeaf x = true) (hs : Sorted (wts L)) (h2 : 2 ≤ L.length) (k : Nat) (hk : L.length ≤ 2 ^ (k + 1)) :
    rsum L.length (fun j => 2 ^ (k + 1 - lenJ L k (2 * L.length - 2) j)) = 2 ^ (k + 1) := by
  have hm := row_big L k hk
  have ht := pm_top L hL hs h2 k _ hm (Nat.le_refl _)
  have := pm_kraft L hL hs k _ hm
  rw [ht] at this
  rw [Nat.pow_succ]
  have e : 2 * L.length * 2 ^ k = (2 * L.length - 2) * 2 ^ k + 2 * 2 ^ k := by rw [← Nat.add_mul]; congr 1; omega
  omega

/-! ### none need less -/
theorem pm_best (L : List Item) (hL : ∀ x ∈ L, isLeaf x = true) (hs : Sorted (wts L)) (k : Nat) (l : Nat → Nat) (h1 : ∀ j, j < L.length → 1 ≤ l j ∧ l j ≤ k + 1)
    (hK : rsum L.length (fun j => 2 ^ (k + 1 - l j)) ≤ 2 ^ (k + 1)) :
    (wts ((rowM L k).take (2 * L.length - 2))).sum ≤ rsum L.length (fun j => (wts L).getD j 0 * l j) := by
  have hw : (wts L).length = L.length := by simp [wts]
  have hwr : wts L = (List.range L.length).map fun j => (wts L).getD j 0 := by
    apply List.ext_getElem (by simp [hw])
    intro j g1 g2
    simp [List.getD_eq_getElem?_getD, g1]
  -- the leaves that code lengths l take in row i
  let T : Nat → List Nat := fun i => ((List.range L.length).filter fun j => decide (k + 1 ≤ l j + i)).map fun j => (wts L).getD j 0
  have hsub : ∀ i, (T i).Sublist (wts L) := by
    intro i
    rw [hwr]
    exact List.Sublist.map _ List.filter_sublist
  have hTs : ∀ i, (T i).sum = rsum L.length (fun j => if k + 1 ≤ l j + i then (wts L).getD j 0 else 0) := fun i => by
    show (List.map _ _).sum = _
    rw [filter_rsum]; exact rsum_congr fun j _ => by simp
  have hTl : ∀ i, (T i).length = rsum L.length (fun j => if k + 1 ≤ l j + i then 1 else 0) := fun i => by
    show (List.map _ _).length = _
    rw [List.length_map, filter_count]; exact rsum_congr fun j _ => by simp
  have hTn : ∀ i, (T i).length ≤ L.length := fun i => by have := (hsub i).length_le; omega
  -- by rows
  have key : ∀ i, i ≤ k → ∃ M, M ≤ (rowM L i).length ∧ (wts ((rowM L i).take M)).sum ≤ rsum (i + 1) (fun q => (T q).sum) ∧
      2 * (T i).length * 2 ^ i < M * 2 ^ i + rsum L.length (fun j => if k + 1 ≤ l j + i then 2 ^ (k + 1 - l j) else 0) + 2 ^ i := by
    intro i hi
    induction i with
    | zero =>
      refine ⟨(T 0).length, hTn 0, ?_, ?_⟩
      · have := sublist_min (wts L) hs (T 0) (hsub 0)
        show (wts (L.take _)).sum ≤ 0 + (T 0).sum
        rw [wts_take]; omega
      · have e : rsum L.length (fun j => if k + 1 ≤ l j + 0 then 2 ^ (k + 1 - l j) else 0) = (T 0).length := by
          rw [hTl]
          exact rsum_congr fun j hj => by
            have := h1 j hj
            split
            · rw [show k + 1 - l j = 0 by omega]
            · rfl
        rw [e]; simp; omega
    | succ i ih =>
      obtain ⟨M, hM1, hM2, hM3⟩ := ih (by omega)
      refine ⟨(T (i + 1)).length + M / 2, ?_, ?_, ?_⟩
      · rw [rowM_len]; have := hTn (i + 1); omega
      · have hmm := merge_min L (packs (rowM L i)) hs (packs_sorted _ (rowM_sorted L hs i)).1 (T (i + 1)) (hsub _) (M / 2) (by rw [packs_len]; omega)
        rw [packs_take _ _ (by omega)] at hmm
        have hmono := sum_take_mono (wts (rowM L i)) (show 2 * (M / 2) ≤ M by omega)
        rw [wts_take] at hM2 hmm
        show (wts ((mergeM L (packs (rowM L i))).take _)).sum ≤ rsum (i + 1) _ + (T (i + 1)).sum
        rw [wts_take]
        omega
      · have e : rsum L.length (fun j => if k + 1 ≤ l j + (i + 1) then 2 ^ (k + 1 - l j) else 0) + (T i).length * 2 ^ (i + 1) = rsum L.length (fun j => if k + 1 ≤ l j + i then 2 ^ (k + 1 - l j) else 0) + (T (i + 1)).length * 2 ^ (i + 1) := by
          rw [hTl, hTl, Nat.mul_comm _ (2 ^ (i + 1)), Nat.mul_comm _ (2 ^ (i + 1)), ← rsum_mul, ← rsum_mul, ← rsum_add, ← rsum_add]
          refine rsum_congr fun j hj => ?_
          have := h1 j hj
          by_cases c1 : k + 1 ≤ l j + i
          · rw [if_pos c1, if_pos c1, if_pos (show k + 1 ≤ l j + (i + 1) by omega), if_pos (show k + 1 ≤ l j + (i + 1) by omega)]
          · rw [if_neg c1, if_neg c1]
            by_cases c2 : k + 1 ≤ l j + (i + 1)
            · rw [if_pos c2, if_pos c2, show k + 1 - l j = i + 1 by omega]; omega
            · rw [if_neg c2, if_neg c2]
        have hd : M ≤ 2 * (M / 2) + 1 := by omega
        have hd2 := Nat.mul_le_mul_right (2 ^ i) hd
        generalize rsum L.length (fun j => if k + 1 ≤ l j + (i + 1) then 2 ^ (k + 1 - l j) else 0) = A at e ⊢
        generalize rsum L.length (fun j => if k + 1 ≤ l j + i then 2 ^ (k + 1 - l j) else 0) = B at e hM3
        generalize (T i).length = x at e hM3
        generalize (T (i + 1)).length = y at e ⊢
        generalize M / 2 = h at hd hd2 ⊢
        rw [Nat.pow_succ] at e ⊢
        generalize 2 ^ i = q at e hM3 hd2 ⊢
        have g1 : 2 * x * q = x * (q * 2) := by rw [Nat.mul_comm 2 x, Nat.mul_assoc, Nat.mul_comm 2 q]
        have g2 : (2 * h + 1) * q = h * (q * 2) + q := by rw [Nat.add_mul, Nat.mul_comm 2 h, Nat.mul_assoc, Nat.mul_comm 2 q, Nat.one_mul]
        have g3 : 2 * y * (q * 2) = y * (q * 2) + y * (q * 2) := by rw [Nat.mul_assoc, Nat.two_mul]
        have g4 : (y + h) * (q * 2) = y * (q * 2) + h * (q * 2) := Nat.add_mul _ _ _
        rw [g1] at hM3
        rw [g2] at hd2
        rw [g3, g4]
        omega
  obtain ⟨M, hM1, hM2, hM3⟩ := key k (Nat.le_refl _)
  have eall : rsum L.length (fun j => if k + 1 ≤ l j + k then 2 ^ (k + 1 - l j) else 0) = rsum L.length (fun j => 2 ^ (k + 1 - l j)) :=
    rsum_congr fun j hj => by rw [if_pos (by have := h1 j hj; omega)]
  have elen : (T k).length = L.length := by
    rw [hTl, rsum_congr (g := fun _ => 1) fun j hj => by rw [if_pos (by have := h1 j hj; omega)], rsum_one]
  rw [eall, elen] at hM3
  rw [Nat.pow_succ] at hK
  have hMbig : 2 * L.length - 2 ≤ M := by
    rcases Nat.lt_or_ge M (2 * L.length - 2) with hlt | hge
    · exfalso
      have := Nat.mul_le_mul_right (2 ^ k) (show M + 3 ≤ 2 * L.length by omega)
      rw [Nat.add_mul] at this
      omega
    · exact hge
  have hmono := sum_take_mono (wts (rowM L k)) hMbig
  have htot : ∀ i, rsum i (fun q => (T q).sum) = rsum L.length (fun j => (wts L).getD j 0 * (i - (k + 1 - l j))) := by
    intro i
    induction i with
    | zero =>
      have : rsum L.length (fun j => (wts L).getD j 0 * (0 - (k + 1 - l j))) = rsum L.length (fun _ => 0) := rsum_congr fun j _ => by rw [Nat.zero_sub, Nat.mul_zero]
      rw [this, rsum_zero]; rfl
    | succ i ih =>
      show rsum i _ + (T i).sum = _
      rw [ih, hTs, ← rsum_add]
      refine rsum_congr fun j hj => ?_
      have := h1 j hj
      by_cases c : k + 1 ≤ l j + i
      · rw [if_pos c, show i + 1 - (k + 1 - l j) = i - (k + 1 - l j) + 1 by omega, Nat.mul_add, Nat.mul_one]
      · rw [if_neg c, show i + 1 - (k + 1 - l j) = 0 by omega, show i - (k + 1 - l j) = 0 by omega]; simp
  rw [htot] at hM2
  rw [rsum_congr (g := fun j => (wts L).getD j 0 * l j) fun j hj => by have := h1 j hj; rw [show k + 1 - (k + 1 - l j) = l j by omega]] at hM2
  rw [wts_take] at hM2 ⊢
  omega
end Go.Proofs.Ytpdicijoohahaaa
