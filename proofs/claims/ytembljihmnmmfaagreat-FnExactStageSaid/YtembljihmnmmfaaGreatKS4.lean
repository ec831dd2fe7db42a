/- Texts of the proof, merged. -/
import Derived.Test.YtembljihmnmmfaaGreatProg
import Derived.WalkKit
import Derived.ProofKit
import Derived.OpenShut
import Derived.ShutString
import Derived.ChangeOld
import Derived.Below
import Derived.Carry
import Derived.Lib.SmallJoins
import Derived.Deep.Draws
import Derived.OwnWalk
import Derived.Laws.OwnMore
import Derived.Laws.Rows
import Derived.Test.YtembljihmnmmfaaGreatKS1
import Derived.Laws.BytesString
import Derived.OneCell
import Derived.Maps.OwnSet
import Derived.Maps.OwnOps
namespace Go.Proofs.YtembljihmnmmfaaGreat
set_option linter.unusedVariables false
set_option linter.unusedSimpArgs false
open Go.ChangeShapes Go.WideShapes Go.ChangeAt Go.RowKit Go.Joins Go.Deep

/-- A slice of integers that came in: nil, or a row of cells. -/
def IsRow (k : IntKind) (w : World) (a : Option Addr) (len cap : Nat) (zs : List Int) : Prop :=
  (a = none ∧ len = 0 ∧ cap = 0 ∧ zs = []) ∨
  ∃ x, a = some x ∧ len ≤ cap ∧ cap ≤ maxLen ∧ zs.length = cap ∧ (∀ i, i < zs.length → w.cell? (x.add i) = some (.int k (zs.getD i 0))) ∧ ∀ n ∈ zs, (Lit.int k n).wf = true

theorem hidden {p : Prop} (h : p) : Hid p := h
theorem bel_then {B : Nat} {a b c : World} (k : Below b.heap.size b c) (hB : B ≤ b.heap.size) (h : Below B a b) : Below B a c := h.trans (k.mono hB)

end Go.Proofs.YtembljihmnmmfaaGreat
namespace Go.Proofs.YtembljihmnmmfaaGreat
set_option linter.unusedVariables false
set_option linter.unusedSimpArgs false
open Go.RowKit

theorem ret_int {k : IntKind} {a b : Int} (h : a = b) : Ending.returned (.int k a) = .returned (.int k b) := by rw [h]
theorem ret_bool {a b : Bool} (h : a = b) : Ending.returned (.bool a) = .returned (.bool b) := by rw [h]
theorem Tryz.info5 : (Tryz.prog.info? 5).map (fun i => (i.zero, i.size, i.bytes)) = some (some (.int .u8 0), 1, 1) := by kernel_rfl
end Go.Proofs.YtembljihmnmmfaaGreat
namespace Go.Proofs.YtembljihmnmmfaaGreat
set_option linter.unusedVariables false
set_option linter.unusedSimpArgs false
open Go.RowKit

/-- Block g is made of the cells cs, of element type t, none frozen. -/
def Has (w : World) (g : Nat) (t : TypeId) (cs : Array Value) : Prop := w.heap[g]? = some (.cells cs t (0, 0))
theorem Has.lt {w : World} {g : Nat} {t : TypeId} {cs : Array Value} (h : Has w g t cs) : g < w.heap.size := by
  unfold Has at h
  rcases Nat.lt_or_ge g w.heap.size with hl | hl
  · exact hl
  · rw [Array.getElem?_eq_none hl] at h; cases h
theorem Has.cell {w : World} {g : Nat} {t : TypeId} {cs : Array Value} (h : Has w g t cs) (i : Nat) : w.cell? ⟨g, i, none⟩ = cs[i]? := cell_of_row w g i cs t (0, 0) h
theorem Has.free {w : World} {g : Nat} {t : TypeId} {cs : Array Value} (h : Has w g t cs) (i : Nat) : w.frozen? ⟨g, i, none⟩ = false := by
  unfold Has at h; simp [World.frozen?, h]
theorem Has.store {w : World} {g : Nat} {t : TypeId} {cs : Array Value} (h : Has w g t cs) (i : Nat) (u : Value) : Has (w.setCell ⟨g, i, none⟩ u) g t (cs.setIfInBounds i u) := by
  unfold Has at h ⊢; simp [World.setCell, Array.getElem?_modify, h]
theorem Has.storeAway {w : World} {g : Nat} {t : TypeId} {cs : Array Value} (h : Has w g t cs) {p : Addr} (hp : g ≠ p.block) (u : Value) : Has (w.setCell p u) g t cs := (Below.heap_setCell w p u g hp).trans h
theorem Has.alloc {w : World} {g : Nat} {t : TypeId} {cs : Array Value} (h : Has w g t cs) (o : Obj) : Has (w.alloc o) g t cs := (Below.heap_alloc w o g h.lt).trans h
theorem Has.fresh (w : World) (t : TypeId) (cs : Array Value) : Has (w.alloc (.cells cs t)) w.heap.size t cs := heap_alloc_new w _
theorem Has.freshAt {w : World} {g : Nat} (h : w.heap.size = g) (t : TypeId) (cs : Array Value) : Has (w.alloc (.cells cs t)) g t cs := by subst h; exact Has.fresh _ _ _
theorem Has.drew {w : World} {g : Nat} {t : TypeId} {cs : Array Value} (h : Has w g t cs) : Has w.drew g t cs := h
theorem Has.drewN {w : World} {g : Nat} {t : TypeId} {cs : Array Value} (h : Has w g t cs) (n : Nat) : Has (w.drewN n) g t cs := h
theorem Has.below {w w' : World} {g B : Nat} {t : TypeId} {cs : Array Value} (h : Has w g t cs) (hb : Below B w w') (hg : g < B) : Has w' g t cs := (hb.block g hg).trans h
theorem Has.grown {w w' : World} {g : Nat} {row : Option Nat} {t : TypeId} {cs : Array Value} (h : Has w g t cs) (hb : w.grownBy w' row) (hg : some g ≠ row) : Has w' g t cs := (hb.block g h.lt hg).trans h

/-- Only block g (and what is new) may have turned from a to w. -/
def Only (g : Nat) (a w : World) : Prop := a.grownBy w (some g)
theorem Only.refl (g : Nat) (w : World) : Only g w w := World.grownBy.refl w _
theorem Only.drew {g : Nat} {a w : World} (h : Only g a w) : Only g a w.drew := ⟨h.os, h.tape, h.output, h.size, h.block⟩
theorem Only.drewN {g : Nat} {a w : World} (h : Only g a w) (n : Nat) : Only g a (w.drewN n) := ⟨h.os, h.tape, h.output, h.size, h.block⟩
theorem Only.alloc {g : Nat} {a w : World} (h : Only g a w) (o : Obj) : Only g a (w.alloc o) :=
  ⟨h.os, h.tape, h.output, Nat.le_trans h.size (by simp), fun i hi hne => (Below.heap_alloc w o i (Nat.lt_of_lt_of_le hi h.size)).trans (h.block i hi hne)⟩
theorem Only.store {g : Nat} {a w : World} (h : Only g a w) {p : Addr} (hp : p.block = g ∨ a.heap.size ≤ p.block) (u : Value) : Only g a (w.setCell p u) :=
  ⟨h.os, h.tape, h.output, by simpa [World.setCell] using h.size, fun i hi hne => (Below.heap_setCell w p u i (by
    rintro rfl
    rcases hp with hp | hp
    · exact hne (by rw [hp])
    · omega)).trans (h.block i hi hne)⟩
theorem Only.below {g B : Nat} {a w : World} (h : Only g a w) (hB : B ≤ g) (hs : B ≤ a.heap.size) : Below B a w :=
  ⟨h.os, h.tape, h.output, h.size, fun i hi => h.block i (Nat.lt_of_lt_of_le hi hs) (by simp; omega)⟩
theorem Only.has {g g' : Nat} {a w : World} {t : TypeId} {cs : Array Value} (h : Only g a w) (hh : Has a g' t cs) (hne : g' ≠ g) : Has w g' t cs := hh.grown h (by simpa using hne)
theorem bel_drewN {B : Nat} {a w : World} (h : Below B a w) (n : Nat) : Below B a (w.drewN n) := ⟨h.os, h.tape, h.output, h.size, h.block⟩
theorem Only.trans {g : Nat} {a b c : World} (h : Only g a b) (k : Only g b c) : Only g a c :=
  ⟨k.os.trans h.os, k.tape.trans h.tape, k.output.trans h.output, Nat.le_trans h.size k.size, fun i hi hne => (k.block i (Nat.lt_of_lt_of_le hi h.size) hne).trans (h.block i hi hne)⟩
theorem only_below {g : Nat} {w w' : World} (h : Go.RowKit.Below w.heap.size w w') : Only g w w' := ⟨h.os, h.tape, h.output, h.size, fun i hi _ => h.block i hi⟩
end Go.Proofs.YtembljihmnmmfaaGreat
namespace Go.Proofs.YtembljihmnmmfaaGreat
set_option linter.unusedVariables false
set_option linter.unusedSimpArgs false
open Go.RowKit

theorem own_bel {w w' : World} {base : Nat} {e : TypeId} {size : Nat} {v : Value} {n : Nat} {xs : List Value} (h : w.ownsRow base e size v n xs) (hb : Below w.heap.size w w') : w'.ownsRow base e size v n xs :=
  h.kept (row := none) ⟨hb.os, hb.tape, hb.output, hb.size, fun i hi _ => hb.block i hi⟩ (by
    rcases h.2 with ⟨rfl, _⟩ | ⟨g, _, _, rfl, _⟩
    · exact .inl rfl
    · exact .inr (by simp [Value.ownBlock]))
theorem own_shape {w : World} {base size n : Nat} {e : TypeId} {v : Value} {xs : List Value} (h : w.ownsRow base e size v n xs) : ∃ a c, v = .slice a n c := by
  rcases h.2 with ⟨rfl, rfl⟩ | ⟨g, cap, cur, rfl, _⟩
  · exact ⟨none, 0, rfl⟩
  · exact ⟨_, cap, rfl⟩
def natsL (D : List Nat) : List Value := D.map fun (x : Nat) => Value.int .i64 (x : Int)
theorem natsL_len (D : List Nat) : (natsL D).length = D.length := by simp [natsL]
theorem natsL_get (D : List Nat) (j : Nat) (h : j < D.length) : (natsL D)[j]? = some (.int .i64 (D[j] : Int)) := by simp [natsL, h]
theorem natsL_append (D E : List Nat) : natsL (D ++ E) = natsL D ++ natsL E := by simp [natsL]
theorem natsL_one (D : List Nat) : ∀ u ∈ natsL D, u.oneCell' = true := by
  intro u hu
  simp only [natsL, List.mem_map] at hu
  obtain ⟨x, _, rfl⟩ := hu
  rfl
theorem own_neq {w : World} {base size n g m c : Nat} {e : TypeId} {v : Value} {xs : List Value} (h : w.ownsRow base e size v n xs) (hg : g < base) : Value.ownBlock (.slice (some ⟨g, 0, none⟩) m c) ≠ v.ownBlock := by
  intro he
  have := (h.lt g (by rw [← he]; rfl)).1
  omega
theorem natsL_take {w : World} {base g n c : Nat} {E : TypeId} {D : List Nat} (h : w.ownsRow base E 1 (.slice (some ⟨g, 0, none⟩) n c) n (natsL D)) (k : Nat) : ∀ (j : Nat) (u : Value), (natsL (D.take k))[j]? = some u → w.cell? ((⟨g, 0, none⟩ : Addr).add j) = some u := by
  intro j u hu
  refine h.cells (g := g) rfl j u ?_
  simp only [natsL, List.map_take, List.getElem?_take] at hu ⊢
  split at hu
  · exact hu
  · cases hu
theorem natsL_drop {w : World} {base g n c : Nat} {E : TypeId} {D : List Nat} (h : w.ownsRow base E 1 (.slice (some ⟨g, 0, none⟩) n c) n (natsL D)) (k : Nat) : ∀ (j : Nat) (u : Value), (natsL (D.drop k))[j]? = some u → w.cell? ((⟨g, k, none⟩ : Addr).add j) = some u := by
  intro j u hu
  have e : (⟨g, k, none⟩ : Addr).add j = ⟨g, k + j, none⟩ := by unfold Addr.add; split <;> simp_all
  have hu2 : (natsL D)[k + j]? = some u := by
    simp only [natsL, List.map_drop, List.getElem?_drop] at hu ⊢; exact hu
  have hl := h.1
  have hj : k + j < n * 1 := by rw [← hl]; exact (List.getElem?_eq_some_iff.1 hu2).1
  rw [e, h.cellAt _ hj, hu2]
def nats (n : Nat) (f : Nat → Nat) : List Value := (List.range n).map fun s => Value.int .i64 (f s : Int)
theorem nats_len (n : Nat) (f : Nat → Nat) : (nats n f).length = n := by simp [nats]
theorem nats_get (n : Nat) (f : Nat → Nat) (s : Nat) (h : s < n) : (nats n f)[s]? = some (.int .i64 (f s : Int)) := by simp [nats, h]
theorem nats_set (n : Nat) (f : Nat → Nat) (s : Nat) (x : Nat) : (nats n f).set s (.int .i64 (x : Int)) = nats n (fun t => if t = s then x else f t) := by
  apply List.ext_getElem (by simp [nats])
  intro i h1 h2
  by_cases e : s = i
  · subst e; simp [nats]
  · have : ¬ i = s := fun h => e h.symm
    simp [nats, List.getElem_set, e, this]
theorem nats_congr {n : Nat} {f g : Nat → Nat} (h : ∀ s, s < n → f s = g s) : nats n f = nats n g := by
  unfold nats
  exact List.map_congr_left fun s hs => by rw [h s (List.mem_range.1 hs)]
theorem Tryz.infoInt : (Tryz.prog.info? 3).map (fun i => (i.zero, i.size, i.bytes)) = some (some (.int .i64 0), 1, 8) := by kernel_rfl
theorem own_types {w : World} {b1 b2 s1 s2 n1 n2 g : Nat} {e1 e2 : TypeId} {v1 v2 : Value} {xs ys : List Value} (h : w.ownsRow b1 e1 s1 v1 n1 xs) (h' : w.ownsRow b2 e2 s2 v2 n2 ys) (hne : e1 ≠ e2) (hg : v1.ownBlock = some g) : v2.ownBlock ≠ some g := by
  intro he
  rcases h.2 with ⟨rfl, _⟩ | ⟨ga, _, ca, rfl, _, ha, _⟩
  · cases hg
  · rcases h'.2 with ⟨rfl, _⟩ | ⟨gb, _, cb, rfl, _, hb, _⟩
    · cases he
    · simp only [Value.ownBlock, Option.some.injEq] at hg he
      subst hg he
      rw [ha] at hb
      injection hb with hb
      injection hb with _ h2
      exact hne h2
theorem made_nats (n : Nat) : (madeCells #[Value.int .i64 0] n).toList = nats n (fun _ => 0) := by
  rw [toList_madeCells_one]
  apply List.ext_getElem (by simp [nats])
  intro i h1 h2
  simp [nats]
theorem cell_one (w : World) (u : Value) (T : TypeId) : ∀ (j : Nat) (v : Value), [u][j]? = some v → (w.alloc (.cells #[u] T)).cell? ((⟨w.heap.size, 0, none⟩ : Addr).add j) = some v := by
  intro j v hv
  have hj : j = 0 := by
    have := (List.getElem?_eq_some_iff.1 hv).1
    simpa using this
  subst hj
  have := (Has.fresh w T #[u]).cell 0
  have e : (⟨w.heap.size, 0, none⟩ : Addr).add 0 = ⟨w.heap.size, 0, none⟩ := by simp [Addr.add]
  rw [e, this]
  simpa using hv
theorem natsL_nats (L : List Nat) : natsL L = nats L.length (fun s => L.getD s 0) := by
  apply List.ext_getElem (by simp [natsL, nats])
  intro i h1 h2
  have h : i < L.length := by simpa [natsL] using h1
  simp [natsL, nats, List.getD_eq_getElem?_getD, h]
theorem own_away {w : World} {base n S : Nat} {E : TypeId} {v : Value} {xs : List Value} (h : w.ownsRow base E S v n xs) {p : Addr} (hp : p.block < base) (u : Value) : (w.setCell p u).ownsRow base E S v n xs :=
  h.kept ((Only.refl p.block w).store (.inl rfl) u) (.inr (fun he => by have := (h.lt _ he).1; omega))
end Go.Proofs.YtembljihmnmmfaaGreat
namespace Go.Proofs.YtembljihmnmmfaaGreat
set_option linter.unusedVariables false
set_option linter.unusedSimpArgs false
open Go.RowKit

/-- The elements zs of a slice that lies at a, in a block below B (or is empty). -/
def Ints (w : World) (B : Nat) (a : Option Addr) (zs : List Int) : Prop :=
  zs.length ≤ 140737488355328 ∧ (∀ n ∈ zs, -9223372036854775808 ≤ n ∧ n ≤ 9223372036854775807) ∧
    (0 < zs.length → ∃ b off, a = some ⟨b, off, none⟩ ∧ b < B ∧ ∀ i, i < zs.length → w.cell? ⟨b, off + i, none⟩ = some (.int .i64 (zs.getD i 0)))
theorem Ints.keep {w w' : World} {B : Nat} {a : Option Addr} {zs : List Int} (h : Ints w B a zs) (hk : ∀ p : Addr, p.block < B → w'.cell? p = w.cell? p) : Ints w' B a zs :=
  ⟨h.1, h.2.1, fun h0 => by
    obtain ⟨b, off, e, hb, hc⟩ := h.2.2 h0
    exact ⟨b, off, e, hb, fun i hi => (hk _ hb).trans (hc i hi)⟩⟩
theorem Ints.below {w w' : World} {B : Nat} {a : Option Addr} {zs : List Int} (h : Ints w B a zs) (hb : Below B w w') : Ints w' B a zs := h.keep fun _ hp => hb.cell hp
theorem Ints.mono {w : World} {B B' : Nat} {a : Option Addr} {zs : List Int} (h : Ints w B a zs) (hB : B ≤ B') : Ints w B' a zs :=
  ⟨h.1, h.2.1, fun h0 => by
    obtain ⟨b, off, e, hb, hc⟩ := h.2.2 h0
    exact ⟨b, off, e, by omega, hc⟩⟩
theorem Ints.range {w : World} {B : Nat} {a : Option Addr} {zs : List Int} (h : Ints w B a zs) (k : Nat) : -9223372036854775808 ≤ zs.getD k 0 ∧ zs.getD k 0 ≤ 9223372036854775807 := by
  rcases Nat.lt_or_ge k zs.length with hk | hk
  · have e : zs.getD k 0 = zs[k] := by simp [List.getD_eq_getElem?_getD, hk]
    rw [e]; exact h.2.1 _ (List.getElem_mem hk)
  · have e : zs.getD k 0 = 0 := by simp [List.getD_eq_getElem?_getD, hk]
    rw [e]; omega
theorem mem_getD {zs : List Int} {x : Int} (h : x ∈ zs) : ∃ k, k < zs.length ∧ zs.getD k 0 = x := by
  obtain ⟨k, hk, e⟩ := List.getElem_of_mem h
  exact ⟨k, hk, by simp [List.getD_eq_getElem?_getD, hk, e]⟩
theorem getD_mem {zs : List Int} {k : Nat} (h : k < zs.length) : zs.getD k 0 ∈ zs := by
  have e : zs.getD k 0 = zs[k] := by simp [List.getD_eq_getElem?_getD, h]
  rw [e]; exact List.getElem_mem h
end Go.Proofs.YtembljihmnmmfaaGreat
namespace Go.Proofs.YtembljihmnmmfaaGreat
set_option linter.unusedVariables false
set_option linter.unusedSimpArgs false
open Go.RowKit

/-- Is it a way? -/
def wayOk (m : Int) (b : Bool) (t : Int) : Bool := (decide (m = 0) && (!b && decide (t = 0))) || ((decide (m = 1) || decide (m = 2)) && (decide (1 ≤ t) && decide (t ≤ 4))) || (decide (m = 3) && decide (t = 0))
theorem wayOk_range {m t : Int} {b : Bool} (h : wayOk m b t = true) : 0 ≤ m ∧ m ≤ 3 ∧ 0 ≤ t ∧ t ≤ 4 := by
  simp only [wayOk, Bool.or_eq_true, Bool.and_eq_true, decide_eq_true_eq] at h
  omega
end Go.Proofs.YtembljihmnmmfaaGreat
namespace Go.Proofs.YtembljihmnmmfaaGreat
set_option linter.unusedVariables false
set_option linter.unusedSimpArgs false

/-- All of the list are bytes. -/
def Byt (l : List Nat) : Prop := ∀ b ∈ l, b < 256
theorem byt_bytesOf (s : ByteArray) : Byt (bytesOf s) := by
  intro b hb
  simp only [bytesOf, List.mem_map] at hb
  obtain ⟨x, _, rfl⟩ := hb
  exact UInt8.toNat_lt _

/-- Two rows in one strict order with the same members are one. -/
theorem pw_unique {R : Nat → Nat → Prop} (irr : ∀ a, ¬ R a a) (asym : ∀ a b, R a b → ¬ R b a) : ∀ (l m : List Nat), l.Pairwise R → m.Pairwise R → (∀ b, b ∈ l ↔ b ∈ m) → l = m := by
  intro l
  induction l with
  | nil =>
    intro m _ _ h
    cases m with
    | nil => rfl
    | cons b m => exact absurd ((h b).2 (List.mem_cons_self ..)) (by simp)
  | cons a l ih =>
    intro m hl hm h
    cases m with
    | nil => exact absurd ((h a).1 (List.mem_cons_self ..)) (by simp)
    | cons b m =>
      rw [List.pairwise_cons] at hl hm
      have hab : a = b := by
        rcases List.mem_cons.1 ((h a).1 (List.mem_cons_self ..)) with e | e
        · exact e
        · rcases List.mem_cons.1 ((h b).2 (List.mem_cons_self ..)) with e2 | e2
          · exact e2.symm
          · exact absurd (hm.1 a e) (asym _ _ (hl.1 b e2))
      subst hab
      rw [ih m hl.2 hm.2]
      intro x
      constructor
      · intro hx
        rcases List.mem_cons.1 ((h x).1 (List.mem_cons_of_mem _ hx)) with e | e
        · subst e; exact absurd (hl.1 x hx) (irr _)
        · exact e
      · intro hx
        rcases List.mem_cons.1 ((h x).2 (List.mem_cons_of_mem _ hx)) with e | e
        · subst e; exact absurd (hm.1 x hx) (irr _)
        · exact e
theorem asc_unique {l m : List Nat} (h1 : l.Pairwise (· < ·)) (h2 : m.Pairwise (· < ·)) (h : ∀ b, b ∈ l ↔ b ∈ m) : l = m :=
  pw_unique (fun a => Nat.lt_irrefl a) (fun a b h => by omega) l m h1 h2 h

/-- The numbers of the list, each once, ascending, below k. -/
def usedTo (l : List Nat) (k : Nat) : List Nat := (List.range k).filter (fun b => decide (0 < l.count b))
def usedL (l : List Nat) : List Nat := usedTo l 256
theorem usedTo_succ (l : List Nat) (k : Nat) : usedTo l (k + 1) = if 0 < l.count k then usedTo l k ++ [k] else usedTo l k := by
  unfold usedTo
  rw [List.range_succ, List.filter_append]
  split <;> simp_all
theorem mem_usedTo {l : List Nat} {k b : Nat} : b ∈ usedTo l k ↔ b < k ∧ b ∈ l := by
  simp [usedTo, List.count_pos_iff]
theorem mem_usedL {l : List Nat} (h : Byt l) {b : Nat} : b ∈ usedL l ↔ b ∈ l := by
  unfold usedL
  rw [mem_usedTo]
  exact ⟨fun x => x.2, fun x => ⟨h b x, x⟩⟩
theorem usedL_asc (l : List Nat) : (usedL l).Pairwise (· < ·) := List.pairwise_lt_range.sublist List.filter_sublist
theorem usedTo_len (l : List Nat) (k : Nat) : (usedTo l k).length ≤ k := by
  unfold usedTo
  have := List.length_filter_le (fun b => decide (0 < l.count b)) (List.range k)
  simpa using this
theorem asc_nodup {l : List Nat} (h : l.Pairwise (· < ·)) : l.Nodup := h.imp (fun h => by omega)
theorem usedL_nodup (l : List Nat) : (usedL l).Nodup := asc_nodup (usedL_asc l)
theorem usedL_self {u : List Nat} (hb : Byt u) : usedL u = u ↔ u.Pairwise (· < ·) := by
  constructor
  · intro h; rw [← h]; exact usedL_asc u
  · intro h; exact asc_unique (usedL_asc u) h (fun b => mem_usedL hb)
theorem nodup_len_le : ∀ {l m : List Nat}, l.Nodup → (∀ b ∈ l, b ∈ m) → l.length ≤ m.length := by
  intro l
  induction l with
  | nil => intro m _ _; simp
  | cons a l ih =>
    intro m hl h
    rw [List.nodup_cons] at hl
    have ha := h a (List.mem_cons_self ..)
    have h2 := ih (m := m.erase a) hl.2 (fun b hb => (List.mem_erase_of_ne (fun e => hl.1 (by rw [← e]; exact hb))).2 (h b (List.mem_cons_of_mem _ hb)))
    rw [List.length_erase_of_mem ha] at h2
    have := List.length_pos_of_mem ha
    simp only [List.length_cons]
    omega
theorem used_len_le {l : List Nat} (hb : Byt l) : (usedL l).length ≤ l.length := nodup_len_le (usedL_nodup l) (fun b h => (mem_usedL hb).1 h)
theorem used_len_eq {l : List Nat} (hb : Byt l) : (usedL l).length = l.length ↔ l.Nodup := by
  constructor
  · intro h
    rw [List.nodup_iff_count]
    intro a
    apply Decidable.byContradiction
    intro hc
    have h2 : 2 ≤ l.count a := by omega
    have ha : a ∈ l := List.count_pos_iff.1 (by omega)
    have hb2 : Byt (l.erase a) := fun b hx => hb b (List.mem_of_mem_erase hx)
    have he : usedL l = usedL (l.erase a) := asc_unique (usedL_asc _) (usedL_asc _) (fun b => by
      rw [mem_usedL hb, mem_usedL hb2, ← List.count_pos_iff, ← List.count_pos_iff, List.count_erase]
      by_cases e : b = a
      · subst e; rw [beq_self_eq_true, if_pos rfl]; omega
      · rw [if_neg (by simpa using Ne.symm e)]; rfl)
    have h3 := used_len_le hb2
    rw [← he, List.length_erase_of_mem ha] at h3
    have := List.length_pos_of_mem ha
    omega
  · intro h
    have := nodup_len_le h (fun b hx => (mem_usedL hb).2 hx)
    have := used_len_le hb
    omega
theorem nodup_256 {l : List Nat} (hb : Byt l) (h : l.Nodup) : l.length ≤ 256 := by
  have := (used_len_eq hb).2 h
  have := usedTo_len l 256
  unfold usedL at *
  omega
/-- An order: something, and nothing twice. -/
def ordOk (l : List Nat) : Bool := decide (l ≠ [] ∧ l.Nodup)
theorem ordOk_iff (l : List Nat) : ordOk l = true ↔ l ≠ [] ∧ l.Nodup := by simp [ordOk]
/-- By count: what comes more often comes first; else by value. -/
def befC (l : List Nat) (a b : Nat) : Prop := l.count b < l.count a ∨ (l.count a = l.count b ∧ a < b)
theorem befC_irr (l : List Nat) (a : Nat) : ¬ befC l a a := by unfold befC; omega
theorem befC_asym (l : List Nat) (a b : Nat) (h : befC l a b) : ¬ befC l b a := by unfold befC at *; omega
/-- The bytes of l by count. -/
def Ranked (l R : List Nat) : Prop := R.Pairwise (befC l) ∧ ∀ b, b ∈ R ↔ b ∈ l
theorem ranked_unique {l R R2 : List Nat} (h : Ranked l R) (h2 : Ranked l R2) : R = R2 :=
  pw_unique (befC_irr l) (befC_asym l) R R2 h.1 h2.1 (fun b => (h.2 b).trans (h2.2 b).symm)
theorem ranked_nodup {l R : List Nat} (h : Ranked l R) : R.Nodup := h.1.imp (fun {a b} h e => by subst e; exact befC_irr l a h)
theorem ranked_byt {l R : List Nat} (hb : Byt l) (h : Ranked l R) : Byt R := fun b hx => hb b ((h.2 b).1 hx)
theorem ranked_used {l R : List Nat} (hb : Byt l) (h : Ranked l R) : usedL R = usedL l :=
  asc_unique (usedL_asc _) (usedL_asc _) (fun b => by rw [mem_usedL (ranked_byt hb h), mem_usedL hb]; exact h.2 b)
/-- What is still to be picked, and how often it occurs. -/
def remF (L R : List Nat) (b : Nat) : Nat := if b ∈ R then 0 else L.count b
/-- R has been picked from L, in order. -/
def Sel (L R : List Nat) : Prop := R.Pairwise (befC L) ∧ (∀ x ∈ R, x ∈ L) ∧ ∀ x ∈ R, ∀ y ∈ L, y ∉ R → befC L x y
theorem sel_nil (L : List Nat) : Sel L [] := ⟨List.Pairwise.nil, by simp, by simp⟩
theorem sel_nodup {L R : List Nat} (h : Sel L R) : R.Nodup := h.1.imp (fun {a b} h e => by subst e; exact befC_irr L a h)
theorem sel_step {L R : List Nat} (hB : Byt L) (h : Sel L R) {m : Nat} (hmax : ∀ x, x < 256 → remF L R x ≤ remF L R m ∧ (remF L R x = remF L R m → m ≤ x)) (hp : 0 < remF L R m) : Sel L (R ++ [m]) ∧ R.length + 1 ≤ 256 := by
  have hm : m ∉ R := fun e => by unfold remF at hp; rw [if_pos e] at hp; omega
  have hr : remF L R m = L.count m := by unfold remF; rw [if_neg hm]
  have hmL : m ∈ L := List.count_pos_iff.1 (by omega)
  have h2 : Sel L (R ++ [m]) := by
    refine ⟨?_, ?_, ?_⟩
    · rw [List.pairwise_append]
      refine ⟨h.1, by simp, fun a ha b hb => ?_⟩
      simp at hb; subst hb
      exact h.2.2 a ha b hmL hm
    · intro x hx
      rcases List.mem_append.1 hx with hx | hx
      · exact h.2.1 x hx
      · simp at hx; subst hx; exact hmL
    · intro x hx y hy hn
      have hy1 : y ∉ R := fun e => hn (List.mem_append_left _ e)
      have hy2 : y ≠ m := fun e => hn (by simp [e])
      rcases List.mem_append.1 hx with hx | hx
      · exact h.2.2 x hx y hy hy1
      · simp at hx; subst hx
        have hq := hmax y (hB y hy)
        have hry : remF L R y = L.count y := by unfold remF; rw [if_neg hy1]
        rw [hry, hr] at hq
        unfold befC; omega
  refine ⟨h2, ?_⟩
  have := nodup_256 (fun b hb => hB b (h2.2.1 b hb)) (sel_nodup h2)
  simpa using this
theorem sel_end {L R : List Nat} (hB : Byt L) (h : Sel L R) {m : Nat} (hmax : ∀ x, x < 256 → remF L R x ≤ remF L R m ∧ (remF L R x = remF L R m → m ≤ x)) (hp : remF L R m = 0) : Ranked L R := by
  refine ⟨h.1, fun b => ⟨h.2.1 b, fun hb => ?_⟩⟩
  apply Decidable.byContradiction
  intro hn
  have h1 := (hmax b (hB b hb)).1
  have h2 : remF L R b = L.count b := by unfold remF; rw [if_neg hn]
  have h3 := List.count_pos_iff.2 hb
  omega
theorem remF_snoc (L R : List Nat) (m t : Nat) : remF L (R ++ [m]) t = if t = m then 0 else remF L R t := by
  unfold remF
  by_cases e : t = m
  · subst e; simp
  · simp [e]
theorem remF_nil (L : List Nat) : remF L [] = fun b => L.count b := by funext b; simp [remF]
end Go.Proofs.YtembljihmnmmfaaGreat
namespace Go.Proofs.YtembljihmnmmfaaGreat
set_option linter.unusedVariables false
set_option linter.unusedSimpArgs false
open Go.RowKit

/-- The cells of a row of small numbers. -/
def u8s (l : List Nat) : List Value := l.map fun (b : Nat) => Value.int .u8 (b : Int)
theorem u8s_len (l : List Nat) : (u8s l).length = l.length := by simp [u8s]
theorem u8s_snoc (l : List Nat) (b : Nat) : u8s (l ++ [b]) = u8s l ++ [.int .u8 (b : Int)] := by simp [u8s]
theorem u8s_append (l m : List Nat) : u8s (l ++ m) = u8s l ++ u8s m := by simp [u8s]
theorem u8s_one (l : List Nat) : ∀ u ∈ u8s l, u.oneCell' = true := by
  intro u hu
  simp only [u8s, List.mem_map] at hu
  obtain ⟨b, _, rfl⟩ := hu
  rfl
theorem u8s_set (l : List Nat) (k b : Nat) : u8s (l.set k b) = (u8s l).set k (.int .u8 (b : Int)) := by simp [u8s, List.map_set]
theorem u8s_get (l : List Nat) (k : Nat) (h : k < l.length) : (u8s l)[k]? = some (.int .u8 ((l.getD k 0 : Nat) : Int)) := by simp [u8s, List.getD_eq_getElem?_getD, h]
theorem own_ne {w : World} {base g : Nat} {e : TypeId} {size : Nat} {v : Value} {n : Nat} {xs : List Value} (h : w.ownsRow base e size v n xs) (hg : g < base) : some g ≠ v.ownBlock := by
  intro he
  have := (h.lt g he.symm).1
  omega

theorem fold_push (ns : List Nat) (r : ByteArray) : ns.foldl (fun r n => r.push (UInt8.ofNat n)) r = ⟨(r.data.toList ++ ns.map UInt8.ofNat).toArray⟩ := by
  induction ns generalizing r with
  | nil => simp
  | cons n ns ih =>
    rw [List.foldl_cons, ih]
    simp [ByteArray.push]
theorem run_string_own {P : Program} {w : World} {base g n c : Nat} {D : List Nat} {src dst e : TypeId} (hs : P.underlying src = some (.slice e)) (he : P.underlying e = some (.int .u8)) (hd : P.underlying dst = some .string)
    (h : w.ownsRow base e 1 (.slice (some ⟨g, 0, none⟩) n c) n (u8s D)) (hn : D.length = n) :
    (convert src dst (.slice (some ⟨g, 0, none⟩) n c)).run P w = .ok (.string (strOf D)) w := by
  rw [run_convert_bytes_string w src dst e _ _ _ hs he hd]
  have hl := run_loadCells_list (P := P) (w := w) ⟨g, 0, none⟩ (u8s D) (fun j u hu => h.cells (g := g) rfl j u hu)
  rw [u8s_len, hn] at hl
  have e1 : (u8s D).toArray = ((D.map fun (b : Nat) => (b : Int)).map (Value.int .u8)).toArray := by simp [u8s]
  rw [e1] at hl
  rw [run_bytesToString w ⟨g, 0, none⟩ n c _ hl]
  congr 2
  rw [List.foldl_map]
  simp only [Int.toNat_natCast]
  rw [fold_push]
  simp [strOf]
end Go.Proofs.YtembljihmnmmfaaGreat
namespace Go.Proofs.YtembljihmnmmfaaGreat
set_option linter.unusedVariables false
set_option linter.unusedSimpArgs false

theorem idx_lt {u : List Nat} {x : Nat} (h : x ∈ u) : u.idxOf x < u.length := List.idxOf_lt_length_of_mem h
theorem idx_get {u : List Nat} {x : Nat} (h : x ∈ u) : u.getD (u.idxOf x) 0 = x := by
  rw [List.getD_eq_getElem?_getD, List.getElem?_eq_getElem (idx_lt h), Option.getD_some, List.getElem_idxOf]

/-- The places that a mask of sixteen bits shows. -/
def places (m : Nat) : List Nat := (List.range 16).filter fun p => decide (m / 2 ^ (15 - p) % 2 = 1)
end Go.Proofs.YtembljihmnmmfaaGreat
namespace Go.Proofs.YtembljihmnmmfaaGreat
set_option linter.unusedVariables false
set_option linter.unusedSimpArgs false

/-- Are they symbols of an alphabet of n? -/
def rOk (z : List Int) (n : Int) : Bool := decide (1 ≤ n ∧ n ≤ 256 ∧ z.length ≤ 600 ∧ ∀ x ∈ z, 0 ≤ x ∧ x < n)
theorem rOk_iff (z : List Int) (n : Int) : rOk z n = true ↔ 1 ≤ n ∧ n ≤ 256 ∧ z.length ≤ 600 ∧ ∀ x ∈ z, 0 ≤ x ∧ x < n := by simp [rOk]
/-- Numbers as integers. -/
def ints (L : List Nat) : List Int := L.map fun (x : Nat) => (x : Int)
theorem ints_len (L : List Nat) : (ints L).length = L.length := by simp [ints]
theorem ints_get (L : List Nat) (k : Nat) : (ints L).getD k 0 = ((L.getD k 0 : Nat) : Int) := by
  unfold ints
  simp only [List.getD_eq_getElem?_getD, List.getElem?_map]
  cases L[k]? <;> rfl
/-- A valid list is one of numbers. -/
theorem rOk_nats {z : List Int} {n : Int} (h : rOk z n = true) : ∃ (L : List Nat) (m : Nat), z = ints L ∧ n = m ∧ 1 ≤ m ∧ m ≤ 256 ∧ L.length ≤ 600 ∧ ∀ x ∈ L, x < m := by
  obtain ⟨h1, h2, h3, h4⟩ := (rOk_iff z n).1 h
  have hz : z = ints (z.map Int.toNat) := by
    unfold ints
    rw [List.map_map]
    conv => lhs; rw [← List.map_id z]
    apply List.map_congr_left
    intro x hx
    have := h4 x hx
    simp only [id, Function.comp]
    omega
  refine ⟨z.map Int.toNat, n.toNat, hz, by omega, by omega, by omega, by simpa using h3, ?_⟩
  intro x hx
  obtain ⟨y, hy, rfl⟩ := List.mem_map.1 hx
  have := h4 y hy
  omega
/-- A machine's answers, one for each number of a list. -/
def runF {σ : Type} (f : σ → Nat → Nat × σ) : σ → List Nat → List Nat
  | _, [] => []
  | s, x :: xs => (f s x).1 :: runF f (f s x).2 xs
theorem runF_len {σ : Type} (f : σ → Nat → Nat × σ) : ∀ (L : List Nat) (s : σ), (runF f s L).length = L.length
  | [], _ => rfl
  | x :: xs, s => by simp [runF, runF_len f xs]
theorem drop_cons (L : List Nat) (k : Nat) (h : k < L.length) : L.drop k = L.getD k 0 :: L.drop (k + 1) := by
  rw [List.drop_eq_getElem_cons h]
  congr 1
  simp [List.getD_eq_getElem?_getD, h]
theorem getD_mem7 (L : List Nat) (k : Nat) (h : k < L.length) : L.getD k 0 ∈ L := by
  have e : L.getD k 0 = L[k] := by simp [List.getD_eq_getElem?_getD, h]
  rw [e]; exact List.getElem_mem h

/-- The one at place k comes to the front. -/
def frontL (r : List Nat) (k : Nat) : List Nat := r.getD k 0 :: r.eraseIdx k
theorem eraseIdx_td (r : List Nat) (k : Nat) : r.eraseIdx k = r.take k ++ r.drop (k + 1) := List.eraseIdx_eq_take_drop_succ r k
theorem split_at (r : List Nat) (k : Nat) (h : k < r.length) : r = r.take k ++ r.getD k 0 :: r.drop (k + 1) := by
  rw [← drop_cons r k h, List.take_append_drop]
theorem frontL_perm (r : List Nat) (k : Nat) (h : k < r.length) : (frontL r k).Perm r := by
  unfold frontL
  rw [eraseIdx_td]
  conv => rhs; rw [split_at r k h]
  exact List.perm_middle.symm
/-- One step of move-to-front, one of its inverse. -/
def mtfF (r : List Nat) (x : Nat) : Nat × List Nat := (r.idxOf x, frontL r (r.idxOf x))
/-- A row of the numbers below n, in some order. -/
def PermN (n : Nat) (r : List Nat) : Prop := r.Perm (List.range n)
theorem PermN.len {n : Nat} {r : List Nat} (h : PermN n r) : r.length = n := by rw [h.length_eq, List.length_range]
theorem PermN.mem {n : Nat} {r : List Nat} (h : PermN n r) (x : Nat) : x ∈ r ↔ x < n := by rw [h.mem_iff, List.mem_range]
theorem PermN.nodup {n : Nat} {r : List Nat} (h : PermN n r) : r.Nodup := h.nodup_iff.2 List.nodup_range
theorem PermN.idx {n : Nat} {r : List Nat} (h : PermN n r) {x : Nat} (hx : x < n) : r.idxOf x < n := by
  have := List.idxOf_lt_length_of_mem ((h.mem x).2 hx)
  rwa [h.len] at this
theorem PermN.at {n : Nat} {r : List Nat} (h : PermN n r) {k : Nat} (hk : k < n) : r.getD k 0 < n := (h.mem _).1 (getD_mem7 r k (by rw [h.len]; exact hk))
theorem PermN.front {n : Nat} {r : List Nat} (h : PermN n r) {k : Nat} (hk : k < n) : PermN n (frontL r k) := (frontL_perm r k (by rw [h.len]; exact hk)).trans h
theorem PermN.start (n : Nat) : PermN n (List.range n) := List.Perm.refl _
theorem idx_at (r : List Nat) {x : Nat} (h : x ∈ r) : r.getD (r.idxOf x) 0 = x := by
  have h2 := List.idxOf_lt_length_of_mem h
  simp [List.getD_eq_getElem?_getD, h2]
theorem idx_first (r : List Nat) (x j : Nat) (h : j < r.idxOf x) : r.getD j 0 ≠ x := by
  intro e
  have hle := List.idxOf_le_length (a := x) (l := r)
  have hj : j < r.length := by omega
  have e2 : r[j] = x := by simpa [List.getD_eq_getElem?_getD, hj] using e
  have h3 : (r.take (j + 1)).idxOf x ≤ j := by
    have hm : x ∈ r.take (j + 1) := by
      rw [List.mem_take_iff_getElem]
      exact ⟨j, by omega, e2⟩
    have := List.idxOf_lt_length_of_mem hm
    rw [List.length_take] at this
    omega
  have h4 : r.idxOf x ≤ j := by
    have hm : x ∈ r.take (j + 1) := by
      rw [List.mem_take_iff_getElem]
      exact ⟨j, by omega, e2⟩
    conv => lhs; rw [← List.take_append_drop (j + 1) r]
    rw [List.idxOf_append, if_pos hm]
    exact h3
  omega
/-- The answers of move-to-front, as integers; none where the list is not valid. -/
def mtfZ (z : List Int) (n : Int) : List Int := if rOk z n = true then ints (runF mtfF (List.range n.toNat) (z.map Int.toNat)) else []
theorem ints_toNat (L : List Nat) : (ints L).map Int.toNat = L := by
  unfold ints
  rw [List.map_map]
  conv => rhs; rw [← List.map_id L]
  apply List.map_congr_left
  intro x _
  rfl
theorem mtfZ_yes {L : List Nat} {m : Nat} (h : rOk (ints L) m = true) : mtfZ (ints L) m = ints (runF mtfF (List.range m) L) := by
  unfold mtfZ; rw [if_pos h, ints_toNat]; rfl
theorem mtfZ_no {z : List Int} {n : Int} (h : rOk z n = false) : mtfZ z n = [] := by unfold mtfZ; rw [h]; rfl
/-- What a machine's answers are bounded by, where every step keeps a relation on its states. -/
theorem runF_all {σ : Type} {f : σ → Nat → Nat × σ} (R : σ → Prop) (X Y : Nat → Prop) (h : ∀ s x, R s → X x → Y (f s x).1 ∧ R (f s x).2) : ∀ (L : List Nat) (s : σ), R s → (∀ x ∈ L, X x) → ∀ y ∈ runF f s L, Y y
  | [], _, _, _, y, hy => by cases hy
  | x :: xs, s, hR, hX, y, hy => by
    have h1 := h s x hR (hX x (List.mem_cons_self ..))
    rcases List.mem_cons.1 hy with e | e
    · rw [e]; exact h1.1
    · exact runF_all R X Y h xs _ h1.2 (fun q hq => hX q (List.mem_cons_of_mem _ hq)) y e
theorem mtf_lt {n : Nat} {L : List Nat} (hL : ∀ x ∈ L, x < n) : ∀ y ∈ runF mtfF (List.range n) L, y < n :=
  runF_all (PermN n) (· < n) (· < n) (fun s x hs hx => ⟨hs.idx hx, hs.front (hs.idx hx)⟩) L _ (PermN.start n) hL
end Go.Proofs.YtembljihmnmmfaaGreat
namespace Go.Proofs.YtembljihmnmmfaaGreat
set_option linter.unusedVariables false
set_option linter.unusedSimpArgs false

/-- The rotation at i. -/
def rotL (S : List Nat) (i : Nat) : List Nat := S.drop i ++ S.take i
theorem rotL_len (S : List Nat) (i : Nat) (h : i ≤ S.length) : (rotL S i).length = S.length := by
  unfold rotL
  rw [List.length_append, List.length_drop, List.length_take]
  omega
/-- The byte k of the rotation at i. -/
def rotB (S : List Nat) (i k : Nat) : Nat := S.getD ((i + k) % S.length) 0
theorem rotL_get (S : List Nat) (i k : Nat) (hi : i < S.length) (hk : k < S.length) : (rotL S i).getD k 0 = rotB S i k := by
  unfold rotL rotB
  simp only [List.getD_eq_getElem?_getD]
  congr 1
  by_cases h : i + k < S.length
  · rw [Nat.mod_eq_of_lt h, List.getElem?_append_left (by rw [List.length_drop]; omega), List.getElem?_drop]
  · have e : (i + k) % S.length = i + k - S.length := by
      rw [Nat.mod_eq_sub_mod (by omega), Nat.mod_eq_of_lt (by omega)]
    rw [e, List.getElem?_append_right (by rw [List.length_drop]; omega), List.length_drop, List.getElem?_take, if_pos (by omega)]
    congr 1
    omega
/-- The rotation at i stands ahead of the one at j; of equal ones the greater index. -/
def rlt (S : List Nat) (i j : Nat) : Prop := rotL S i < rotL S j ∨ (rotL S i = rotL S j ∧ j < i)
instance (S : List Nat) (i j : Nat) : Decidable (rlt S i j) := by unfold rlt; infer_instance
theorem rlt_irr (S : List Nat) (i : Nat) : ¬ rlt S i i := by
  rintro (h | ⟨_, h⟩)
  · exact List.lt_irrefl _ h
  · omega
theorem rlt_trans {S : List Nat} {i j k : Nat} (h : rlt S i j) (h2 : rlt S j k) : rlt S i k := by
  rcases h with h | ⟨h, h'⟩ <;> rcases h2 with h2 | ⟨h2, h2'⟩
  · exact .inl (List.lt_trans h h2)
  · exact .inl (h2 ▸ h)
  · exact .inl (h ▸ h2)
  · exact .inr ⟨h.trans h2, by omega⟩
theorem rlt_asym {S : List Nat} {i j : Nat} (h : rlt S i j) : ¬ rlt S j i := fun h2 => rlt_irr S i (rlt_trans h h2)
theorem rlt_total (S : List Nat) {i j : Nat} (h : i ≠ j) : rlt S i j ∨ rlt S j i := by
  by_cases h1 : rotL S i < rotL S j
  · exact .inl (.inl h1)
  · by_cases h2 : rotL S j < rotL S i
    · exact .inr (.inl h2)
    · have e : rotL S i = rotL S j := List.le_antisymm (List.not_lt.1 h2) (List.not_lt.1 h1)
      rcases Nat.lt_or_ge i j with h3 | h3
      · exact .inr (.inr ⟨e.symm, h3⟩)
      · exact .inl (.inr ⟨e, by omega⟩)
def rle (S : List Nat) (i j : Nat) : Bool := decide (i = j ∨ rlt S i j)
theorem rle_iff (S : List Nat) (i j : Nat) : rle S i j = true ↔ i = j ∨ rlt S i j := by simp [rle]
theorem rle_trans (S : List Nat) (a b c : Nat) (h : rle S a b = true) (h2 : rle S b c = true) : rle S a c = true := by
  rw [rle_iff] at *
  rcases h with rfl | h
  · exact h2
  · rcases h2 with rfl | h2
    · exact .inr h
    · exact .inr (rlt_trans h h2)
theorem rle_total (S : List Nat) (a b : Nat) : (rle S a b || rle S b a) = true := by
  rw [Bool.or_eq_true, rle_iff, rle_iff]
  by_cases e : a = b
  · exact .inl (.inl e)
  · rcases rlt_total S e with h | h
    · exact .inl (.inr h)
    · exact .inr (.inr h)
/-- R holds the numbers of l, in the rotations' order. -/
def Srt (S l R : List Nat) : Prop := R.Perm l ∧ R.Pairwise (rlt S)
theorem srt_unique {S l R R2 : List Nat} (h : Srt S l R) (h2 : Srt S l R2) : R = R2 := by
  refine List.Perm.eq_of_pairwise ?_ h.2 h2.2 (h.1.trans h2.1.symm)
  intro a b _ _ h3 h4
  exact absurd h4 (rlt_asym h3)
theorem pair_strict {S R : List Nat} (h : R.Pairwise (fun a b => rle S a b = true)) (hn : R.Nodup) : R.Pairwise (rlt S) := by
  have := h.and hn
  refine this.imp ?_
  rintro a b ⟨h1, h2⟩
  rcases (rle_iff S a b).1 h1 with e | e
  · exact absurd e h2
  · exact e
theorem srt_merge {S l l2 A B : List Nat} (h : Srt S l A) (h2 : Srt S l2 B) (hn : (l ++ l2).Nodup) : Srt S (l ++ l2) (A.merge B (rle S)) := by
  have hp : (A.merge B (rle S)).Perm (l ++ l2) := (List.merge_perm_append (rle S)).trans (h.1.append h2.1)
  have w : ∀ {R : List Nat}, R.Pairwise (rlt S) → R.Pairwise (fun a b => rle S a b = true) := fun hR => hR.imp fun hh => (rle_iff _ _ _).2 (.inr hh)
  exact ⟨hp, pair_strict (List.pairwise_merge (rle_trans S) (rle_total S) A B (w h.2) (w h2.2)) (hp.nodup_iff.2 hn)⟩
/-- All rotations in order. -/
def rotO (S : List Nat) : List Nat := (List.range S.length).mergeSort (rle S)
theorem rotO_srt (S : List Nat) : Srt S (List.range S.length) (rotO S) := by
  have hp : (rotO S).Perm (List.range S.length) := List.mergeSort_perm _ _
  exact ⟨hp, pair_strict (List.pairwise_mergeSort (rle_trans S) (rle_total S) _) (hp.nodup_iff.2 List.nodup_range)⟩
theorem rotO_is {S R : List Nat} (h : Srt S (List.range S.length) R) : R = rotO S := srt_unique h (rotO_srt S)
theorem rotO_len (S : List Nat) : (rotO S).length = S.length := by rw [(rotO_srt S).1.length_eq, List.length_range]
theorem rotO_lt (S : List Nat) : ∀ x ∈ rotO S, x < S.length := fun x hx => by
  have := (rotO_srt S).1.mem_iff.1 hx
  rwa [List.mem_range] at this
/-- The first place at which two rotations differ decides. -/
theorem rlt_diff {S : List Nat} {i j k : Nat} (hi : i < S.length) (hj : j < S.length) (hk : k < S.length) (h : ∀ t, t < k → rotB S i t = rotB S j t) (hne : rotB S i k ≠ rotB S j k) : rlt S i j ↔ rotB S i k < rotB S j k := by
  have li := rotL_len S i (by omega)
  have lj := rotL_len S j (by omega)
  have gi : ∀ t (ht : t < (rotL S i).length), (rotL S i)[t] = rotB S i t := fun t ht => by
    rw [← rotL_get S i t hi (by omega), List.getD_eq_getElem?_getD, List.getElem?_eq_getElem ht]; rfl
  have gj : ∀ t (ht : t < (rotL S j).length), (rotL S j)[t] = rotB S j t := fun t ht => by
    rw [← rotL_get S j t hj (by omega), List.getD_eq_getElem?_getD, List.getElem?_eq_getElem ht]; rfl
  have hnl : rotL S i ≠ rotL S j := fun e => hne (by rw [← rotL_get S i k hi hk, ← rotL_get S j k hj hk, e])
  constructor
  · rintro (h1 | ⟨h1, _⟩)
    · rcases Nat.lt_or_ge (rotB S i k) (rotB S j k) with h2 | h2
      · exact h2
      · have : rotL S j < rotL S i := by
          rw [List.lt_iff_exists]
          refine .inr ⟨k, by omega, by omega, fun t ht => ?_, ?_⟩
          · rw [gi, gj, h t ht]
          · rw [gi, gj]; omega
        exact absurd h1 (List.lt_asymm this)
    · exact absurd h1 hnl
  · intro h1
    refine .inl ?_
    rw [List.lt_iff_exists]
    refine .inr ⟨k, by omega, by omega, fun t ht => ?_, ?_⟩
    · rw [gi, gj, h t ht]
    · rw [gi, gj]; exact h1
theorem rlt_same {S : List Nat} {i j : Nat} (hi : i < S.length) (hj : j < S.length) (h : ∀ t, t < S.length → rotB S i t = rotB S j t) : rlt S i j ↔ j < i := by
  have e : rotL S i = rotL S j := by
    apply List.ext_getElem (by rw [rotL_len S i (by omega), rotL_len S j (by omega)])
    intro t h1 h2
    have ht : t < S.length := by rw [rotL_len S i (by omega)] at h1; exact h1
    have a1 := rotL_get S i t hi ht
    have a2 := rotL_get S j t hj ht
    rw [List.getD_eq_getElem?_getD, List.getElem?_eq_getElem h1] at a1
    rw [List.getD_eq_getElem?_getD, List.getElem?_eq_getElem h2] at a2
    have := h t ht
    simp only [Option.getD_some] at a1 a2
    omega
  unfold rlt
  rw [e]
  constructor
  · rintro (h1 | ⟨_, h1⟩)
    · exact absurd h1 (List.lt_irrefl _)
    · exact h1
  · exact fun h1 => .inr ⟨rfl, h1⟩
/-- The last bytes in the order, and where the rotation at 0 stands. -/
def lastL (S : List Nat) : List Nat := (rotO S).map fun r => S.getD ((r + S.length - 1) % S.length) 0
def fstN (S : List Nat) : Nat := (rotO S).idxOf 0
theorem lastL_len (S : List Nat) : (lastL S).length = S.length := by unfold lastL; rw [List.length_map, rotO_len]
end Go.Proofs.YtembljihmnmmfaaGreat
namespace Go.Proofs.YtembljihmnmmfaaGreat
set_option linter.unusedVariables false
set_option linter.unusedSimpArgs false

/-- x stands ahead of y: its sum is greater, or the sums are equal and it is the less number. -/
def bfS (f : Nat → Nat) (x y : Nat) : Prop := f y < f x ∨ (f x = f y ∧ x < y)
theorem bfS_asym (f : Nat → Nat) {x y : Nat} (h : bfS f x y) : ¬ bfS f y x := by unfold bfS at *; omega
theorem bfS_trans (f : Nat → Nat) {x y z : Nat} (h : bfS f x y) (h2 : bfS f y z) : bfS f x z := by unfold bfS at *; omega
theorem bfS_total (f : Nat → Nat) {x y : Nat} (h : x ≠ y) : bfS f x y ∨ bfS f y x := by unfold bfS; omega
/-- The numbers below n, sorted so. -/
def ByS (f : Nat → Nat) (n : Nat) (S : List Nat) : Prop := PermN n S ∧ S.Pairwise (bfS f)
theorem byS_unique {f : Nat → Nat} {n : Nat} {S S2 : List Nat} (h : ByS f n S) (h2 : ByS f n S2) : S = S2 := by
  refine List.Perm.eq_of_pairwise ?_ h.2 h2.2 (h.1.trans h2.1.symm)
  intro a b _ _ h3 h4
  exact absurd h4 (bfS_asym f h3)
theorem ins_pair {R : Nat → Nat → Prop} {P Q : List Nat} {x : Nat} (h : (P ++ Q).Pairwise R) (h1 : ∀ y ∈ P, R y x) (h2 : ∀ y ∈ Q, R x y) : (P ++ x :: Q).Pairwise R := by
  obtain ⟨a, b, c⟩ := List.pairwise_append.1 h
  refine List.pairwise_append.2 ⟨a, List.pairwise_cons.2 ⟨h2, b⟩, ?_⟩
  intro y hy z hz
  rcases List.mem_cons.1 hz with e | e
  · rw [e]; exact h1 y hy
  · exact c y hy z e
/-- Where there is one: the numbers below n in their order. -/
def insS (f : Nat → Nat) (x : Nat) : List Nat → List Nat
  | [] => [x]
  | y :: ys => if f y < f x ∨ (f x = f y ∧ x < y) then x :: y :: ys else y :: insS f x ys
def byL (f : Nat → Nat) : Nat → List Nat
  | 0 => []
  | n + 1 => insS f n (byL f n)
theorem insS_perm (f : Nat → Nat) (x : Nat) : ∀ (S : List Nat), (insS f x S).Perm (x :: S)
  | [] => List.Perm.refl _
  | y :: ys => by
    unfold insS
    split
    · exact List.Perm.refl _
    · exact ((insS_perm f x ys).cons y).trans (List.Perm.swap x y ys)
theorem insS_pair (f : Nat → Nat) (x : Nat) : ∀ (S : List Nat), S.Pairwise (bfS f) → x ∉ S → (insS f x S).Pairwise (bfS f)
  | [], _, _ => by simp [insS]
  | y :: ys, h, hx => by
    obtain ⟨h1, h2⟩ := List.pairwise_cons.1 h
    have hxy : x ≠ y := fun e => hx (e ▸ List.mem_cons_self ..)
    unfold insS
    split
    · next hb =>
      refine List.pairwise_cons.2 ⟨?_, h⟩
      intro z hz
      rcases List.mem_cons.1 hz with e | e
      · rw [e]; exact hb
      · exact bfS_trans f hb (h1 z e)
    · next hb =>
      refine List.pairwise_cons.2 ⟨?_, insS_pair f x ys h2 (fun hm => hx (List.mem_cons_of_mem _ hm))⟩
      intro z hz
      rcases List.mem_cons.1 ((insS_perm f x ys).mem_iff.1 hz) with e | e
      · rw [e]
        rcases bfS_total f hxy with h3 | h3
        · exact absurd h3 hb
        · exact h3
      · exact h1 z e
theorem byL_by (f : Nat → Nat) : ∀ (n : Nat), ByS f n (byL f n)
  | 0 => ⟨List.Perm.refl _, List.Pairwise.nil⟩
  | n + 1 => by
    obtain ⟨h1, h2⟩ := byL_by f n
    refine ⟨?_, insS_pair f n _ h2 (fun hm => by have := (h1.mem n).1 hm; omega)⟩
    show (insS f n (byL f n)).Perm (List.range (n + 1))
    rw [List.range_succ]
    exact ((insS_perm f n _).trans (h1.cons n)).trans (List.perm_append_comm (l₁ := [n]))
/-- The times of the symbols, and how many have come. -/
structure SB where
  a : Nat → Nat
  b : Nat → Nat
  t : Nat
def SB.sm (s : SB) (x : Nat) : Nat := s.a x + s.b x
def SB.up (s : SB) (x : Nat) : SB := ⟨fun y => if y = x then s.t + 1 else s.a y, fun y => if y = x then s.a x else s.b y, s.t + 1⟩
def sb0 : SB := ⟨fun _ => 0, fun _ => 0, 0⟩
def sbrF (n : Nat) (s : SB) (x : Nat) : Nat × SB := ((byL s.sm n).idxOf x, s.up x)
/-- No time is later than now. -/
def SB.ok (s : SB) : Prop := ∀ x, s.a x ≤ s.t ∧ s.b x ≤ s.t
theorem sb0_ok : sb0.ok := fun _ => ⟨Nat.le_refl _, Nat.le_refl _⟩
theorem SB.ok.up {s : SB} (h : s.ok) (x : Nat) : (s.up x).ok := fun y => by
  have := h y
  have := h x
  show (if y = x then s.t + 1 else s.a y) ≤ s.t + 1 ∧ (if y = x then s.a x else s.b y) ≤ s.t + 1
  split <;> omega
theorem sm_up (s : SB) (x y : Nat) : (s.up x).sm y = if y = x then s.t + 1 + s.a x else s.sm y := by
  show (if y = x then s.t + 1 else s.a y) + (if y = x then s.a x else s.b y) = _
  split <;> rfl
theorem by_zero (n : Nat) : ByS (fun _ => 0) n (List.range n) := ⟨PermN.start n, by
  refine List.pairwise_lt_range.imp ?_
  intro a b h
  exact .inr ⟨rfl, h⟩⟩
/-- An insertion that stands behind all that are ahead of x, ahead of all that are behind it, is the order by the new sums. -/
theorem by_move {s : SB} {n x : Nat} {P Q : List Nat} (h : ByS s.sm n (P ++ x :: Q)) (hok : s.ok) (p : Nat) (hp : p ≤ P.length) (h1 : ∀ y ∈ P.drop p, bfS (s.up x).sm x y) (h2 : ∀ y ∈ P.take p, bfS (s.up x).sm y x) :
    ByS (s.up x).sm n (P.take p ++ x :: (P.drop p ++ Q)) := by
  obtain ⟨hP, hS⟩ := h
  have hnd := hP.nodup
  have hd := (List.perm_middle (a := x) (l₁ := P) (l₂ := Q)).nodup_iff.1 hnd
  have hxn : x ∉ P ++ Q := (List.nodup_cons.1 hd).1
  obtain ⟨a, b, c⟩ := List.pairwise_append.1 hS
  obtain ⟨b1, b2⟩ := List.pairwise_cons.1 b
  have hgrow : s.sm x < (s.up x).sm x := by
    rw [sm_up, if_pos rfl]
    have := hok x
    show s.a x + s.b x < _
    omega
  have same : ∀ y ∈ P ++ Q, (s.up x).sm y = s.sm y := fun y hy => by
    rw [sm_up, if_neg]
    intro e
    rw [e] at hy
    exact hxn hy
  have hPQ : (P ++ Q).Pairwise (bfS (s.up x).sm) := by
    have : (P ++ Q).Pairwise (bfS s.sm) := List.pairwise_append.2 ⟨a, b2, fun y hy z hz => c y hy z (List.mem_cons_of_mem _ hz)⟩
    refine List.Pairwise.imp_of_mem ?_ this
    intro y z hy hz hb
    unfold bfS at hb ⊢
    rw [same y hy, same z hz]
    exact hb
  refine ⟨?_, ?_⟩
  · refine List.Perm.trans ?_ hP
    refine (List.perm_middle).trans (List.Perm.trans ?_ List.perm_middle.symm)
    rw [← List.append_assoc, List.take_append_drop]
  · refine ins_pair (by rw [← List.append_assoc, List.take_append_drop]; exact hPQ) h2 ?_
    intro y hy
    rcases List.mem_append.1 hy with hy | hy
    · exact h1 y hy
    · have := b1 y hy
      unfold bfS at this ⊢
      rw [same y (List.mem_append_right _ hy)]
      omega
def sbrZ (z : List Int) (n : Int) : List Int := if rOk z n = true then ints (runF (sbrF n.toNat) sb0 (z.map Int.toNat)) else []
theorem sbrZ_yes {L : List Nat} {m : Nat} (h : rOk (ints L) m = true) : sbrZ (ints L) m = ints (runF (sbrF m) sb0 L) := by unfold sbrZ; rw [if_pos h, ints_toNat]; rfl
theorem sbrZ_no {z : List Int} {n : Int} (h : rOk z n = false) : sbrZ z n = [] := by unfold sbrZ; rw [h]; rfl
theorem sbr_lt {n : Nat} {L : List Nat} (hL : ∀ x ∈ L, x < n) : ∀ y ∈ runF (sbrF n) sb0 L, y < n :=
  runF_all (fun _ => True) (· < n) (· < n) (fun s x _ hx => ⟨(byL_by s.sm n).1.idx hx, trivial⟩) L _ trivial hL
/-- A row with a hole at p, whose other places hold S. -/
def Sh (X S : List Nat) (p : Nat) : Prop := X.length = S.length + 1 ∧ X.take p = S.take p ∧ X.drop (p + 1) = S.drop p
theorem Sh.start (S : List Nat) (x : Nat) : Sh (S ++ [x]) S S.length := ⟨by simp, by simp, by simp⟩
theorem Sh.mid (P Q : List Nat) (x : Nat) : Sh (P ++ x :: Q) (P ++ Q) P.length := ⟨by simp; omega, by simp, by simp [List.drop_append]⟩
theorem getD_take (L : List Nat) (p q : Nat) (h : q < p) : (L.take p).getD q 0 = L.getD q 0 := by simp [List.getD_eq_getElem?_getD, List.getElem?_take, h]
theorem Sh.get {X S : List Nat} {q : Nat} (h : Sh X S (q + 1)) : X.getD q 0 = S.getD q 0 := by
  have := congrArg (fun (l : List Nat) => l.getD q 0) h.2.1
  rwa [getD_take _ _ _ (by omega), getD_take _ _ _ (by omega)] at this
theorem Sh.step {X S : List Nat} {q : Nat} (h : Sh X S (q + 1)) (hq : q < S.length) : Sh (X.set (q + 1) (S.getD q 0)) S q := by
  obtain ⟨h1, h2, h3⟩ := h
  refine ⟨by rw [List.length_set, h1], ?_, ?_⟩
  · have := congrArg (List.take q) h2
    rw [List.take_take, List.take_take, Nat.min_eq_left (by omega)] at this
    rw [List.take_set_of_le (by omega)]
    exact this
  · have e : (X.set (q + 1) (S.getD q 0)).drop (q + 1) = S.getD q 0 :: X.drop (q + 1 + 1) := by
      rw [List.drop_eq_getElem_cons (by rw [List.length_set]; omega)]
      congr 1
      · simp
      · rw [List.drop_set]; simp
    rw [e, h3, ← drop_cons S q hq]
theorem Sh.put {X S : List Nat} {p : Nat} (h : Sh X S p) (hp : p ≤ S.length) (x : Nat) : X.set p x = S.take p ++ x :: S.drop p := by
  obtain ⟨h1, h2, h3⟩ := h
  rw [List.set_eq_take_append_cons_drop, if_pos (by omega), h2, h3]
theorem not_take {f : Nat → Nat} {S : List Nat} {x q : Nat} (hS : S.Pairwise (bfS f)) (hq : q < S.length) (h : ¬ bfS f x (S.getD q 0)) : ∀ y ∈ S.take (q + 1), ¬ bfS f x y := by
  intro y hy hb
  obtain ⟨j, hj, rfl⟩ := List.getElem_of_mem hy
  rw [List.length_take] at hj
  rw [List.getElem_take] at hb
  have e : S.getD q 0 = S[q] := by simp [List.getD_eq_getElem?_getD, hq]
  rw [e] at h
  by_cases hjq : j = q
  · subst hjq; exact h hb
  · exact h (bfS_trans f hb (List.pairwise_iff_getElem.1 hS j q (by omega) hq (by omega)))
/-- One number more, put where the sums say. -/
theorem byL_put {f : Nat → Nat} {i p : Nat} (h1 : ∀ y ∈ (byL f i).drop p, bfS f i y) (h2 : ∀ y ∈ (byL f i).take p, bfS f y i) : (byL f i).take p ++ i :: (byL f i).drop p = byL f (i + 1) := by
  refine byS_unique (f := f) (n := i + 1) ⟨?_, ins_pair (by rw [List.take_append_drop]; exact (byL_by f i).2) h2 h1⟩ (byL_by f (i + 1))
  show List.Perm _ (List.range (i + 1))
  rw [List.range_succ]
  refine List.perm_middle.trans ?_
  rw [List.take_append_drop]
  exact ((byL_by f i).1.cons i).trans (List.perm_append_comm (l₁ := [i]))
theorem byL_len (f : Nat → Nat) (n : Nat) : (byL f n).length = n := (byL_by f n).1.len
end Go.Proofs.YtembljihmnmmfaaGreat
namespace Go.Proofs.YtembljihmnmmfaaGreat
set_option linter.unusedVariables false
set_option linter.unusedSimpArgs false

/-- The digits of a run of k, each less one (f: at least as many steps as there are digits). -/
def rsG : Nat → Nat → List Nat
  | 0, _ => []
  | f + 1, k => if k = 0 then [] else ((k - 1) % 2) :: rsG f ((k - 1) / 2)
def rsF (k : Nat) : List Nat := rsG k k
theorem rsG_more : ∀ (f g k : Nat), k ≤ f → k ≤ g → rsG f k = rsG g k
  | 0, 0, _, _, _ => rfl
  | 0, g + 1, k, h, _ => by
    have : k = 0 := by omega
    subst this; simp [rsG]
  | f + 1, 0, k, _, h => by
    have : k = 0 := by omega
    subst this; simp [rsG]
  | f + 1, g + 1, k, h1, h2 => by
    unfold rsG
    by_cases hk : k = 0
    · rw [if_pos hk, if_pos hk]
    · rw [if_neg hk, if_neg hk, rsG_more f g ((k - 1) / 2) (by omega) (by omega)]
theorem rsF_zero : rsF 0 = [] := rfl
theorem rsF_pos {k : Nat} (h : 0 < k) : rsF k = ((k - 1) % 2) :: rsF ((k - 1) / 2) := by
  obtain ⟨q, rfl⟩ : ∃ q, k = q + 1 := ⟨k - 1, by omega⟩
  show rsG (q + 1) (q + 1) = _
  unfold rsG
  rw [if_neg (by omega)]
  unfold rsF
  rw [rsG_more q ((q + 1 - 1) / 2) ((q + 1 - 1) / 2) (by omega) (Nat.le_refl _)]
theorem rsF_lt (k : Nat) : ∀ d ∈ rsF k, d < 2 := by
  induction k using Nat.strongRecOn with
  | ind k ih =>
    rcases Nat.eq_zero_or_pos k with rfl | h
    · simp [rsF_zero]
    · rw [rsF_pos h]
      intro d hd
      rcases List.mem_cons.1 hd with rfl | hd
      · omega
      · exact ih _ (by omega) d hd
theorem rsF_len (k : Nat) : (rsF k).length ≤ k := by
  induction k using Nat.strongRecOn with
  | ind k ih =>
    rcases Nat.eq_zero_or_pos k with rfl | h
    · simp [rsF_zero]
    · rw [rsF_pos h, List.length_cons]
      have := ih ((k - 1) / 2) (by omega)
      omega
theorem rsF_ne {k : Nat} (h : 0 < k) : rsF k ≠ [] := by rw [rsF_pos h]; simp

/-- What RunSyms answers. -/
def rsZ (k : Int) : List Int := if 1 ≤ k ∧ k ≤ 600 then ints (rsF k.toNat) else []
theorem rsZ_yes {k : Nat} (h1 : 1 ≤ k) (h2 : k ≤ 600) : rsZ k = ints (rsF k) := by unfold rsZ; rw [if_pos (by omega), Int.toNat_natCast]
theorem rsZ_no {k : Int} (h : ¬ (1 ≤ k ∧ k ≤ 600)) : rsZ k = [] := by unfold rsZ; rw [if_neg h]
/-- Zeros by their digits, the others one more; r zeros stand ahead. -/
def packF : Nat → List Nat → List Nat
  | r, [] => rsF r
  | r, 0 :: l => packF (r + 1) l
  | r, (x + 1) :: l => rsF r ++ (x + 2) :: packF 0 l
theorem packF_nil (r : Nat) : packF r [] = rsF r := by rw [packF]
theorem packF_zero (r : Nat) (l : List Nat) : packF r (0 :: l) = packF (r + 1) l := by rw [packF]
theorem packF_pos (r : Nat) {x : Nat} (h : 0 < x) (l : List Nat) : packF r (x :: l) = rsF r ++ (x + 1) :: packF 0 l := by
  obtain ⟨q, rfl⟩ : ∃ q, x = q + 1 := ⟨x - 1, by omega⟩
  rw [packF]
theorem packF_len : ∀ (l : List Nat) (r : Nat), (packF r l).length ≤ r + l.length
  | [], r => by rw [packF_nil]; have := rsF_len r; simpa using this
  | 0 :: l, r => by rw [packF_zero, List.length_cons]; have := packF_len l (r + 1); omega
  | (x + 1) :: l, r => by
    rw [packF_pos r (by omega), List.length_append, List.length_cons, List.length_cons]
    have := packF_len l 0
    have := rsF_len r
    omega
theorem packF_le (m : Nat) : ∀ (l : List Nat) (r : Nat), (∀ x ∈ l, x < m) → ∀ y ∈ packF r l, y ≤ m + 1
  | [], r, _, y, hy => by rw [packF_nil] at hy; have := rsF_lt r y hy; omega
  | 0 :: l, r, h, y, hy => by rw [packF_zero] at hy; exact packF_le m l (r + 1) (fun x hx => h x (List.mem_cons_of_mem _ hx)) y hy
  | (x + 1) :: l, r, h, y, hy => by
    rw [packF_pos r (by omega)] at hy
    rcases List.mem_append.1 hy with hy | hy
    · have := rsF_lt r y hy; omega
    · rcases List.mem_cons.1 hy with rfl | hy
      · have := h (x + 1) (List.mem_cons_self ..); omega
      · exact packF_le m l 0 (fun x hx => h x (List.mem_cons_of_mem _ hx)) y hy
/-- What PackRuns answers. -/
def packZ (z : List Int) (n : Int) : List Int := if rOk z n = true then ints (packF 0 (z.map Int.toNat) ++ [n.toNat + 1]) else []
theorem packZ_yes {L : List Nat} {m : Nat} (h : rOk (ints L) m = true) : packZ (ints L) m = ints (packF 0 L ++ [m + 1]) := by
  unfold packZ; rw [if_pos h, ints_toNat]; rfl
theorem packZ_no {z : List Int} {n : Int} (h : rOk z n = false) : packZ z n = [] := by unfold packZ; rw [h]; rfl

theorem packF_reps : ∀ (k r : Nat) (l : List Nat), packF r (List.replicate k 0 ++ l) = packF (r + k) l
  | 0, r, l => by simp
  | k + 1, r, l => by
    rw [List.replicate_succ, List.cons_append, packF_zero, packF_reps k (r + 1) l]
    congr 1; omega
end Go.Proofs.YtembljihmnmmfaaGreat
namespace Go.Proofs.YtembljihmnmmfaaGreat
set_option linter.unusedVariables false
set_option linter.unusedSimpArgs false

/-- The gaps of x: g greater ones have come since its last occurrence. -/
def gapsF (x : Nat) : Nat → List Nat → List Nat
  | _, [] => []
  | g, y :: ys => if x < y then gapsF x (g + 1) ys else if y = x then g :: gapsF x 0 ys else gapsF x g ys
def gapsL (L : List Nat) (x : Nat) : List Nat := gapsF x 0 L
/-- The gaps of all below k. -/
def gapsTo (L : List Nat) (k : Nat) : List Nat := (List.range k).flatMap (gapsL L)
theorem gapsTo_succ (L : List Nat) (k : Nat) : gapsTo L (k + 1) = gapsTo L k ++ gapsL L k := by simp [gapsTo, List.range_succ]
theorem gapsF_gt {x g y : Nat} (ys : List Nat) (h : x < y) : gapsF x g (y :: ys) = gapsF x (g + 1) ys := by rw [gapsF, if_pos h]
theorem gapsF_eq {x g : Nat} (ys : List Nat) : gapsF x g (x :: ys) = g :: gapsF x 0 ys := by rw [gapsF, if_neg (by omega), if_pos rfl]
theorem gapsF_lt {x g y : Nat} (ys : List Nat) (h : y < x) : gapsF x g (y :: ys) = gapsF x g ys := by rw [gapsF, if_neg (by omega), if_neg (by omega)]
theorem gapsF_len (x : Nat) : ∀ (L : List Nat) (g : Nat), (gapsF x g L).length = L.count x
  | [], _ => rfl
  | y :: ys, g => by
    by_cases h : x < y
    · rw [gapsF_gt _ h, gapsF_len x ys, List.count_cons_of_ne (by omega)]
    · by_cases e : y = x
      · subst e
        rw [gapsF_eq, List.length_cons, gapsF_len y ys, List.count_cons_self]
      · rw [gapsF_lt _ (by omega), gapsF_len x ys, List.count_cons_of_ne e]
theorem gapsF_le (x : Nat) : ∀ (L : List Nat) (g : Nat), ∀ y ∈ gapsF x g L, y ≤ g + L.length
  | [], _, y, h => by cases h
  | z :: zs, g, y, h => by
    by_cases hz : x < z
    · rw [gapsF_gt _ hz] at h
      have := gapsF_le x zs (g + 1) y h
      simp only [List.length_cons]; omega
    · by_cases e : z = x
      · subst e
        rw [gapsF_eq] at h
        rcases List.mem_cons.1 h with e | e
        · simp only [List.length_cons]; omega
        · have := gapsF_le z zs 0 y e
          simp only [List.length_cons]; omega
      · rw [gapsF_lt _ (by omega)] at h
        have := gapsF_le x zs g y h
        simp only [List.length_cons]; omega
theorem count_sum (m : Nat) : ∀ (L : List Nat), (∀ x ∈ L, x < m) → ((List.range m).map (fun x => L.count x)).sum = L.length
  | [], _ => by
    have : ((List.range m).map (fun x => List.count x ([] : List Nat))) = List.replicate m 0 := by
      apply List.ext_getElem <;> simp
    rw [this]; simp
  | y :: ys, h => by
    have ih := count_sum m ys (fun x hx => h x (List.mem_cons_of_mem _ hx))
    have hy := h y (List.mem_cons_self ..)
    have key : ∀ (n : Nat), ((List.range n).map (fun x => (y :: ys).count x)).sum = ((List.range n).map (fun x => ys.count x)).sum + if y < n then 1 else 0 := by
      intro n
      induction n with
      | zero => simp
      | succ n ihn =>
        rw [List.range_succ, List.map_append, List.map_append, List.sum_append, List.sum_append, ihn]
        simp only [List.map_cons, List.map_nil, List.sum_cons, List.sum_nil, Nat.add_zero]
        by_cases e : y = n
        · subst e
          rw [List.count_cons_self, if_neg (by omega), if_pos (by omega)]; omega
        · rw [List.count_cons_of_ne e]
          by_cases h2 : y < n
          · rw [if_pos h2, if_pos (by omega)]; omega
          · rw [if_neg h2, if_neg (by omega)]; omega
    rw [key m, ih, if_pos hy, List.length_cons]
theorem gapsTo_len (L : List Nat) (k : Nat) : (gapsTo L k).length = ((List.range k).map (fun x => L.count x)).sum := by
  unfold gapsTo
  rw [List.length_flatMap]
  congr 1
  apply List.map_congr_left
  intro x _
  exact gapsF_len x L 0
theorem sum_le_of_le (f : Nat → Nat) (k n : Nat) (h : k ≤ n) : ((List.range k).map f).sum ≤ ((List.range n).map f).sum := by
  induction n with
  | zero =>
    have h0 : k = 0 := by omega
    subst h0
    exact Nat.le_refl _
  | succ n ih =>
    rw [List.range_succ, List.map_append, List.sum_append]
    by_cases e : k = n + 1
    · subst e; rw [List.range_succ, List.map_append, List.sum_append]; exact Nat.le_refl _
    · have := ih (by omega); omega
theorem gapsTo_le {L : List Nat} {m : Nat} (h : ∀ x ∈ L, x < m) {k : Nat} (hk : k ≤ m) : (gapsTo L k).length ≤ L.length := by
  rw [gapsTo_len, ← count_sum m L h]
  exact sum_le_of_le _ k m hk
theorem gapsTo_mem {L : List Nat} {k y : Nat} (h : y ∈ gapsTo L k) : y ≤ L.length := by
  unfold gapsTo at h
  obtain ⟨x, _, hx⟩ := List.mem_flatMap.1 h
  have := gapsF_le x L 0 y hx
  omega
theorem count_take8 (L : List Nat) (i x : Nat) (h : i < L.length) : (L.take (i + 1)).count x = (L.take i).count x + if L.getD i 0 = x then 1 else 0 := by
  rw [List.take_succ_eq_append_getElem h, List.count_append]
  have e : L.getD i 0 = L[i] := by simp [List.getD_eq_getElem?_getD, h]
  rw [e]
  by_cases h2 : L[i] = x
  · rw [if_pos h2, h2]; simp
  · rw [if_neg h2, List.count_singleton, if_neg (by simpa using h2)]
/-- What Inv answers. -/
def invC (z : List Int) (n : Int) : List Int := if rOk z n = true then ints ((List.range n.toNat).map fun x => (z.map Int.toNat).count x) else []
def invG (z : List Int) (n : Int) : List Int := if rOk z n = true then ints (gapsTo (z.map Int.toNat) (n.toNat - 1)) else []
theorem invC_yes {L : List Nat} {m : Nat} (h : rOk (ints L) m = true) : invC (ints L) m = ints ((List.range m).map fun x => L.count x) := by unfold invC; rw [if_pos h, ints_toNat]; rfl
theorem invG_yes {L : List Nat} {m : Nat} (h : rOk (ints L) m = true) : invG (ints L) m = ints (gapsTo L (m - 1)) := by unfold invG; rw [if_pos h, ints_toNat]; rfl
theorem invC_no {z : List Int} {n : Int} (h : rOk z n = false) : invC z n = [] := by unfold invC; rw [h]; rfl
theorem invG_no {z : List Int} {n : Int} (h : rOk z n = false) : invG z n = [] := by unfold invG; rw [h]; rfl
end Go.Proofs.YtembljihmnmmfaaGreat
namespace Go.Proofs.YtembljihmnmmfaaGreat
set_option linter.unusedVariables false
set_option linter.unusedSimpArgs false
open Go.RowKit

set_option maxHeartbeats 1000000 in
set_option maxRecDepth 100000 in
theorem specWayOk_any (m t : Int) (b : Bool) (w : World) :
    Calls Tryz.prog 18 #[.agg #[.int .i64 m, .bool b, .int .i64 t]] w fun e w' => e = .returned (.bool (wayOk m b t)) ∧ Below w.heap.size w w' := by
  obtain ⟨r, hr⟩ : ∃ r, wayOk m b t = r := ⟨_, rfl⟩
  have HR := hidden hr
  rw [hr]
  clear hr
  by_cases e0 : m = 0
  · subst e0
    cases b
    · by_cases et : t = 0
      · subst et
        obtain rfl : true = r := HR.out
        clear HR
        go_enter Tryz.func18, Tryz.ntmps18
        go_wp2
        go_ret
        exact ⟨rfl, (Below.refl _ _).alloc (Nat.le_refl _) _⟩
      · obtain rfl : false = r := by rw [← HR.out]; unfold wayOk; simp [et]
        have hb : (t == 0) = false := beq_eq_false_iff_ne.2 et
        clear HR
        go_enter Tryz.func18, Tryz.ntmps18
        go_wp2
        go_ret
        exact ⟨rfl, (Below.refl _ _).alloc (Nat.le_refl _) _⟩
    · obtain rfl : false = r := by rw [← HR.out]; unfold wayOk; simp
      clear HR
      go_enter Tryz.func18, Tryz.ntmps18
      go_wp2
      go_ret
      exact ⟨rfl, (Below.refl _ _).alloc (Nat.le_refl _) _⟩
  have hb0 : (m == 0) = false := beq_eq_false_iff_ne.2 e0
  by_cases e12 : m = 1 ∨ m = 2
  · have h12 : ∃ k : Int, m = k ∧ (k = 1 ∨ k = 2) := ⟨m, rfl, e12⟩
    by_cases h1 : 1 ≤ t
    · by_cases h4 : t ≤ 4
      · obtain rfl : true = r := by rw [← HR.out]; unfold wayOk; rcases e12 with rfl | rfl <;> simp [h1, h4]
        clear HR h12
        rcases e12 with rfl | rfl
        all_goals
          go_enter Tryz.func18, Tryz.ntmps18
          go_wp2
          go_ret
          exact ⟨rfl, (Below.refl _ _).alloc (Nat.le_refl _) _⟩
      · obtain rfl : false = r := by rw [← HR.out]; unfold wayOk; rcases e12 with rfl | rfl <;> simp [h4]
        clear HR h12
        rcases e12 with rfl | rfl
        all_goals
          go_enter Tryz.func18, Tryz.ntmps18
          go_wp2
          go_ret
          exact ⟨rfl, (Below.refl _ _).alloc (Nat.le_refl _) _⟩
    · obtain rfl : false = r := by rw [← HR.out]; unfold wayOk; rcases e12 with rfl | rfl <;> simp [h1]
      clear HR h12
      rcases e12 with rfl | rfl
      all_goals
        go_enter Tryz.func18, Tryz.ntmps18
        go_wp2
        go_ret
        exact ⟨rfl, (Below.refl _ _).alloc (Nat.le_refl _) _⟩
  have e1 : ¬ m = 1 := fun h => e12 (.inl h)
  have e2 : ¬ m = 2 := fun h => e12 (.inr h)
  have hb1 : (m == 1) = false := beq_eq_false_iff_ne.2 e1
  have hb2 : (m == 2) = false := beq_eq_false_iff_ne.2 e2
  clear e12
  by_cases e3 : m = 3
  · subst e3
    by_cases et : t = 0
    · subst et
      obtain rfl : true = r := by rw [← HR.out]; unfold wayOk; simp
      clear HR e0 e1 e2 hb0 hb1 hb2
      go_enter Tryz.func18, Tryz.ntmps18
      go_wp2
      go_ret
      exact ⟨rfl, (Below.refl _ _).alloc (Nat.le_refl _) _⟩
    · obtain rfl : false = r := by rw [← HR.out]; unfold wayOk; simp [et]
      have hb : (t == 0) = false := beq_eq_false_iff_ne.2 et
      clear HR e0 e1 e2 hb0 hb1 hb2
      go_enter Tryz.func18, Tryz.ntmps18
      go_wp2
      go_ret
      exact ⟨rfl, (Below.refl _ _).alloc (Nat.le_refl _) _⟩
  have hb3 : (m == 3) = false := beq_eq_false_iff_ne.2 e3
  obtain rfl : false = r := by rw [← HR.out]; unfold wayOk; simp [e0, e1, e2, e3]
  clear HR
  go_enter Tryz.func18, Tryz.ntmps18
  go_wp2
  go_ret
  exact ⟨rfl, (Below.refl _ _).alloc (Nat.le_refl _) _⟩
end Go.Proofs.YtembljihmnmmfaaGreat
namespace Go.Proofs.YtembljihmnmmfaaGreat
set_option linter.unusedVariables false
set_option linter.unusedSimpArgs false
open Go.RowKit

theorem own_belH8 {w w' : World} {base : Nat} {e : TypeId} {size : Nat} {v : Value} {n : Nat} {xs : List Value} (h : w.ownsRow base e size v n xs) (hb : ∀ i, i < w.heap.size → w'.heap[i]? = w.heap[i]?) : w'.ownsRow base e size v n xs := by
  refine ⟨h.1, ?_⟩
  rcases h.2 with h2 | ⟨g, cap, cur, hv, hg, hc, hr⟩
  · exact .inl h2
  · exact .inr ⟨g, cap, cur, hv, hg, (hb g ((Array.getElem?_eq_some_iff.1 hc).1)).trans hc, hr⟩
theorem own_other7 {w : World} {base n S : Nat} {E : TypeId} {v : Value} {xs : List Value} (h : w.ownsRow base E S v n xs) {p : Addr} (hp : v.ownBlock ≠ some p.block) (u : Value) : (w.setCell p u).ownsRow base E S v n xs := ownsRow_setCell_other h hp u
end Go.Proofs.YtembljihmnmmfaaGreat
namespace Go.Proofs.YtembljihmnmmfaaGreat
set_option linter.unusedVariables false
set_option linter.unusedSimpArgs false

/-! ### sums over the first n numbers -/
def rsum : Nat → (Nat → Nat) → Nat
  | 0, _ => 0
  | n + 1, f => rsum n f + f n
def Sorted (l : List Nat) : Prop := l.Pairwise (· ≤ ·)
abbrev Item := Nat × Int
def wts (r : List Item) : List Nat := r.map Prod.fst
def isLeaf (x : Item) : Bool := decide (0 ≤ x.2)
/-- The packages of a row: its items in pairs. -/
def packs : List Item → List Nat
  | a :: b :: r => (a.1 + b.1) :: packs r
  | _ => []
/-- Leaves and packages, a leaf ahead of a package of its weight. -/
def mergeM : List Item → List Nat → List Item
  | L, [] => L
  | [], p :: P => (p, -1) :: mergeM [] P
  | x :: L, p :: P => if x.1 ≤ p then x :: mergeM L (p :: P) else (p, -1) :: mergeM (x :: L) P
termination_by L P => L.length + P.length
def rowM (L : List Item) : Nat → List Item
  | 0 => L
  | k + 1 => mergeM L (packs (rowM L k))

/-- How many of the first m items are leaves. -/
def cntL (r : List Item) (m : Nat) : Nat := (r.take m).countP isLeaf
/-- How many of the rows k .. 0 take the leaf at place j, where m items of row k are taken. -/
def lenJ (L : List Item) : Nat → Nat → Nat → Nat
  | 0, m, j => if j < cntL (rowM L 0) m then 1 else 0
  | k + 1, m, j => (if j < cntL (rowM L (k + 1)) m then 1 else 0) + lenJ L k (2 * (m - cntL (rowM L (k + 1)) m)) j
/-- A leaf further ahead is taken by no fewer rows. -/
theorem lenJ_mono (L : List Item) (k m i j : Nat) (h : i ≤ j) : lenJ L k m j ≤ lenJ L k m i := by
  induction k generalizing m with
  | zero => unfold lenJ; split <;> split <;> omega
  | succ k ih => unfold lenJ; have := ih (2 * (m - cntL (rowM L (k + 1)) m)); split <;> split <;> omega
end Go.Proofs.YtembljihmnmmfaaGreat
namespace Go.Proofs.YtembljihmnmmfaaGreat
set_option linter.unusedVariables false
set_option linter.unusedSimpArgs false
open Go.RowKit

/-- By weight, and for equal weights by symbol. -/
def lex (a b : Item) : Prop := a.1 < b.1 ∨ (a.1 = b.1 ∧ a.2 < b.2)
def LexS (L : List Item) : Prop := L.Pairwise lex
theorem LexS.sorted {L : List Item} (h : LexS L) : Sorted (wts L) := by
  unfold Sorted wts
  rw [List.pairwise_map]
  exact h.imp fun {a b} hab => by rcases hab with h | h <;> omega
/-- A weight: 1 at least. -/
def wgt (x : Int) : Nat := if x = 0 then 1 else x.toNat
def items (zs : List Int) (k : Nat) : List Item := (List.range k).map fun i => (wgt (zs.getD i 0), (i : Int))
end Go.Proofs.YtembljihmnmmfaaGreat
namespace Go.Proofs.YtembljihmnmmfaaGreat
set_option linter.unusedVariables false
set_option linter.unusedSimpArgs false

theorem dropZ_cons (z : List Int) (k : Nat) (h : k < z.length) : z.drop k = z.getD k 0 :: z.drop (k + 1) := by
  rw [List.drop_eq_getElem_cons h]
  congr 1
  simp [List.getD_eq_getElem?_getD, h]
theorem seg_len {z : List Int} {i f : Nat} (h : i ≤ z.length) : ((z.take i).drop f).length = i - f := by
  rw [List.length_drop, List.length_take]; omega
theorem seg_get {z : List Int} {i f j : Nat} (h : i ≤ z.length) (hj : f + j < i) : ((z.take i).drop f).getD j 0 = z.getD (f + j) 0 := by
  have h2 : f + j < z.length := by omega
  simp [List.getD_eq_getElem?_getD, hj, h2]
end Go.Proofs.YtembljihmnmmfaaGreat
namespace Go.Proofs.YtembljihmnmmfaaGreat
set_option linter.unusedVariables false
set_option linter.unusedSimpArgs false

def idF : Nat → Nat := fun k => k
/-- f2 holds what f holds, between a and b in other places. -/
def Trn (a b : Nat) (f f2 : Nat → Nat) : Prop := ∃ s : Nat → Nat, (∀ k, f2 k = f (s k)) ∧ (∀ k, k < a ∨ b ≤ k → s k = k) ∧ (∀ k, a ≤ k → k < b → a ≤ s k ∧ s k < b) ∧ (∀ i j, s i = s j → i = j)
theorem Trn.refl (a b : Nat) (f : Nat → Nat) : Trn a b f f := ⟨fun k => k, fun _ => rfl, fun _ _ => rfl, fun _ h1 h2 => ⟨h1, h2⟩, fun _ _ h => h⟩
theorem Trn.trans {a b : Nat} {f g h : Nat → Nat} (h1 : Trn a b f g) (h2 : Trn a b g h) : Trn a b f h := by
  obtain ⟨s, a1, a2, a3, a4⟩ := h1
  obtain ⟨t, b1, b2, b3, b4⟩ := h2
  refine ⟨fun k => s (t k), fun k => by rw [b1, a1], fun k hk => ?_, fun k hk hk2 => ?_, fun i j e => b4 _ _ (a4 _ _ e)⟩
  · show s (t k) = k
    rw [b2 k hk, a2 k hk]
  · have := b3 k hk hk2
    exact a3 _ this.1 this.2
theorem Trn.mono {a b a2 b2 : Nat} {f g : Nat → Nat} (h : Trn a b f g) (h1 : a2 ≤ a) (h2 : b ≤ b2) : Trn a2 b2 f g := by
  obtain ⟨s, c1, c2, c3, c4⟩ := h
  refine ⟨s, c1, fun k hk => c2 k (by omega), fun k hk hk2 => ?_, c4⟩
  by_cases hh : k < a ∨ b ≤ k
  · rw [c2 k hh]; omega
  · have := c3 k (by omega) (by omega)
    omega
theorem Trn.out {a b : Nat} {f g : Nat → Nat} (h : Trn a b f g) {k : Nat} (hk : k < a ∨ b ≤ k) : g k = f k := by
  obtain ⟨s, c1, c2, _⟩ := h
  rw [c1, c2 k hk]
theorem Trn.mem {a b : Nat} {f g : Nat → Nat} (h : Trn a b f g) {k : Nat} (h1 : a ≤ k) (h2 : k < b) : ∃ i, a ≤ i ∧ i < b ∧ g k = f i := by
  obtain ⟨s, c1, _, c3, _⟩ := h
  exact ⟨s k, (c3 k h1 h2).1, (c3 k h1 h2).2, c1 k⟩
/-- Two places change what they hold. -/
def swF (f : Nat → Nat) (i j : Nat) : Nat → Nat := fun k => if k = i then f j else if k = j then f i else f k
theorem Trn.sw {a b i j : Nat} (f : Nat → Nat) (h1 : a ≤ i) (h2 : i < b) (h3 : a ≤ j) (h4 : j < b) : Trn a b f (swF f i j) := by
  refine ⟨fun k => if k = i then j else if k = j then i else k, fun k => ?_, fun k hk => ?_, fun k hk hk2 => ?_, fun x y e => ?_⟩
  · show swF f i j k = f (if k = i then j else if k = j then i else k)
    unfold swF
    split
    · rfl
    · split <;> rfl
  · show (if k = i then j else if k = j then i else k) = k
    rw [if_neg (by omega), if_neg (by omega)]
  · show a ≤ (if k = i then j else if k = j then i else k) ∧ (if k = i then j else if k = j then i else k) < b
    split
    · exact ⟨h3, h4⟩
    · split
      · exact ⟨h1, h2⟩
      · exact ⟨hk, hk2⟩
  · revert e
    show (if x = i then j else if x = j then i else x) = (if y = i then j else if y = j then i else y) → x = y
    repeat' split
    all_goals omega

/-- The row rises between a and b. -/
def So (R : Nat → Nat → Prop) (f : Nat → Nat) (a b : Nat) : Prop := ∀ i j, a ≤ i → i < j → j < b → R (f i) (f j)
/-- What lies between a and m has smaller numbers than what lies between m and b. -/
def Cr (f : Nat → Nat) (a m b : Nat) : Prop := ∀ i j, a ≤ i → i < m → m ≤ j → j < b → f i < f j
theorem So.sub {R : Nat → Nat → Prop} {f : Nat → Nat} {a b a2 b2 : Nat} (h : So R f a b) (h1 : a ≤ a2) (h2 : b2 ≤ b) : So R f a2 b2 := fun i j c1 c2 c3 => h i j (by omega) c2 (by omega)
theorem So.of {R : Nat → Nat → Prop} {f g : Nat → Nat} {a b : Nat} (h : So R f a b) (he : ∀ k, a ≤ k → k < b → g k = f k) : So R g a b := fun i j c1 c2 c3 => by
  rw [he i c1 (by omega), he j (by omega) c3]; exact h i j c1 c2 c3
theorem So.moved {R : Nat → Nat → Prop} {f g : Nat → Nat} {a b a2 : Nat} (h : So R f a b) (n : Nat) (hn : a2 + (b - a) = n) (he : ∀ k, a2 ≤ k → k < n → g k = f (a + (k - a2))) : So R g a2 n := fun i j c1 c2 c3 => by
  rw [he i c1 (by omega), he j (by omega) c3]; exact h _ _ (by omega) (by omega) (by omega)
theorem So.short {R : Nat → Nat → Prop} (f : Nat → Nat) {a b : Nat} (h : b ≤ a + 1) : So R f a b := fun i j c1 c2 c3 => by omega

/-- n places from a on and n from b on change what they hold. -/
def srF (f : Nat → Nat) (a b n : Nat) : Nat → Nat := fun k => if a ≤ k ∧ k < a + n then f (b + (k - a)) else if b ≤ k ∧ k < b + n then f (a + (k - b)) else f k
theorem srF_zero (f : Nat → Nat) (a b : Nat) : srF f a b 0 = f := by
  funext k
  unfold srF
  rw [if_neg (by omega), if_neg (by omega)]
theorem srF_succ (f : Nat → Nat) (a b n : Nat) (h : a + n < b) : swF (srF f a b n) (a + n) (b + n) = srF f a b (n + 1) := by
  funext k
  unfold swF srF
  repeat' split
  all_goals first | omega | rfl | (congr 1; omega)
/-- The places a .. m and m .. b change sides. -/
def roF (f : Nat → Nat) (a m b : Nat) : Nat → Nat := fun k => if a ≤ k ∧ k < a + (b - m) then f (m + (k - a)) else if a + (b - m) ≤ k ∧ k < b then f (a + (k - (a + (b - m)))) else f k
theorem roF_left (f : Nat → Nat) (m i j : Nat) (hj : 0 < j) (h : j < i) (hi : i ≤ m) : roF (srF f (m - i) m j) (m - (i - j)) m (m + j) = roF f (m - i) m (m + j) := by
  funext k
  unfold roF srF
  repeat' split
  all_goals first | omega | rfl | (congr 1; omega)
theorem roF_right (f : Nat → Nat) (m i j : Nat) (h0 : 0 < i) (h : i < j) (hi : i ≤ m) : roF (srF f (m - i) (m + j - i) i) (m - i) m (m + (j - i)) = roF f (m - i) m (m + j) := by
  funext k
  unfold roF srF
  repeat' split
  all_goals first | omega | rfl | (congr 1; omega)
theorem roF_same (f : Nat → Nat) (m i : Nat) (hi : i ≤ m) : srF f (m - i) m i = roF f (m - i) m (m + i) := by
  funext k
  unfold roF srF
  repeat' split
  all_goals first | omega | rfl | (congr 1; omega)
theorem roF_id (f : Nat → Nat) (a m b : Nat) (h : a = m ∨ m = b) (h1 : a ≤ m) (h2 : m ≤ b) : roF f a m b = f := by
  funext k
  unfold roF
  repeat' split
  all_goals first | omega | rfl | (congr 1; omega)
theorem roF_trn (f : Nat → Nat) {a m b : Nat} (h1 : a ≤ m) (h2 : m ≤ b) : Trn a b f (roF f a m b) := by
  refine ⟨fun k => if a ≤ k ∧ k < a + (b - m) then m + (k - a) else if a + (b - m) ≤ k ∧ k < b then a + (k - (a + (b - m))) else k, fun k => ?_, fun k hk => ?_, fun k hk hk2 => ?_, fun x y e => ?_⟩
  · show roF f a m b k = f (if a ≤ k ∧ k < a + (b - m) then m + (k - a) else if a + (b - m) ≤ k ∧ k < b then a + (k - (a + (b - m))) else k)
    unfold roF
    repeat' split
    all_goals first | omega | rfl
  · show (if a ≤ k ∧ k < a + (b - m) then m + (k - a) else if a + (b - m) ≤ k ∧ k < b then a + (k - (a + (b - m))) else k) = k
    rw [if_neg (by omega), if_neg (by omega)]
  · show a ≤ (if a ≤ k ∧ k < a + (b - m) then m + (k - a) else if a + (b - m) ≤ k ∧ k < b then a + (k - (a + (b - m))) else k) ∧ (if a ≤ k ∧ k < a + (b - m) then m + (k - a) else if a + (b - m) ≤ k ∧ k < b then a + (k - (a + (b - m))) else k) < b
    repeat' split
    all_goals omega
  · revert e
    show (if a ≤ x ∧ x < a + (b - m) then m + (x - a) else if a + (b - m) ≤ x ∧ x < b then a + (x - (a + (b - m))) else x) = (if a ≤ y ∧ y < a + (b - m) then m + (y - a) else if a + (b - m) ≤ y ∧ y < b then a + (y - (a + (b - m))) else y) → x = y
    repeat' split
    all_goals omega

/-- What a comparison has to say of two numbers below n. -/
structure Cmp (cf : Nat → Nat → Int) (R : Nat → Nat → Prop) (n : Nat) : Prop where
  lt : ∀ x y, x < y → y < n → cf y x < 0 → R y x
  ge : ∀ x y, x < y → y < n → ¬ cf y x < 0 → R x y
  tr : ∀ x y z, x < n → y < n → z < n → R x y → R y z → R x z
/-- What is left to do of the merge of a .. m and m .. b. -/
structure Mg (cf : Nat → Nat → Int) (R : Nat → Nat → Prop) (n : Nat) (f : Nat → Nat) (a m b : Nat) : Prop where
  lt : ∀ k, a ≤ k → k < b → f k < n
  le : So R f a m
  ri : So R f m b
  cr : Cr f a m b
theorem Mg.before {cf : Nat → Nat → Int} {R : Nat → Nat → Prop} {n : Nat} {f : Nat → Nat} {a m b : Nat} (C : Cmp cf R n) (h : Mg cf R n f a m b) {i j : Nat} (h1 : a ≤ i) (h2 : i < m) (h3 : m ≤ j) (h4 : j < b) (hc : ¬ cf (f j) (f i) < 0) : R (f i) (f j) :=
  C.ge _ _ (h.cr i j h1 h2 h3 h4) (h.lt j (by omega) h4) hc
theorem Mg.after {cf : Nat → Nat → Int} {R : Nat → Nat → Prop} {n : Nat} {f : Nat → Nat} {a m b : Nat} (C : Cmp cf R n) (h : Mg cf R n f a m b) {i j : Nat} (h1 : a ≤ i) (h2 : i < m) (h3 : m ≤ j) (h4 : j < b) (hc : cf (f j) (f i) < 0) : R (f j) (f i) :=
  C.lt _ _ (h.cr i j h1 h2 h3 h4) (h.lt j (by omega) h4) hc

/-- The first number of the left part goes behind those of the right part that come ahead of it. -/
def upF (f : Nat → Nat) (a i : Nat) : Nat → Nat := fun k => if a ≤ k ∧ k < i then f (k + 1) else if k = i then f a else f k
theorem upF_zero (f : Nat → Nat) (a : Nat) : upF f a a = f := by
  funext k
  unfold upF
  repeat' split
  all_goals first | omega | rfl | (congr 1; omega)
theorem upF_succ (f : Nat → Nat) (a k : Nat) (h : a ≤ k) : swF (upF f a k) k (k + 1) = upF f a (k + 1) := by
  funext t
  unfold swF upF
  repeat' split
  all_goals first | omega | rfl | (congr 1; omega)
theorem upF_trn (f : Nat → Nat) {a b : Nat} : ∀ i, a ≤ i → i < b → Trn a b f (upF f a i) := by
  intro i hi hb
  obtain ⟨d, rfl⟩ : ∃ d, i = a + d := ⟨i - a, by omega⟩
  clear hi
  induction d with
  | zero => rw [Nat.add_zero, upF_zero]; exact Trn.refl _ _ _
  | succ d ih =>
    rw [show a + (d + 1) = a + d + 1 from rfl, ← upF_succ f a (a + d) (by omega)]
    exact (ih (by omega)).trans (Trn.sw _ (by omega) (by omega) (by omega) hb)
theorem one_left {cf : Nat → Nat → Int} {R : Nat → Nat → Prop} {n : Nat} {f : Nat → Nat} {a b i : Nat} (C : Cmp cf R n) (h : Mg cf R n f a (a + 1) b) (hi : a + 1 ≤ i) (hib : i ≤ b)
    (h1 : i = a + 1 ∨ cf (f (i - 1)) (f a) < 0) (h2 : i = b ∨ ¬ cf (f i) (f a) < 0) : So R (upF f a (i - 1)) a b ∧ Trn a b f (upF f a (i - 1)) := by
  refine ⟨?_, upF_trn f _ (by omega) (by omega)⟩
  have k1 : ∀ t, a + 1 ≤ t → t < i → R (f t) (f a) := fun t c1 c2 => by
    rcases h1 with h1 | h1
    · omega
    · have e := h.after C (Nat.le_refl a) (by omega) (by omega : a + 1 ≤ i - 1) (by omega) h1
      rcases Nat.lt_or_ge t (i - 1) with c | c
      · exact C.tr _ _ _ (h.lt t (by omega) (by omega)) (h.lt _ (by omega) (by omega)) (h.lt _ (by omega) (by omega)) (h.ri t (i - 1) c1 c (by omega)) e
      · rw [show t = i - 1 by omega]; exact e
  have k2 : ∀ t, i ≤ t → t < b → R (f a) (f t) := fun t c1 c2 => by
    rcases h2 with h2 | h2
    · omega
    · have e := h.before C (Nat.le_refl a) (by omega) (by omega : a + 1 ≤ i) (by omega) h2
      rcases Nat.lt_or_ge i t with c | c
      · exact C.tr _ _ _ (h.lt _ (by omega) (by omega)) (h.lt _ (by omega) (by omega)) (h.lt _ (by omega) (by omega)) e (h.ri i t hi c c2)
      · rw [show t = i by omega]; exact e
  intro x y c1 c2 c3
  unfold upF
  repeat' split
  all_goals first
    | omega
    | exact h.ri _ _ (by omega) (by omega) (by omega)
    | exact k1 _ (by omega) (by omega)
    | exact k2 _ (by omega) (by omega)
/-- The first number of the right part goes ahead of those of the left part that come behind it. -/
def dnF (f : Nat → Nat) (i m : Nat) : Nat → Nat := fun k => if k = i then f m else if i < k ∧ k ≤ m then f (k - 1) else f k
theorem dnF_zero (f : Nat → Nat) (m : Nat) : dnF f m m = f := by
  funext k
  unfold dnF
  repeat' split
  all_goals first | omega | rfl | (congr 1; omega)
theorem dnF_succ (f : Nat → Nat) (k m : Nat) (h : k + 1 ≤ m) : swF (dnF f (k + 1) m) (k + 1) k = dnF f k m := by
  funext t
  unfold swF dnF
  repeat' split
  all_goals first | omega | rfl | (congr 1; omega)
theorem dnF_trn (f : Nat → Nat) {a b m : Nat} (hm : m < b) : ∀ i, a ≤ i → i ≤ m → Trn a b f (dnF f i m) := by
  intro i hi hb
  obtain ⟨d, rfl⟩ : ∃ d, m = i + d := ⟨m - i, by omega⟩
  clear hb
  induction d generalizing i with
  | zero => rw [Nat.add_zero, dnF_zero]; exact Trn.refl _ _ _
  | succ d ih =>
    rw [← dnF_succ f i (i + (d + 1)) (by omega)]
    rw [show i + (d + 1) = i + 1 + d by omega]
    exact (ih (i + 1) (by omega) (by omega)).trans (Trn.sw _ (by omega) (by omega) (by omega) (by omega))
theorem one_right {cf : Nat → Nat → Int} {R : Nat → Nat → Prop} {n : Nat} {f : Nat → Nat} {a m i : Nat} (C : Cmp cf R n) (h : Mg cf R n f a m (m + 1)) (hi : a ≤ i) (him : i ≤ m)
    (h1 : i = a ∨ ¬ cf (f m) (f (i - 1)) < 0) (h2 : i = m ∨ cf (f m) (f i) < 0) : So R (dnF f i m) a (m + 1) ∧ Trn a (m + 1) f (dnF f i m) := by
  refine ⟨?_, dnF_trn f (by omega) _ (by omega) (by omega)⟩
  have k1 : ∀ t, a ≤ t → t < i → R (f t) (f m) := fun t c1 c2 => by
    rcases h1 with h1 | h1
    · omega
    · have e := h.before C (by omega : a ≤ i - 1) (by omega) (Nat.le_refl m) (by omega) h1
      rcases Nat.lt_or_ge t (i - 1) with c | c
      · exact C.tr _ _ _ (h.lt t (by omega) (by omega)) (h.lt _ (by omega) (by omega)) (h.lt _ (by omega) (by omega)) (h.le t (i - 1) c1 c (by omega)) e
      · rw [show t = i - 1 by omega]; exact e
  have k2 : ∀ t, i ≤ t → t < m → R (f m) (f t) := fun t c1 c2 => by
    rcases h2 with h2 | h2
    · omega
    · have e := h.after C hi (by omega) (Nat.le_refl m) (by omega) h2
      rcases Nat.lt_or_ge i t with c | c
      · exact C.tr _ _ _ (h.lt _ (by omega) (by omega)) (h.lt _ (by omega) (by omega)) (h.lt _ (by omega) (by omega)) e (h.le i t hi c c2)
      · rw [show t = i by omega]; exact e
  intro x y c1 c2 c3
  unfold dnF
  repeat' split
  all_goals first
    | omega
    | exact h.le _ _ (by omega) (by omega) (by omega)
    | exact k1 _ (by omega) (by omega)
    | exact k2 _ (by omega) (by omega)

/-- Where the search for the middle ends. -/
structure Piv (cf : Nat → Nat → Int) (f : Nat → Nat) (a m b mid s s0 r0 : Nat) : Prop where
  h0 : (s0 = a ∧ r0 = m ∧ m ≤ mid) ∨ (s0 + b = mid + m ∧ r0 = mid ∧ mid < m)
  lo : s0 ≤ s
  hi : s ≤ r0
  p1 : s = s0 ∨ ¬ cf (f (mid + m - s)) (f (s - 1)) < 0
  p2 : s = r0 ∨ cf (f (mid + m - 1 - s)) (f s) < 0
/-- Behind the change of sides: two merges, each number of the first ahead of each of the second. -/
theorem piv_parts {cf : Nat → Nat → Int} {R : Nat → Nat → Prop} {n : Nat} {f : Nat → Nat} {a m b mid s s0 r0 : Nat} (C : Cmp cf R n) (h : Mg cf R n f a m b) (h1 : a < m) (h2 : m < b) (hmid : mid = (a + b) / 2) (P : Piv cf f a m b mid s s0 r0) :
    a ≤ s ∧ s ≤ m ∧ m ≤ mid + m - s ∧ mid + m - s ≤ b ∧ s ≤ mid ∧ mid ≤ mid + m - s ∧
    Mg cf R n (roF f s m (mid + m - s)) a s mid ∧ Mg cf R n (roF f s m (mid + m - s)) mid (mid + m - s) b ∧
    (∀ i j, a ≤ i → i < mid → mid ≤ j → j < b → R (roF f s m (mid + m - s) i) (roF f s m (mid + m - s) j)) := by
  obtain ⟨h0, lo, hi, p1, p2⟩ := P
  have b1 : a ≤ s := by omega
  have b2 : s ≤ m := by omega
  have b4 : mid + m - s ≤ b := by omega
  have b5 : s ≤ mid := by omega
  obtain ⟨e, he⟩ : ∃ e, mid + m - s = e := ⟨_, rfl⟩
  have he2 : e + s = mid + m := by omega
  have e1 : ∀ k, k < s → roF f s m e k = f k := fun k hk => by unfold roF; rw [if_neg (by omega), if_neg (by omega)]
  have e2 : ∀ k, s ≤ k → k < mid → roF f s m e k = f (m + (k - s)) := fun k hk hk2 => by unfold roF; rw [if_pos (by omega)]
  have e3 : ∀ k, mid ≤ k → k < e → roF f s m e k = f (s + (k - mid)) := fun k hk hk2 => by unfold roF; rw [if_neg (by omega), if_pos (by omega), show s + (e - m) = mid by omega]
  have e4 : ∀ k, e ≤ k → roF f s m e k = f k := fun k hk => by unfold roF; rw [if_neg (by omega), if_neg (by omega)]
  rw [he] at p1 b4 ⊢
  have q1 : ∀ i j, a ≤ i → i < s → e ≤ j → j < b → R (f i) (f j) := fun i j c1 c2 c3 c4 => by
    rcases p1 with p1 | p1
    · omega
    · have r := h.before C (by omega : a ≤ s - 1) (by omega) (by omega : m ≤ e) (by omega) p1
      have r1 : R (f i) (f e) := by
        rcases Nat.lt_or_ge i (s - 1) with c | c
        · exact C.tr _ _ _ (h.lt _ (by omega) (by omega)) (h.lt _ (by omega) (by omega)) (h.lt _ (by omega) (by omega)) (h.le i (s - 1) c1 c (by omega)) r
        · rw [show i = s - 1 by omega]; exact r
      rcases Nat.lt_or_ge e j with c | c
      · exact C.tr _ _ _ (h.lt _ (by omega) (by omega)) (h.lt _ (by omega) (by omega)) (h.lt _ (by omega) (by omega)) r1 (h.ri e j (by omega) c c4)
      · rw [show j = e by omega]; exact r1
  have q2 : ∀ i j, m ≤ i → i < e → s ≤ j → j < m → R (f i) (f j) := fun i j c1 c2 c3 c4 => by
    rcases p2 with p2 | p2
    · omega
    · rw [show mid + m - 1 - s = e - 1 by omega] at p2
      have r := h.after C b1 (by omega : s < m) (by omega : m ≤ e - 1) (by omega) p2
      have r1 : R (f i) (f s) := by
        rcases Nat.lt_or_ge i (e - 1) with c | c
        · exact C.tr _ _ _ (h.lt _ (by omega) (by omega)) (h.lt _ (by omega) (by omega)) (h.lt _ (by omega) (by omega)) (h.ri i (e - 1) c1 c (by omega)) r
        · rw [show i = e - 1 by omega]; exact r
      rcases Nat.lt_or_ge s j with c | c
      · exact C.tr _ _ _ (h.lt _ (by omega) (by omega)) (h.lt _ (by omega) (by omega)) (h.lt _ (by omega) (by omega)) r1 (h.le s j b1 c c4)
      · rw [show j = s by omega]; exact r1
  have T := roF_trn f b2 (by omega : m ≤ e)
  have hlt : ∀ k, a ≤ k → k < b → roF f s m e k < n := fun k c1 c2 => by
    by_cases hh : k < s ∨ e ≤ k
    · rw [T.out hh]; exact h.lt k c1 c2
    · obtain ⟨i, d1, d2, d3⟩ := T.mem (k := k) (by omega) (by omega)
      rw [d3]; exact h.lt i (by omega) (by omega)
  refine ⟨b1, b2, by omega, b4, b5, by omega, ⟨fun k c1 c2 => hlt k c1 (by omega), ?_, ?_, ?_⟩, ⟨fun k c1 c2 => hlt k (by omega) c2, ?_, ?_, ?_⟩, ?_⟩
  · exact (h.le.sub (Nat.le_refl a) b2).of fun k _ c => e1 k c
  · exact (h.ri.sub (Nat.le_refl m) b4).moved mid (by omega) e2
  · intro i j c1 c2 c3 c4
    rw [e1 i c2, e2 j c3 c4]
    exact h.cr _ _ c1 (by omega) (by omega) (by omega)
  · exact (h.le.sub b1 (Nat.le_refl m)).moved e (by omega) e3
  · exact (h.ri.sub (by omega : m ≤ e) (Nat.le_refl b)).of fun k c _ => e4 k c
  · intro i j c1 c2 c3 c4
    rw [e3 i c1 c2, e4 j c3]
    exact h.cr _ _ (by omega) (by omega) (by omega) (by omega)
  · intro i j c1 c2 c3 c4
    rcases Nat.lt_or_ge i s with d | d <;> rcases Nat.lt_or_ge j e with d2 | d2
    · rw [e1 i d, e3 j c3 d2]; exact h.le _ _ c1 (by omega) (by omega)
    · rw [e1 i d, e4 j d2]; exact q1 i j c1 d d2 c4
    · rw [e2 i d c2, e3 j c3 d2]; exact q2 _ _ (by omega) (by omega) (by omega) (by omega)
    · rw [e2 i d c2, e4 j d2]; exact h.ri _ _ (by omega) (by omega) (by omega)
/-- Both merges done: the whole rises. -/
theorem piv_done {R : Nat → Nat → Prop} {f1 f2 f3 : Nat → Nat} {a mid b : Nat} (h1 : a ≤ mid) (h2 : mid ≤ b) (hx : ∀ i j, a ≤ i → i < mid → mid ≤ j → j < b → R (f1 i) (f1 j))
    (t2 : Trn a mid f1 f2) (s2 : So R f2 a mid) (t3 : Trn mid b f2 f3) (s3 : So R f3 mid b) : So R f3 a b ∧ Trn a b f1 f3 := by
  refine ⟨fun i j c1 c2 c3 => ?_, (t2.mono (Nat.le_refl a) h2).trans (t3.mono h1 (Nat.le_refl b))⟩
  rcases Nat.lt_or_ge i mid with d | d
  · rcases Nat.lt_or_ge j mid with d2 | d2
    · rw [t3.out (.inl d), t3.out (.inl d2)]; exact s2 i j c1 c2 d2
    · rw [t3.out (.inl d)]
      obtain ⟨i1, g1, g2, g3⟩ := t2.mem c1 d
      obtain ⟨j1, g4, g5, g6⟩ := t3.mem d2 c3
      rw [g3, g6, t2.out (.inr g4)]
      exact hx _ _ g1 g2 g4 g5
  · exact s3 i j d c2 c3
/-- Between a and b: just its own numbers, and they rise. -/
def Bk (R : Nat → Nat → Prop) (f : Nat → Nat) (a b : Nat) : Prop := So R f a b ∧ ∀ k, a ≤ k → k < b → a ≤ f k ∧ f k < b
theorem Bk.of {R : Nat → Nat → Prop} {f g : Nat → Nat} {a b : Nat} (h : Bk R f a b) (he : ∀ k, a ≤ k → k < b → g k = f k) : Bk R g a b :=
  ⟨h.1.of he, fun k c1 c2 => by rw [he k c1 c2]; exact h.2 k c1 c2⟩
theorem Bk.merge {cf : Nat → Nat → Int} {R : Nat → Nat → Prop} {n : Nat} {f : Nat → Nat} {a m b : Nat} (h1 : Bk R f a m) (h2 : Bk R f m b) (hm : m ≤ b) (hb : b ≤ n) : Mg cf R n f a m b :=
  ⟨fun k c1 c2 => by
    rcases Nat.lt_or_ge k m with c | c
    · have := h1.2 k c1 c; omega
    · have := h2.2 k c c2; omega, h1.1, h2.1, fun i j c1 c2 c3 c4 => by have := h1.2 i c1 c2; have := h2.2 j c3 c4; omega⟩
theorem Bk.merged {R : Nat → Nat → Prop} {f f2 : Nat → Nat} {a m b : Nat} (h1 : Bk R f a m) (h2 : Bk R f m b) (ha : a ≤ m) (hm : m ≤ b) (s : So R f2 a b) (t : Trn a b f f2) : Bk R f2 a b :=
  ⟨s, fun k c1 c2 => by
    obtain ⟨i, d1, d2, d3⟩ := t.mem c1 c2
    rw [d3]
    rcases Nat.lt_or_ge i m with c | c
    · have := h1.2 i d1 c; omega
    · have := h2.2 i c d2; omega⟩
/-- From the place a on: blocks of bs each, the last one may be shorter. -/
def Bls (R : Nat → Nat → Prop) (f : Nat → Nat) (bs n a : Nat) : Prop := ∀ q, a + q * bs < n → Bk R f (a + q * bs) (min (a + q * bs + bs) n)
theorem Bls.cut {R : Nat → Nat → Prop} {f : Nat → Nat} {bs n a : Nat} (h : Bls R f bs n a) : Bls R f bs n (a + bs) := fun q hq => by
  have e : a + bs + q * bs = a + (q + 1) * bs := by rw [Nat.add_mul, Nat.one_mul]; omega
  rw [e] at hq ⊢
  exact h (q + 1) hq
theorem Bls.first {R : Nat → Nat → Prop} {f : Nat → Nat} {bs n a : Nat} (h : Bls R f bs n a) (ha : a < n) : Bk R f a (min (a + bs) n) := by
  have := h 0 (by omega)
  rwa [Nat.zero_mul, Nat.add_zero] at this
theorem Bls.trn {R : Nat → Nat → Prop} {f g : Nat → Nat} {bs n a lo hi : Nat} (h : Bls R f bs n a) (t : Trn lo hi f g) (hh : hi ≤ a) : Bls R g bs n a := fun q hq =>
  (h q hq).of fun k c1 _ => t.out (.inr (by omega))
/-- Below a: whole blocks of bs each. -/
def Blw (R : Nat → Nat → Prop) (f : Nat → Nat) (bs c : Nat) : Prop := ∀ q, q < c → Bk R f (q * bs) (q * bs + bs)
theorem Blw.more {R : Nat → Nat → Prop} {f g : Nat → Nat} {bs c a b : Nat} (h : Blw R f bs c) (ha : a = c * bs) (t : Trn a b f g) (hk : Bk R g a (a + bs)) : Blw R g bs (c + 1) := fun q hq => by
  rcases Nat.lt_or_ge q c with d | d
  · refine (h q d).of fun k _ c2 => t.out (.inl ?_)
    have : (q + 1) * bs ≤ c * bs := Nat.mul_le_mul_right bs d
    rw [Nat.add_mul, Nat.one_mul] at this
    omega
  · rw [show q = c by omega, ← ha]; exact hk
theorem Blw.all {R : Nat → Nat → Prop} {f : Nat → Nat} {bs c n a : Nat} (hs : 0 < bs) (h : Blw R f bs c) (ha : a = c * bs) (ha2 : a ≤ n) (han : n < a + bs) (hk : Bk R f a n) : Bls R f bs n 0 := fun q hq => by
  rw [Nat.zero_add] at hq ⊢
  rcases Nat.lt_or_ge q c with d | d
  · have e1 : (q + 1) * bs ≤ c * bs := Nat.mul_le_mul_right bs d
    rw [Nat.add_mul, Nat.one_mul] at e1
    rw [Nat.min_eq_left (by omega)]
    exact h q d
  · have e1 : q = c := by
      rcases Nat.lt_or_ge c q with g | g
      · have : (c + 1) * bs ≤ q * bs := Nat.mul_le_mul_right bs g
        rw [Nat.add_mul, Nat.one_mul] at this
        omega
      · omega
    rw [e1, ← ha, Nat.min_eq_right (by omega)]
    exact hk
end Go.Proofs.YtembljihmnmmfaaGreat
namespace Go.Proofs.YtembljihmnmmfaaGreat
set_option linter.unusedVariables false
set_option linter.unusedSimpArgs false

/-! ### lengths l 0 .. l (n-1), each 1 .. 20 -/
def bef (l : Nat → Nat) (t s : Nat) : Bool := decide (l t < l s ∨ (l t = l s ∧ t < s))
/-- What the codes ahead of s take of all. -/
def kBef (n : Nat) (l : Nat → Nat) (s : Nat) : Nat := rsum n fun t => if bef l t s = true then 2 ^ (20 - l t) else 0
def codeN (n : Nat) (l : Nat → Nat) (s : Nat) : Nat := kBef n l s / 2 ^ (20 - l s)
end Go.Proofs.YtembljihmnmmfaaGreat
namespace Go.Proofs.YtembljihmnmmfaaGreat
set_option linter.unusedVariables false
set_option linter.unusedSimpArgs false
open Go.RowKit Go.Maps

theorem byteKey : Keyed Tryz.prog 5 := int_keyed Tryz.underlying5
/-- A byte as a key. -/
def kB (b : Nat) : Lit := .int .u8 (b : Int)
theorem wf_u8 {b : Nat} (h : b < 256) : (Lit.int .u8 (b : Int)).wf = true := by
  have : ∀ x : Fin 256, (Lit.int .u8 (x.val : Int)).wf = true := by decide +kernel
  exact this ⟨b, h⟩
theorem keyB {b : Nat} (h : b < 256) : keyOf Tryz.prog 5 (.int .u8 (b : Int)) = some (kB b) := keyOf_int_mk Tryz.underlying5 (wf_u8 h)
theorem kB_lit (b : Nat) (h : b < 256) : WideAt.IsKeyLit (kB b) := byteKey.key (keyB h)
theorem kB_ne {a b : Nat} (h : a ≠ b) : kB a ≠ kB b := fun e => by
  unfold kB at e
  injection e with _ e
  omega
theorem zeroI7 (w : World) : (zeroValue 3).run Tryz.prog w = .ok (.int .i64 0) w := by kernel_rfl

/-- How many bytes have a count. -/
def cardF (f : Nat → Nat) : Nat := (List.range 256).countP (fun b => decide (0 < f b))
theorem card_used (l : List Nat) : cardF (fun b => l.count b) = (usedL l).length := by
  unfold cardF usedL usedTo
  rw [List.countP_eq_length_filter]
theorem countP_upd (p q : Nat → Bool) (b : Nat) (h : ∀ x, x ≠ b → p x = q x) : ∀ n, b < n → (List.range n).countP p + (q b).toNat = (List.range n).countP q + (p b).toNat := by
  intro n
  induction n with
  | zero => intro h; omega
  | succ n ih =>
    intro hb
    rw [List.range_succ, List.countP_append, List.countP_append]
    by_cases e : b = n
    · subst e
      have hc : (List.range b).countP p = (List.range b).countP q := List.countP_congr (fun x hx => by rw [List.mem_range] at hx; rw [h x (by omega)])
      rw [hc]
      cases hp : p b <;> cases hq : q b <;> simp [hp, hq]
    · have := ih (by omega)
      have hn := h n (fun x => e x.symm)
      simp only [List.countP_cons, List.countP_nil, hn]
      omega
theorem card_put (f : Nat → Nat) (b : Nat) (hb : b < 256) : cardF (fun x => if x = b then f b + 1 else f x) = if 0 < f b then cardF f else cardF f + 1 := by
  have h := countP_upd (fun x => decide (0 < if x = b then f b + 1 else f x)) (fun x => decide (0 < f x)) b (fun x hx => by simp [hx]) 256 hb
  unfold cardF
  by_cases h0 : 0 < f b
  · simp [h0] at h ⊢; exact h
  · simp [h0] at h ⊢; omega
theorem card_le (f : Nat → Nat) : cardF f ≤ 256 := by
  unfold cardF
  have := List.countP_le_length (p := fun b => decide (0 < f b)) (l := List.range 256)
  simpa using this

/-- What the map's datum says: the counts. -/
def Cnt (D : DataW Unit) (f : Nat → Nat) : Prop :=
  Tidy D ∧ (∀ b, b < 256 → Maps.has D (kB b) = decide (0 < f b)) ∧ (∀ b, b < 256 → D.atKey (kB b) (.lit (.int .i64 0)) = .lit (.int .i64 (f b : Int))) ∧ Maps.size D = cardF f
theorem cnt_nil : Cnt (.map []) (fun _ => 0) := by
  refine ⟨tidy_empty, fun b _ => by simp [Maps.has], fun b _ => rfl, ?_⟩
  unfold cardF
  simp [Maps.size]
theorem cnt_put {D : DataW Unit} {f : Nat → Nat} (h : Cnt D f) {b : Nat} (hb : b < 256) : Cnt (D.put (kB b) (.lit (.int .i64 ((f b : Int) + 1)))) (fun x => if x = b then f b + 1 else f x) := by
  obtain ⟨h1, h2, h3, h4⟩ := h
  refine ⟨h1.put (kB_lit b hb) _, fun x hx => ?_, fun x hx => ?_, ?_⟩
  · by_cases e : x = b
    · subst e; rw [has_put_same h1.isMap (kB_lit x hx)]; simp
    · rw [has_put_other (kB_ne e), h2 x hx]; simp [e]
  · by_cases e : x = b
    · subst e; rw [atKey_put_same h1.isMap (kB_lit x hx)]; simp
    · rw [atKey_put_other (kB_ne e), h3 x hx]; simp [e]
  · rw [size_put h1, h2 b hb, card_put f b hb, h4]
    simp
/-- Block b is a map of at most n entries that holds the counts f. -/
def CntAt (W : World) (b n : Nat) (f : Nat → Nat) : Prop := ∃ D, W.ownsMap Tryz.prog 5 (plainElem (H := Unit) Tryz.prog 3) b n D ∧ Cnt D f
theorem CntAt.lt {W : World} {b n : Nat} {f : Nat → Nat} (h : CntAt W b n f) : b < W.heap.size := by obtain ⟨D, h, _⟩ := h; exact h.lt
theorem CntAt.grown {W W' : World} {b n : Nat} {f : Nat → Nat} {row : Option Nat} (h : CntAt W b n f) (hg : W.grownBy W' row) (hne : some b ≠ row) : CntAt W' b n f := by
  obtain ⟨D, h, h2⟩ := h
  exact ⟨D, h.kept hg hne, h2⟩
theorem CntAt.below {W W' : World} {b n : Nat} {f : Nat → Nat} (h : CntAt W b n f) (hb : Below W.heap.size W W') : CntAt W' b n f :=
  h.grown (row := none) ⟨hb.os, hb.tape, hb.output, hb.size, fun i hi _ => hb.block i hi⟩ (by simp)
theorem CntAt.only {W W' : World} {b g n : Nat} {f : Nat → Nat} (h : CntAt W b n f) (ho : Only g W W') (hne : b ≠ g) : CntAt W' b n f := h.grown ho (by simpa using hne)
theorem CntAt.alloc {W : World} {b n : Nat} {f : Nat → Nat} (h : CntAt W b n f) (o : Obj) : CntAt (W.alloc o) b n f := by
  obtain ⟨D, h, h2⟩ := h
  exact ⟨D, h.alloc o, h2⟩
theorem CntAt.drewN {W : World} {b n : Nat} {f : Nat → Nat} (h : CntAt W b n f) (k : Nat) : CntAt (W.drewN k) b n f := h
theorem CntAt.setCell {W : World} {b n : Nat} {f : Nat → Nat} (h : CntAt W b n f) {p : Addr} (hp : b ≠ p.block) (u : Value) : CntAt (W.setCell p u) b n f := by
  obtain ⟨D, h, h2⟩ := h
  exact ⟨D, h.setCell hp u, h2⟩
theorem CntAt.mono {W : World} {b n m : Nat} {f : Nat → Nat} (h : CntAt W b n f) (hm : n ≤ m) : CntAt W b m f := by
  obtain ⟨D, h, h2⟩ := h
  exact ⟨D, h.mono hm, h2⟩
end Go.Proofs.YtembljihmnmmfaaGreat
namespace Go.Proofs.YtembljihmnmmfaaGreat
set_option linter.unusedVariables false
set_option linter.unusedSimpArgs false

/-- With how many elements below b it begins. -/
def frZ (b : Int) : List Int → Nat
  | [] => 0
  | x :: l => if x < b then frZ b l + 1 else 0
theorem frZ_le (b : Int) : ∀ l, frZ b l ≤ l.length
  | [] => Nat.le_refl _
  | x :: l => by
    unfold frZ
    have := frZ_le b l
    split
    · simp only [List.length_cons]; omega
    · omega
/-- The runs from place s on: where each begins, how long it is. -/
def chG (b : Int) (z : List Int) : Nat → Nat → List (Nat × Nat)
  | 0, _ => []
  | f + 1, s => if s < z.length then (s, max 1 (frZ b (z.drop s))) :: chG b z f (s + max 1 (frZ b (z.drop s))) else []
def chR (b : Int) (z : List Int) (s : Nat) : List (Nat × Nat) := chG b z (z.length - s) s
theorem chG_more (b : Int) (z : List Int) : ∀ (f g s : Nat), z.length - s ≤ f → z.length - s ≤ g → chG b z f s = chG b z g s
  | 0, 0, _, _, _ => rfl
  | 0, g + 1, s, h, _ => by rw [chG, chG, if_neg (by omega)]
  | f + 1, 0, s, _, h => by rw [chG, chG, if_neg (by omega)]
  | f + 1, g + 1, s, h1, h2 => by
    rw [chG, chG]
    by_cases h : s < z.length
    · rw [if_pos h, if_pos h, chG_more b z f g _ (by omega) (by omega)]
    · rw [if_neg h, if_neg h]
theorem chR_end {b : Int} {z : List Int} {s : Nat} (h : z.length ≤ s) : chR b z s = [] := by
  unfold chR
  rw [show z.length - s = 0 by omega, chG]
theorem chR_step {b : Int} {z : List Int} {s : Nat} (h : s < z.length) : chR b z s = (s, max 1 (frZ b (z.drop s))) :: chR b z (s + max 1 (frZ b (z.drop s))) := by
  unfold chR
  obtain ⟨f, hf⟩ : ∃ f, z.length - s = f + 1 := ⟨z.length - s - 1, by omega⟩
  rw [hf, chG, if_pos h, chG_more b z f (z.length - (s + max 1 (frZ b (z.drop s)))) _ (by omega) (by omega)]
theorem chR_fit {b : Int} {z : List Int} {s : Nat} (h : s < z.length) : s + max 1 (frZ b (z.drop s)) ≤ z.length := by
  have := frZ_le b (z.drop s)
  rw [List.length_drop] at this
  omega

/-- What a run of numbers packs to. -/
def pkC (z : List Int) (p : Nat × Nat) : List Nat := if 0 < z.getD p.1 0 then [(z.getD p.1 0).toNat + 1] else rsF p.2
theorem zeros_split : ∀ (L : List Nat), L = List.replicate (frZ 1 (ints L)) 0 ++ L.drop (frZ 1 (ints L)) ∧ (∀ y r, L.drop (frZ 1 (ints L)) = y :: r → 0 < y)
  | [] => by simp [ints, frZ]
  | x :: l => by
    have hs : ints (x :: l) = (x : Int) :: ints l := rfl
    rw [hs]
    unfold frZ
    by_cases hx : (x : Int) < 1
    · rw [if_pos hx]
      have hx0 : x = 0 := by omega
      subst hx0
      obtain ⟨h1, h2⟩ := zeros_split l
      refine ⟨?_, ?_⟩
      · rw [List.replicate_succ, List.cons_append, List.drop_succ_cons, ← h1]
      · rw [List.drop_succ_cons]; exact h2
    · rw [if_neg hx]
      refine ⟨by simp, fun y r h => ?_⟩
      rw [List.drop_zero] at h
      injection h with h _
      omega
theorem ints_drop (L : List Nat) (s : Nat) : (ints L).drop s = ints (L.drop s) := by unfold ints; rw [List.map_drop]
theorem pack_chunks (L : List Nat) : ∀ (k s : Nat), L.length - s ≤ k → (chR 1 (ints L) s).flatMap (pkC (ints L)) = packF 0 (L.drop s)
  | 0, s, h => by
    rw [chR_end (by rw [ints_len]; omega), List.drop_eq_nil_of_le (by omega), packF_nil]; rfl
  | k + 1, s, h => by
    by_cases hs : s < L.length
    · rw [chR_step (by rw [ints_len]; exact hs), List.flatMap_cons]
      have hd := drop_cons L s hs
      have hpos : s + max 1 (frZ 1 ((ints L).drop s)) ≤ L.length := by have := chR_fit (b := 1) (z := ints L) (s := s) (by rw [ints_len]; exact hs); rwa [ints_len] at this
      rw [pack_chunks L k _ (by omega)]
      unfold pkC
      simp only
      rw [ints_get, ints_drop]
      rw [ints_drop] at hpos
      obtain ⟨x, hx⟩ : ∃ x, L.getD s 0 = x := ⟨_, rfl⟩
      rw [hx] at hd ⊢
      by_cases h0 : 0 < x
      · have hfr : frZ 1 (ints (L.drop s)) = 0 := by
          rw [hd]
          show frZ 1 ((x : Int) :: ints (L.drop (s + 1))) = 0
          unfold frZ
          rw [if_neg (by omega)]
        rw [hfr, if_pos (by omega), hd, packF_pos 0 h0, rsF_zero]
        simp
      · have hx0 : x = 0 := by omega
        subst hx0
        obtain ⟨h1, h2⟩ := zeros_split (L.drop s)
        have hfr : 1 ≤ frZ 1 (ints (L.drop s)) := by
          rw [hd]
          show 1 ≤ frZ 1 ((0 : Int) :: ints (L.drop (s + 1)))
          unfold frZ
          rw [if_pos (by omega)]
          omega
        rw [if_neg (by omega)]
        obtain ⟨e, he⟩ : ∃ e, frZ 1 (ints (L.drop s)) = e := ⟨_, rfl⟩
        rw [he] at h1 h2 hfr ⊢
        rw [show max 1 e = e by omega]
        rw [List.drop_drop] at h1 h2
        conv => rhs; rw [h1, packF_reps, Nat.zero_add]
        cases hR : L.drop (s + e) with
        | nil => rw [packF_nil, packF_nil, rsF_zero, List.append_nil]
        | cons y r =>
          have hy := h2 y r hR
          rw [packF_pos 0 hy, packF_pos e hy, rsF_zero, List.nil_append]
    · rw [chR_end (by rw [ints_len]; omega), List.drop_eq_nil_of_le (by omega), packF_nil]; rfl

end Go.Proofs.YtembljihmnmmfaaGreat
namespace Go.Proofs.YtembljihmnmmfaaGreat
set_option linter.unusedVariables false
set_option linter.unusedSimpArgs false
open Go.RowKit

theorem seg_ints {w : World} {B b off : Nat} {z : List Int} (hl : z.length ≤ 1048576) (hr : ∀ x ∈ z, -9223372036854775808 ≤ x ∧ x ≤ 9223372036854775807) (hb : b < B) (hc : ∀ i, i < z.length → w.cell? ⟨b, off + i, none⟩ = some (.int .i64 (z.getD i 0))) {i f : Nat} (hi : i ≤ z.length) :
    Ints w B (some ⟨b, off + f, none⟩) ((z.take i).drop f) := by
  refine ⟨by rw [seg_len hi]; omega, fun x hx => hr x (List.mem_of_mem_take (List.mem_of_mem_drop hx)), fun _ => ⟨b, off + f, rfl, hb, fun j hj => ?_⟩⟩
  rw [seg_len hi] at hj
  rw [seg_get hi (by omega), Nat.add_assoc]
  exact hc _ (by omega)
end Go.Proofs.YtembljihmnmmfaaGreat
namespace Go.Proofs.YtembljihmnmmfaaGreat
set_option linter.unusedVariables false
set_option linter.unusedSimpArgs false
open Go.RowKit

set_option maxHeartbeats 1000000 in
theorem tableCountOk_any (k : Int) (w : World) :
    Calls Tryz.prog 57 #[.int .i64 k] w fun e w' => e = .returned (.bool (decide (1 ≤ k ∧ k ≤ 4))) ∧ w = w' := by
  by_cases h1 : 1 ≤ k
  · by_cases h4 : k ≤ 4
    · rw [show decide (1 ≤ k ∧ k ≤ 4) = true by simp [h1, h4]]
      go_enter Tryz.func57, Tryz.ntmps57
      go_wp2
      go_ret
      exact ⟨rfl, rfl⟩
    · rw [show decide (1 ≤ k ∧ k ≤ 4) = false by simp [h1, h4]]
      go_enter Tryz.func57, Tryz.ntmps57
      go_wp2
      go_ret
      exact ⟨rfl, rfl⟩
  · rw [show decide (1 ≤ k ∧ k ≤ 4) = false by simp [h1]]
    go_enter Tryz.func57, Tryz.ntmps57
    go_wp2
    go_ret
    exact ⟨rfl, rfl⟩
end Go.Proofs.YtembljihmnmmfaaGreat
namespace Go.Proofs.YtembljihmnmmfaaGreat
set_option linter.unusedVariables false
set_option linter.unusedSimpArgs false
open Go.RowKit

set_option maxHeartbeats 1000000 in
set_option maxRecDepth 100000 in
theorem implWayOk_any (m t : Int) (b : Bool) (w : World) :
    Calls Tryz.prog 27 #[.agg #[.int .i64 m, .bool b, .int .i64 t]] w fun e w' => e = .returned (.bool (wayOk m b t)) ∧ Below w.heap.size w w' := by
  obtain ⟨r, hr⟩ : ∃ r, wayOk m b t = r := ⟨_, rfl⟩
  have HR := hidden hr
  have KT := hidden (fun W => tableCountOk_any t W)
  rw [hr]
  clear hr
  by_cases e0 : m = 0
  · subst e0
    clear KT
    cases b
    · by_cases et : t = 0
      · subst et
        obtain rfl : true = r := HR.out
        clear HR
        go_enter Tryz.func27, Tryz.ntmps27
        go_wp2
        go_ret
        exact ⟨rfl, (Below.refl _ _).alloc (Nat.le_refl _) _⟩
      · obtain rfl : false = r := by rw [← HR.out]; unfold wayOk; simp [et]
        have hb : (t == 0) = false := beq_eq_false_iff_ne.2 et
        clear HR
        go_enter Tryz.func27, Tryz.ntmps27
        go_wp2
        go_ret
        exact ⟨rfl, (Below.refl _ _).alloc (Nat.le_refl _) _⟩
    · obtain rfl : false = r := by rw [← HR.out]; unfold wayOk; simp
      clear HR
      go_enter Tryz.func27, Tryz.ntmps27
      go_wp2
      go_ret
      exact ⟨rfl, (Below.refl _ _).alloc (Nat.le_refl _) _⟩
  have hb0 : (m == 0) = false := beq_eq_false_iff_ne.2 e0
  by_cases e12 : m = 1 ∨ m = 2
  · have h1 : Hid (decide (1 ≤ t ∧ t ≤ 4) = r) := by
      rw [← HR.out]
      refine hidden ?_
      unfold wayOk
      rcases e12 with rfl | rfl <;> simp
    have HE := h1
    obtain ⟨q, hq⟩ : ∃ q, decide (1 ≤ t ∧ t ≤ 4) = q := ⟨_, rfl⟩
    rw [hq] at KT HE
    obtain rfl : q = r := HE.out
    clear HR h1 HE hq
    rcases e12 with rfl | rfl
    all_goals
      go_enter Tryz.func27, Tryz.ntmps27
      go_wp2_with fail
      refine (KT.out _).mono ?_
      rintro e w1 ⟨rfl, rfl⟩
      go_wp2
      go_ret
      exact ⟨rfl, (Below.refl _ _).alloc (Nat.le_refl _) _⟩
  have e1 : ¬ m = 1 := fun h => e12 (.inl h)
  have e2 : ¬ m = 2 := fun h => e12 (.inr h)
  have hb1 : (m == 1) = false := beq_eq_false_iff_ne.2 e1
  have hb2 : (m == 2) = false := beq_eq_false_iff_ne.2 e2
  clear e12 KT
  by_cases e3 : m = 3
  · subst e3
    by_cases et : t = 0
    · subst et
      obtain rfl : true = r := by rw [← HR.out]; unfold wayOk; simp
      clear HR e0 e1 e2 hb0 hb1 hb2
      go_enter Tryz.func27, Tryz.ntmps27
      go_wp2
      go_ret
      exact ⟨rfl, (Below.refl _ _).alloc (Nat.le_refl _) _⟩
    · obtain rfl : false = r := by rw [← HR.out]; unfold wayOk; simp [et]
      have hb : (t == 0) = false := beq_eq_false_iff_ne.2 et
      clear HR e0 e1 e2 hb0 hb1 hb2
      go_enter Tryz.func27, Tryz.ntmps27
      go_wp2
      go_ret
      exact ⟨rfl, (Below.refl _ _).alloc (Nat.le_refl _) _⟩
  have hb3 : (m == 3) = false := beq_eq_false_iff_ne.2 e3
  obtain rfl : false = r := by rw [← HR.out]; unfold wayOk; simp [e0, e1, e2, e3]
  clear HR
  go_enter Tryz.func27, Tryz.ntmps27
  go_wp2
  go_ret
  exact ⟨rfl, (Below.refl _ _).alloc (Nat.le_refl _) _⟩
end Go.Proofs.YtembljihmnmmfaaGreat
