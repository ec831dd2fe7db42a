/- Chapter 8, the program: linked lists of nodes. -/
import Derived.Test.YtpdicijoohahaaaC8
namespace Go.Proofs.Ytpdicijoohahaaa
set_option linter.unusedVariables false
set_option linter.unusedSimpArgs false
open Go.RowKit

/-- Only the blocks from base on and below E (and what is new) may have turned. -/
def Mid (base E : Nat) (a w : World) : Prop := w.os = a.os ∧ w.tape = a.tape ∧ w.output = a.output ∧ a.heap.size ≤ w.heap.size ∧ ∀ i, i < a.heap.size → (i < base ∨ E ≤ i) → w.heap[i]? = a.heap[i]?
theorem Mid.refl (base E : Nat) (w : World) : Mid base E w w := ⟨rfl, rfl, rfl, Nat.le_refl _, fun _ _ _ => rfl⟩
theorem Mid.trans {base E : Nat} {a b c : World} (h : Mid base E a b) (k : Mid base E b c) : Mid base E a c :=
  ⟨k.1.trans h.1, k.2.1.trans h.2.1, k.2.2.1.trans h.2.2.1, Nat.le_trans h.2.2.2.1 k.2.2.2.1, fun i hi ho => (k.2.2.2.2 i (Nat.lt_of_lt_of_le hi h.2.2.2.1) ho).trans (h.2.2.2.2 i hi ho)⟩
theorem Mid.below {base E : Nat} {a w : World} (h : Mid base E a w) (hb : base ≤ a.heap.size) : Below base a w := ⟨h.1, h.2.1, h.2.2.1, h.2.2.2.1, fun i hi => h.2.2.2.2 i (by omega) (.inl hi)⟩
theorem Mid.own {base E B n S : Nat} {T : TypeId} {a w : World} {v : Value} {xs : List Value} (k : Mid base E a w) (ho : a.ownsRow B T S v n xs) (hB : E ≤ B) : w.ownsRow B T S v n xs := by
  refine ⟨ho.1, ?_⟩
  rcases ho.2 with h2 | ⟨b, cap, cur, hv, hb, hc, hr⟩
  · exact .inl h2
  · exact .inr ⟨b, cap, cur, hv, hb, (k.2.2.2.2 b ((Array.getElem?_eq_some_iff.1 hc).1) (.inr (by omega))).trans hc, hr⟩
theorem Mid.has {base E b : Nat} {T : TypeId} {cs : Array Value} {a w : World} (k : Mid base E a w) (h : Has a b T cs) (ho : b < base ∨ E ≤ b) : Has w b T cs := (k.2.2.2.2 b h.lt ho).trans h
theorem Mid.store {base E : Nat} {a w : World} (h : Mid base E a w) {p : Addr} (h1 : base ≤ p.block) (h2 : p.block < E) (u : Value) : Mid base E a (w.setCell p u) :=
  ⟨h.1, h.2.1, h.2.2.1, by simpa using h.2.2.2.1, fun i hi ho => (Below.heap_setCell w p u i (by omega)).trans (h.2.2.2.2 i hi ho)⟩

/-- A block of two cells: a symbol and where the next one lies. -/
def Nd (W : World) (b : Nat) (s : Nat) (p : Option Addr) : Prop := ∃ T, Has W b T #[.int .i64 (s : Int), .pointer p]
theorem Nd.lt {W : World} {b s : Nat} {p : Option Addr} (h : Nd W b s p) : b < W.heap.size := by obtain ⟨T, h⟩ := h; exact h.lt
theorem Nd.sym {W : World} {b s : Nat} {p : Option Addr} (h : Nd W b s p) : W.cell? ⟨b, 0, none⟩ = some (.int .i64 (s : Int)) := by obtain ⟨T, h⟩ := h; exact h.cell 0
theorem Nd.next {W : World} {b s : Nat} {p : Option Addr} (h : Nd W b s p) : W.cell? ⟨b, 1, none⟩ = some (.pointer p) := by obtain ⟨T, h⟩ := h; exact h.cell 1
theorem Nd.free {W : World} {b s : Nat} {p : Option Addr} (h : Nd W b s p) (i : Nat) : W.frozen? ⟨b, i, none⟩ = false := by obtain ⟨T, h⟩ := h; exact h.free i
theorem Nd.store {W : World} {b s : Nat} {p : Option Addr} (h : Nd W b s p) (q : Option Addr) : Nd (W.setCell ⟨b, 1, none⟩ (.pointer q)) b s q := by
  obtain ⟨T, h⟩ := h
  exact ⟨T, by simpa using h.store 1 (.pointer q)⟩
theorem Nd.keep {W W' : World} {b s : Nat} {p : Option Addr} (h : Nd W b s p) (hk : W'.heap[b]? = W.heap[b]?) : Nd W' b s p := by
  obtain ⟨T, h⟩ := h
  exact ⟨T, hk.trans h⟩
theorem Nd.away {W : World} {b s : Nat} {p : Option Addr} (h : Nd W b s p) {a : Addr} (ha : b ≠ a.block) (u : Value) : Nd (W.setCell a u) b s p := h.keep (Below.heap_setCell W a u b ha)
/-- Where a chain begins. -/
def hdP (c : List (Nat × Nat)) (p : Option Addr) : Option Addr := match c with
  | [] => p
  | q :: _ => some ⟨q.1, 0, none⟩
/-- A chain of nodes that ends at p. -/
def Seg (W : World) (p : Option Addr) : List (Nat × Nat) → Prop
  | [] => True
  | q :: c => Nd W q.1 q.2 (hdP c p) ∧ Seg W p c
theorem hdP_append (A B : List (Nat × Nat)) (p : Option Addr) : hdP (A ++ B) p = hdP A (hdP B p) := by cases A <;> rfl
theorem seg_append {W : World} {p : Option Addr} {A B : List (Nat × Nat)} : Seg W p (A ++ B) ↔ Seg W (hdP B p) A ∧ Seg W p B := by
  induction A with
  | nil => simp [Seg]
  | cons q A ih =>
    show Nd W q.1 q.2 (hdP (A ++ B) p) ∧ Seg W p (A ++ B) ↔ (Nd W q.1 q.2 (hdP A (hdP B p)) ∧ Seg W (hdP B p) A) ∧ Seg W p B
    rw [hdP_append, ih, and_assoc]
theorem Seg.keep {W W' : World} {p : Option Addr} : ∀ {c : List (Nat × Nat)}, Seg W p c → (∀ b ∈ c.map Prod.fst, W'.heap[b]? = W.heap[b]?) → Seg W' p c
  | [], _, _ => trivial
  | q :: c, h, hk => ⟨h.1.keep (hk _ (List.mem_cons_self ..)), Seg.keep h.2 (fun b hb => hk b (List.mem_cons_of_mem _ hb))⟩
theorem Seg.away {W : World} {p : Option Addr} {c : List (Nat × Nat)} (h : Seg W p c) {a : Addr} (ha : a.block ∉ c.map Prod.fst) (u : Value) : Seg (W.setCell a u) p c :=
  h.keep fun b hb => Below.heap_setCell W a u b (fun e => ha (e ▸ hb))
theorem Seg.last {W : World} {p : Option Addr} {A : List (Nat × Nat)} {q : Nat × Nat} (h : Seg W p (A ++ [q])) (hn : q.1 ∉ A.map Prod.fst) (p' : Option Addr) : Seg (W.setCell ⟨q.1, 1, none⟩ (.pointer p')) p' (A ++ [q]) := by
  obtain ⟨h1, h2⟩ := seg_append.1 h
  exact seg_append.2 ⟨h1.away hn _, h2.1.store p', trivial⟩
/-- A row of symbols as a chain behind a head, in blocks from base on and below E. -/
structure FLc (W : World) (base E h : Nat) (c : List (Nat × Nat)) (r : List Nat) : Prop where
  row : c.map Prod.snd = r
  nodup : (h :: c.map Prod.fst).Nodup
  lies : ∀ b ∈ h :: c.map Prod.fst, base ≤ b ∧ b < E
  seg : Seg W none ((h, 0) :: c)
def FL (W : World) (base E h : Nat) (r : List Nat) : Prop := ∃ c, FLc W base E h c r
theorem FL.keep {W W' : World} {base E h : Nat} {r : List Nat} (hF : FL W base E h r) (hk : ∀ i, base ≤ i → i < E → W'.heap[i]? = W.heap[i]?) : FL W' base E h r := by
  obtain ⟨c, h1, h2, h3, h4⟩ := hF
  exact ⟨c, h1, h2, h3, h4.keep fun b hb => hk b (h3 b hb).1 (h3 b hb).2⟩
/-- The block of the node ahead of place j. -/
def blk (h : Nat) (c : List (Nat × Nat)) (j : Nat) : Nat := (h :: c.map Prod.fst).getD j 0
theorem seg_at {W : World} {p : Option Addr} : ∀ {c : List (Nat × Nat)} (j : Nat), Seg W p c → j + 1 < c.length → ∃ q q', c[j]? = some q ∧ c[j + 1]? = some q' ∧ Nd W q.1 q.2 (some ⟨q'.1, 0, none⟩)
  | [], _, _, h => by simp at h
  | [q], _, _, h => by simp at h
  | q :: q' :: c, 0, h, _ => ⟨q, q', rfl, rfl, h.1⟩
  | q :: q' :: c, j + 1, h, hj => by
    obtain ⟨u, u', h1, h2, h3⟩ := seg_at (c := q' :: c) j h.2 (by simp at hj ⊢; omega)
    exact ⟨u, u', by simpa using h1, by simpa using h2, h3⟩
theorem seg_node {W : World} {p : Option Addr} : ∀ {c : List (Nat × Nat)} (j : Nat) (q : Nat × Nat), Seg W p c → c[j]? = some q → ∃ p', Nd W q.1 q.2 p'
  | [], _, _, _, h => by simp at h
  | q :: c, 0, q', h, e => by simp at e; subst e; exact ⟨_, h.1⟩
  | q :: c, j + 1, q', h, e => seg_node j q' h.2 (by simpa using e)
theorem FLc.node {W : World} {base E h : Nat} {c : List (Nat × Nat)} {r : List Nat} (hF : FLc W base E h c r) (j : Nat) (hj : j < r.length) :
    W.cell? ⟨blk h c j, 1, none⟩ = some (.pointer (some ⟨blk h c (j + 1), 0, none⟩)) ∧ W.cell? ⟨blk h c (j + 1), 0, none⟩ = some (.int .i64 ((r.getD j 0 : Nat) : Int)) := by
  have hl : c.length = r.length := by rw [← hF.row]; simp
  obtain ⟨q, q', h1, h2, h3⟩ := seg_at j hF.seg (by simp; omega)
  have b1 : blk h c j = q.1 := by
    unfold blk
    have : (h :: c.map Prod.fst) = ((h, 0) :: c).map Prod.fst := rfl
    rw [this, List.getD_eq_getElem?_getD, List.getElem?_map, h1]; rfl
  have b2 : blk h c (j + 1) = q'.1 := by
    unfold blk
    have : (h :: c.map Prod.fst) = ((h, 0) :: c).map Prod.fst := rfl
    rw [this, List.getD_eq_getElem?_getD, List.getElem?_map, h2]; rfl
  obtain ⟨p', h4⟩ := seg_node (j + 1) q' hF.seg h2
  have s2 : r.getD j 0 = q'.2 := by
    have h5 : c[j]? = some q' := by simpa using h2
    rw [← hF.row, List.getD_eq_getElem?_getD, List.getElem?_map, h5]; rfl
  rw [b1, b2, s2]
  exact ⟨h3.next, h4.sym⟩
theorem blk_zero (h : Nat) (c : List (Nat × Nat)) : blk h c 0 = h := rfl

/-- The three stores of bringForward: the chain behind them. -/
theorem seg_bring {W : World} {h : Nat} {A B : List (Nat × Nat)} {x : Nat × Nat} (hs : Seg W none ((h, 0) :: (A ++ x :: B))) (hnd : (h :: (A ++ x :: B).map Prod.fst).Nodup) :
    ∃ p1, W.cell? ⟨blk h (A ++ x :: B) A.length, 1, none⟩ = some (.pointer (some ⟨x.1, 0, none⟩)) ∧ W.cell? ⟨x.1, 1, none⟩ = some (.pointer (hdP B none)) ∧ W.cell? ⟨x.1, 0, none⟩ = some (.int .i64 (x.2 : Int)) ∧
      (blk h (A ++ x :: B) A.length ≠ h → W.cell? ⟨h, 1, none⟩ = some (.pointer p1)) ∧ (blk h (A ++ x :: B) A.length = h → p1 = hdP B none) ∧ x.1 ≠ h ∧ x.1 ≠ blk h (A ++ x :: B) A.length ∧
      W.frozen? ⟨blk h (A ++ x :: B) A.length, 1, none⟩ = false ∧ W.frozen? ⟨x.1, 1, none⟩ = false ∧ W.frozen? ⟨h, 1, none⟩ = false ∧
      blk h (A ++ x :: B) A.length ∈ h :: (A ++ x :: B).map Prod.fst ∧
      Seg (((W.setCell ⟨blk h (A ++ x :: B) A.length, 1, none⟩ (.pointer (hdP B none))).setCell ⟨x.1, 1, none⟩ (.pointer p1)).setCell ⟨h, 1, none⟩ (.pointer (some ⟨x.1, 0, none⟩))) none ((h, 0) :: x :: (A ++ B)) := by
  obtain ⟨hh, hAxB⟩ := hs
  obtain ⟨hA, hx, hBs⟩ := seg_append.1 hAxB
  simp only [List.map_append, List.map_cons, List.nodup_cons, List.nodup_append, List.mem_append, List.mem_cons, not_or] at hnd
  obtain ⟨⟨nA, nx, nB⟩, dA, ⟨nxB, dB⟩, dAB⟩ := hnd
  have hxA : x.1 ∉ A.map Prod.fst := fun hm => dAB x.1 hm x.1 (.inl rfl) rfl
  rcases List.eq_nil_or_concat A with rfl | ⟨A', q, rfl⟩
  · simp only [List.nil_append, List.length_nil, blk_zero] at *
    refine ⟨hdP B none, hh.next, hx.next, hx.sym, fun e => absurd rfl e, fun _ => rfl, fun e => nx e.symm, fun e => nx e.symm, hh.free 1, hx.free 1, hh.free 1, .inl rfl |> List.mem_cons.2, ?_⟩
    refine ⟨((hh.store _).away (by exact nx) _).store _, ((hx.away (fun e => nx e.symm) _).store _).away (fun e => nx e.symm) _, ?_⟩
    exact ((hBs.away (by exact nB) _).away (by exact nxB) _).away (by exact nB) _
  · have hq : blk h (A' ++ [q] ++ x :: B) (A' ++ [q]).length = q.1 := by
      unfold blk
      simp [List.getD_eq_getElem?_getD]
    simp only [List.concat_eq_append] at *
    rw [hq]
    have hqm : q.1 ∈ (A' ++ [q]).map Prod.fst := by simp
    have hqh : q.1 ≠ h := fun e => nA (e ▸ hqm)
    have hqx : q.1 ≠ x.1 := fun e => hxA (e ▸ hqm)
    have hq' : q.1 ∉ A'.map Prod.fst := by
      intro hm
      simp only [List.map_append, List.map_cons, List.map_nil, List.nodup_append, List.mem_singleton] at dA
      exact dA.2.2 _ hm _ rfl rfl
    have hqB : q.1 ∉ B.map Prod.fst := fun hm => dAB q.1 hqm q.1 (.inr hm) rfl
    obtain ⟨hA1, hqN, _⟩ := seg_append.1 hA
    refine ⟨hdP (A' ++ [q] ++ x :: B) none, hqN.next, hx.next, hx.sym, fun _ => hh.next, fun e => absurd e hqh, fun e => nx e.symm, Ne.symm hqx, hqN.free 1, hx.free 1, hh.free 1, List.mem_cons_of_mem _ (by simp), ?_⟩
    have hcl : hdP (A' ++ [q] ++ B) none = hdP (A' ++ [q] ++ x :: B) none := by cases A' <;> rfl
    refine ⟨((hh.away (Ne.symm hqh) _).away nx _).store _, ?_, ?_⟩
    · rw [hcl]
      exact ((hx.away (Ne.symm hqx) _).store _).away (fun e => nx e.symm) _
    · refine seg_append.2 ⟨?_, ?_⟩
      · exact ((hA.last hq' _).away hxA _).away nA _
      · exact ((hBs.away hqB _).away nxB _).away nB _
end Go.Proofs.Ytpdicijoohahaaa
