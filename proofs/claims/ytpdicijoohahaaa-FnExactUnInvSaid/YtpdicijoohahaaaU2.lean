/- Merged: I8L, I8F, I8G, C8P. -/
import Derived.Test.YtpdicijoohahaaaC8
import Derived.Test.YtpdicijoohahaaaC8M
import Derived.Test.YtpdicijoohahaaaC8N
namespace Go.Proofs.Ytpdicijoohahaaa
set_option linter.unusedVariables false
set_option linter.unusedSimpArgs false
open Go.RowKit

/-- Only the blocks from base on and below E (and what is new) may have turned. -/
def Mid (base E : Nat) (a w : World) : Prop := w.os = a.os ∧ w.tape = a.tape ∧ w.output = a.output ∧ a.heap.size ≤ w.heap.size ∧ ∀ i, i < a.heap.size → (i < base ∨ E ≤ i) → w.heap[i]? = a.heap[i]?
theorem Mid.refl (base E : Nat) (w : World) : Mid base E w w := ⟨rfl, rfl, rfl, Nat.le_refl _, fun _ _ _ => rfl⟩
theorem Mid.trans {base E : Nat} {a b c : World} (h : Mid base E a b) (k : Mid base E b c) : Mid base E a c :=
  ⟨k.1.trans h.1, k.2.1.trans h.2.1, k.2.2.1.trans h.2.2.1, Nat.le_trans h.2.2.2.1 k.2.2.2.1, fun i hi ho => (k.2.2.2.2 i (Nat.lt_of_lt_of_le hi h.2.2.2.1) ho).trans (h.2.2.2.2 i hi ho)⟩
theorem Mid.below {base E : Nat} {a w : World} (h : Mid base E a w) (hb : base ≤ a.heap.size) : Below base a w := ⟨h.1, h.2.1, h.2.2.1, h.2.2.2.1, fun i hi => h.2.2.2.2 i (by omega) (.inl hi)⟩
theorem Mid.own {base E B n S : Nat} {T : TypeId} {a w : World} {v : Value} {xs : List Value} (k : Mid base E a w) (ho : a.ownsRow B T S v n xs) (hB : E ≤ B) : w.ownsRow B T S v n xs := by
  refine ⟨ho.1, ?_⟩
  rcases ho.2 with h2 | ⟨b, cap, cur, hv, hb, hc, hr⟩
  · exact .inl h2
  · exact .inr ⟨b, cap, cur, hv, hb, (k.2.2.2.2 b ((Array.getElem?_eq_some_iff.1 hc).1) (.inr (by omega))).trans hc, hr⟩
theorem Mid.has {base E b : Nat} {T : TypeId} {cs : Array Value} {a w : World} (k : Mid base E a w) (h : Has a b T cs) (ho : b < base ∨ E ≤ b) : Has w b T cs := (k.2.2.2.2 b h.lt ho).trans h
theorem Mid.store {base E : Nat} {a w : World} (h : Mid base E a w) {p : Addr} (h1 : base ≤ p.block) (h2 : p.block < E) (u : Value) : Mid base E a (w.setCell p u) :=
  ⟨h.1, h.2.1, h.2.2.1, by simpa using h.2.2.2.1, fun i hi ho => (Below.heap_setCell w p u i (by omega)).trans (h.2.2.2.2 i hi ho)⟩

/-- A block of two cells: a symbol and where the next one lies. -/
def Nd (W : World) (b : Nat) (s : Nat) (p : Option Addr) : Prop := ∃ T, Has W b T #[.int .i64 (s : Int), .pointer p]
theorem Nd.lt {W : World} {b s : Nat} {p : Option Addr} (h : Nd W b s p) : b < W.heap.size := by obtain ⟨T, h⟩ := h; exact h.lt
theorem Nd.sym {W : World} {b s : Nat} {p : Option Addr} (h : Nd W b s p) : W.cell? ⟨b, 0, none⟩ = some (.int .i64 (s : Int)) := by obtain ⟨T, h⟩ := h; exact h.cell 0
theorem Nd.next {W : World} {b s : Nat} {p : Option Addr} (h : Nd W b s p) : W.cell? ⟨b, 1, none⟩ = some (.pointer p) := by obtain ⟨T, h⟩ := h; exact h.cell 1
theorem Nd.free {W : World} {b s : Nat} {p : Option Addr} (h : Nd W b s p) (i : Nat) : W.frozen? ⟨b, i, none⟩ = false := by obtain ⟨T, h⟩ := h; exact h.free i
theorem Nd.store {W : World} {b s : Nat} {p : Option Addr} (h : Nd W b s p) (q : Option Addr) : Nd (W.setCell ⟨b, 1, none⟩ (.pointer q)) b s q := by
  obtain ⟨T, h⟩ := h
  exact ⟨T, by simpa using h.store 1 (.pointer q)⟩
theorem Nd.keep {W W' : World} {b s : Nat} {p : Option Addr} (h : Nd W b s p) (hk : W'.heap[b]? = W.heap[b]?) : Nd W' b s p := by
  obtain ⟨T, h⟩ := h
  exact ⟨T, hk.trans h⟩
theorem Nd.away {W : World} {b s : Nat} {p : Option Addr} (h : Nd W b s p) {a : Addr} (ha : b ≠ a.block) (u : Value) : Nd (W.setCell a u) b s p := h.keep (Below.heap_setCell W a u b ha)
/-- Where a chain begins. -/
def hdP (c : List (Nat × Nat)) (p : Option Addr) : Option Addr := match c with
  | [] => p
  | q :: _ => some ⟨q.1, 0, none⟩
/-- A chain of nodes that ends at p. -/
def Seg (W : World) (p : Option Addr) : List (Nat × Nat) → Prop
  | [] => True
  | q :: c => Nd W q.1 q.2 (hdP c p) ∧ Seg W p c
theorem hdP_append (A B : List (Nat × Nat)) (p : Option Addr) : hdP (A ++ B) p = hdP A (hdP B p) := by cases A <;> rfl
theorem seg_append {W : World} {p : Option Addr} {A B : List (Nat × Nat)} : Seg W p (A ++ B) ↔ Seg W (hdP B p) A ∧ Seg W p B := by
  induction A with
  | nil => simp [Seg]
  | cons q A ih =>
    show Nd W q.1 q.2 (hdP (A ++ B) p) ∧ Seg W p (A ++ B) ↔ (Nd W q.1 q.2 (hdP A (hdP B p)) ∧ Seg W (hdP B p) A) ∧ Seg W p B
    rw [hdP_append, ih, and_assoc]
theorem Seg.keep {W W' : World} {p : Option Addr} : ∀ {c : List (Nat × Nat)}, Seg W p c → (∀ b ∈ c.map Prod.fst, W'.heap[b]? = W.heap[b]?) → Seg W' p c
  | [], _, _ => trivial
  | q :: c, h, hk => ⟨h.1.keep (hk _ (List.mem_cons_self ..)), Seg.keep h.2 (fun b hb => hk b (List.mem_cons_of_mem _ hb))⟩
theorem Seg.away {W : World} {p : Option Addr} {c : List (Nat × Nat)} (h : Seg W p c) {a : Addr} (ha : a.block ∉ c.map Prod.fst) (u : Value) : Seg (W.setCell a u) p c :=
  h.keep fun b hb => Below.heap_setCell W a u b (fun e => ha (e ▸ hb))
theorem Seg.last {W : World} {p : Option Addr} {A : List (Nat × Nat)} {q : Nat × Nat} (h : Seg W p (A ++ [q])) (hn : q.1 ∉ A.map Prod.fst) (p' : Option Addr) : Seg (W.setCell ⟨q.1, 1, none⟩ (.pointer p')) p' (A ++ [q]) := by
  obtain ⟨h1, h2⟩ := seg_append.1 h
  exact seg_append.2 ⟨h1.away hn _, h2.1.store p', trivial⟩
/-- A row of symbols as a chain behind a head, in blocks from base on and below E. -/
structure FLc (W : World) (base E h : Nat) (c : List (Nat × Nat)) (r : List Nat) : Prop where
  row : c.map Prod.snd = r
  nodup : (h :: c.map Prod.fst).Nodup
  lies : ∀ b ∈ h :: c.map Prod.fst, base ≤ b ∧ b < E
  seg : Seg W none ((h, 0) :: c)
def FL (W : World) (base E h : Nat) (r : List Nat) : Prop := ∃ c, FLc W base E h c r
theorem FL.keep {W W' : World} {base E h : Nat} {r : List Nat} (hF : FL W base E h r) (hk : ∀ i, base ≤ i → i < E → W'.heap[i]? = W.heap[i]?) : FL W' base E h r := by
  obtain ⟨c, h1, h2, h3, h4⟩ := hF
  exact ⟨c, h1, h2, h3, h4.keep fun b hb => hk b (h3 b hb).1 (h3 b hb).2⟩
/-- The block of the node ahead of place j. -/
def blk (h : Nat) (c : List (Nat × Nat)) (j : Nat) : Nat := (h :: c.map Prod.fst).getD j 0
theorem seg_at {W : World} {p : Option Addr} : ∀ {c : List (Nat × Nat)} (j : Nat), Seg W p c → j + 1 < c.length → ∃ q q', c[j]? = some q ∧ c[j + 1]? = some q' ∧ Nd W q.1 q.2 (some ⟨q'.1, 0, none⟩)
  | [], _, _, h => by simp at h
  | [q], _, _, h => by simp at h
  | q :: q' :: c, 0, h, _ => ⟨q, q', rfl, rfl, h.1⟩
  | q :: q' :: c, j + 1, h, hj => by
    obtain ⟨u, u', h1, h2, h3⟩ := seg_at (c := q' :: c) j h.2 (by simp at hj ⊢; omega)
    exact ⟨u, u', by simpa using h1, by simpa using h2, h3⟩
theorem seg_node {W : World} {p : Option Addr} : ∀ {c : List (Nat × Nat)} (j : Nat) (q : Nat × Nat), Seg W p c → c[j]? = some q → ∃ p', Nd W q.1 q.2 p'
  | [], _, _, _, h => by simp at h
  | q :: c, 0, q', h, e => by simp at e; subst e; exact ⟨_, h.1⟩
  | q :: c, j + 1, q', h, e => seg_node j q' h.2 (by simpa using e)
theorem FLc.node {W : World} {base E h : Nat} {c : List (Nat × Nat)} {r : List Nat} (hF : FLc W base E h c r) (j : Nat) (hj : j < r.length) :
    W.cell? ⟨blk h c j, 1, none⟩ = some (.pointer (some ⟨blk h c (j + 1), 0, none⟩)) ∧ W.cell? ⟨blk h c (j + 1), 0, none⟩ = some (.int .i64 ((r.getD j 0 : Nat) : Int)) := by
  have hl : c.length = r.length := by rw [← hF.row]; simp
  obtain ⟨q, q', h1, h2, h3⟩ := seg_at j hF.seg (by simp; omega)
  have b1 : blk h c j = q.1 := by
    unfold blk
    have : (h :: c.map Prod.fst) = ((h, 0) :: c).map Prod.fst := rfl
    rw [this, List.getD_eq_getElem?_getD, List.getElem?_map, h1]; rfl
  have b2 : blk h c (j + 1) = q'.1 := by
    unfold blk
    have : (h :: c.map Prod.fst) = ((h, 0) :: c).map Prod.fst := rfl
    rw [this, List.getD_eq_getElem?_getD, List.getElem?_map, h2]; rfl
  obtain ⟨p', h4⟩ := seg_node (j + 1) q' hF.seg h2
  have s2 : r.getD j 0 = q'.2 := by
    have h5 : c[j]? = some q' := by simpa using h2
    rw [← hF.row, List.getD_eq_getElem?_getD, List.getElem?_map, h5]; rfl
  rw [b1, b2, s2]
  exact ⟨h3.next, h4.sym⟩
theorem blk_zero (h : Nat) (c : List (Nat × Nat)) : blk h c 0 = h := rfl

/-- The three stores of bringForward: the chain behind them. -/
theorem seg_bring {W : World} {h : Nat} {A B : List (Nat × Nat)} {x : Nat × Nat} (hs : Seg W none ((h, 0) :: (A ++ x :: B))) (hnd : (h :: (A ++ x :: B).map Prod.fst).Nodup) :
    ∃ p1, W.cell? ⟨blk h (A ++ x :: B) A.length, 1, none⟩ = some (.pointer (some ⟨x.1, 0, none⟩)) ∧ W.cell? ⟨x.1, 1, none⟩ = some (.pointer (hdP B none)) ∧ W.cell? ⟨x.1, 0, none⟩ = some (.int .i64 (x.2 : Int)) ∧
      (blk h (A ++ x :: B) A.length ≠ h → W.cell? ⟨h, 1, none⟩ = some (.pointer p1)) ∧ (blk h (A ++ x :: B) A.length = h → p1 = hdP B none) ∧ x.1 ≠ h ∧ x.1 ≠ blk h (A ++ x :: B) A.length ∧
      W.frozen? ⟨blk h (A ++ x :: B) A.length, 1, none⟩ = false ∧ W.frozen? ⟨x.1, 1, none⟩ = false ∧ W.frozen? ⟨h, 1, none⟩ = false ∧
      blk h (A ++ x :: B) A.length ∈ h :: (A ++ x :: B).map Prod.fst ∧
      Seg (((W.setCell ⟨blk h (A ++ x :: B) A.length, 1, none⟩ (.pointer (hdP B none))).setCell ⟨x.1, 1, none⟩ (.pointer p1)).setCell ⟨h, 1, none⟩ (.pointer (some ⟨x.1, 0, none⟩))) none ((h, 0) :: x :: (A ++ B)) := by
  obtain ⟨hh, hAxB⟩ := hs
  obtain ⟨hA, hx, hBs⟩ := seg_append.1 hAxB
  simp only [List.map_append, List.map_cons, List.nodup_cons, List.nodup_append, List.mem_append, List.mem_cons, not_or] at hnd
  obtain ⟨⟨nA, nx, nB⟩, dA, ⟨nxB, dB⟩, dAB⟩ := hnd
  have hxA : x.1 ∉ A.map Prod.fst := fun hm => dAB x.1 hm x.1 (.inl rfl) rfl
  rcases List.eq_nil_or_concat A with rfl | ⟨A', q, rfl⟩
  · simp only [List.nil_append, List.length_nil, blk_zero] at *
    refine ⟨hdP B none, hh.next, hx.next, hx.sym, fun e => absurd rfl e, fun _ => rfl, fun e => nx e.symm, fun e => nx e.symm, hh.free 1, hx.free 1, hh.free 1, .inl rfl |> List.mem_cons.2, ?_⟩
    refine ⟨((hh.store _).away (by exact nx) _).store _, ((hx.away (fun e => nx e.symm) _).store _).away (fun e => nx e.symm) _, ?_⟩
    exact ((hBs.away (by exact nB) _).away (by exact nxB) _).away (by exact nB) _
  · have hq : blk h (A' ++ [q] ++ x :: B) (A' ++ [q]).length = q.1 := by
      unfold blk
      simp [List.getD_eq_getElem?_getD]
    simp only [List.concat_eq_append] at *
    rw [hq]
    have hqm : q.1 ∈ (A' ++ [q]).map Prod.fst := by simp
    have hqh : q.1 ≠ h := fun e => nA (e ▸ hqm)
    have hqx : q.1 ≠ x.1 := fun e => hxA (e ▸ hqm)
    have hq' : q.1 ∉ A'.map Prod.fst := by
      intro hm
      simp only [List.map_append, List.map_cons, List.map_nil, List.nodup_append, List.mem_singleton] at dA
      exact dA.2.2 _ hm _ rfl rfl
    have hqB : q.1 ∉ B.map Prod.fst := fun hm => dAB q.1 hqm q.1 (.inr hm) rfl
    obtain ⟨hA1, hqN, _⟩ := seg_append.1 hA
    refine ⟨hdP (A' ++ [q] ++ x :: B) none, hqN.next, hx.next, hx.sym, fun _ => hh.next, fun e => absurd e hqh, fun e => nx e.symm, Ne.symm hqx, hqN.free 1, hx.free 1, hh.free 1, List.mem_cons_of_mem _ (by simp), ?_⟩
    have hcl : hdP (A' ++ [q] ++ B) none = hdP (A' ++ [q] ++ x :: B) none := by cases A' <;> rfl
    refine ⟨((hh.away (Ne.symm hqh) _).away nx _).store _, ?_, ?_⟩
    · rw [hcl]
      exact ((hx.away (Ne.symm hqx) _).store _).away (fun e => nx e.symm) _
    · refine seg_append.2 ⟨?_, ?_⟩
      · exact ((hA.last hq' _).away hxA _).away nA _
      · exact ((hBs.away hqB _).away nxB _).away nB _
end Go.Proofs.Ytpdicijoohahaaa
namespace Go.Proofs.Ytpdicijoohahaaa
set_option linter.unusedVariables false
set_option linter.unusedSimpArgs false
open Go.RowKit

set_option maxHeartbeats 1000000 in
set_option maxRecDepth 100000 in
theorem bring_walk (h bb x s : Nat) (pB p1 : Option Addr) (w : World) (c1 : w.cell? ⟨bb, 1, none⟩ = some (.pointer (some ⟨x, 0, none⟩))) (c2 : w.cell? ⟨x, 1, none⟩ = some (.pointer pB)) (c3 : w.cell? ⟨x, 0, none⟩ = some (.int .i64 (s : Int)))
    (c4 : bb ≠ h → w.cell? ⟨h, 1, none⟩ = some (.pointer p1)) (c5 : bb = h → p1 = pB) (hxh : x ≠ h) (hxb : x ≠ bb)
    (f1 : w.frozen? ⟨bb, 1, none⟩ = false) (f2 : w.frozen? ⟨x, 1, none⟩ = false) (f3 : w.frozen? ⟨h, 1, none⟩ = false) :
    Calls Try.prog 99 #[.pointer (some ⟨h, 0, none⟩), .pointer (some ⟨bb, 0, none⟩)] w fun e w' => e = .returned (.int .i64 (s : Int)) ∧
      w' = ((w.setCell ⟨bb, 1, none⟩ (.pointer pB)).setCell ⟨x, 1, none⟩ (.pointer p1)).setCell ⟨h, 1, none⟩ (.pointer (some ⟨x, 0, none⟩)) := by
  by_cases e : bb = h
  · subst e
    obtain rfl := c5 rfl
    go_enter Try.func99, Try.ntmps99
    go_wp2
    go_ret
    exact ⟨rfl, rfl⟩
  · have c6 := c4 e
    have e2 : ¬ h = bb := fun q => e q.symm
    have e3 : ¬ h = x := fun q => hxh q.symm
    have e4 : ¬ bb = x := fun q => hxb q.symm
    go_enter Try.func99, Try.ntmps99
    go_wp2
    go_ret
    exact ⟨rfl, rfl⟩
theorem bringForward_any (base E h k : Nat) (c : List (Nat × Nat)) (r : List Nat) (w : World) (hF : FLc w base E h c r) (hk : k < r.length) :
    Calls Try.prog 99 #[.pointer (some ⟨h, 0, none⟩), .pointer (some ⟨blk h c k, 0, none⟩)] w fun e w' => e = .returned (.int .i64 ((r.getD k 0 : Nat) : Int)) ∧ FL w' base E h (frontL r k) ∧ Mid base E w w' := by
  have hl : c.length = r.length := by rw [← hF.row]; simp
  have hkc : k < c.length := by omega
  obtain ⟨A, x, B, hc, hA⟩ : ∃ A x B, c = A ++ x :: B ∧ A.length = k := ⟨c.take k, c[k], c.drop (k + 1), by rw [← List.drop_eq_getElem_cons hkc, List.take_append_drop], by rw [List.length_take]; omega⟩
  subst hA
  subst hc
  obtain ⟨p1, c1, c2, c3, c4, c5, n1, n2, f1, f2, f3, hm, hs⟩ := seg_bring hF.seg hF.nodup
  have hx2 : r.getD A.length 0 = x.2 := by rw [← hF.row]; simp [List.getD_eq_getElem?_getD]
  rw [hx2]
  refine (bring_walk h _ x.1 x.2 (hdP B none) p1 w c1 c2 c3 c4 c5 n1 n2 f1 f2 f3).mono ?_
  rintro e w' ⟨rfl, rfl⟩
  have hxm : x.1 ∈ h :: (A ++ x :: B).map Prod.fst := by simp
  have hhm : h ∈ h :: (A ++ x :: B).map Prod.fst := List.mem_cons_self ..
  have l1 := hF.lies _ hm
  have l2 := hF.lies _ hxm
  have l3 := hF.lies _ hhm
  refine ⟨rfl, ⟨x :: (A ++ B), ?_, ?_, ?_, hs⟩, (((Mid.refl base E w).store l1.1 l1.2 _).store l2.1 l2.2 _).store l3.1 l3.2 _⟩
  · unfold frontL
    rw [hx2, ← hF.row, eraseIdx_td]
    simp [List.drop_append]
  · have := hF.nodup
    have hp : (h :: (x :: (A ++ B)).map Prod.fst).Perm (h :: (A ++ x :: B).map Prod.fst) := by
      refine List.Perm.cons _ (List.Perm.map _ ?_)
      exact List.perm_middle.symm
    exact hp.nodup_iff.2 this
  · intro b hb
    apply hF.lies
    simp only [List.map_cons, List.map_append, List.mem_cons, List.mem_append] at hb ⊢
    rcases hb with h1 | h1 | h1 | h1
    · exact .inl h1
    · exact .inr (.inr (.inl h1))
    · exact .inr (.inl h1)
    · exact .inr (.inr (.inr h1))
set_option maxHeartbeats 1000000 in
set_option maxRecDepth 100000 in
theorem rankOf_any (base E h n x : Nat) (r : List Nat) (w : World) (hF : FL w base E h r) (hP : PermN n r) (hn : n ≤ 256) (hx : x < n) :
    Calls Try.prog 98 #[.pointer (some ⟨h, 0, none⟩), .int .i64 x] w fun e w' => e = .returned (.int .i64 ((mtfF r x).1 : Int)) ∧ FL w' base E h (mtfF r x).2 ∧ Mid base E w w' := by
  obtain ⟨c, hF⟩ := hF
  have HF := hidden hF
  have HL := hidden hP.len
  have hkn := hP.idx hx
  have HIA := hidden (idx_at r ((hP.mem x).2 hx))
  have HIF := hidden (idx_first r x)
  have HB := hidden (fun k hk => bringForward_any base E h k c r w hF hk)
  have HZ := hidden (blk_zero h c)
  rw [show mtfF r x = (r.idxOf x, frontL r (r.idxOf x)) from rfl]
  obtain ⟨k, hk⟩ : ∃ k, r.idxOf x = k := ⟨_, rfl⟩
  rw [hk] at hkn HIA HIF ⊢
  have HN := hidden hF.node
  clear hF hk
  go_enter Try.func98, Try.ntmps98
  go_wp2
  go_loopw [5, 6] (fun sj sb wr => ∃ j : Nat, j ≤ k ∧ sj = .int .i64 j ∧ sb = .pointer (some ⟨blk h c j, 0, none⟩) ∧ w = wr) (fun sj _ _ => k - (intOf sj).toNat)
  case atStart => exact ⟨0, by omega, rfl, by rw [HZ.out], by first | trivial | rfl⟩
  case round =>
    obtain ⟨j, hj, rfl, rfl, rfl⟩ := hrel
    obtain ⟨d1, d2⟩ := HN.out j (by rw [HL.out]; omega)
    by_cases hlt : j < k
    · have hne := HIF.out j hlt
      obtain ⟨y, hy⟩ : ∃ y, r.getD j 0 = y := ⟨_, rfl⟩
      obtain ⟨b1, hb1⟩ : ∃ b, blk h c (j + 1) = b := ⟨_, rfl⟩
      obtain ⟨b0, hb0⟩ : ∃ b, blk h c j = b := ⟨_, rfl⟩
      rw [hy] at d2 hne
      rw [hb1] at d1 d2
      rw [hb0] at d1 ⊢
      have HB1 := hidden hb1
      have hneI : ((y : Int) != (x : Int)) = true := by rw [bne_iff_ne]; omega
      clear hy hb1 hb0
      go_wp2
      go_roundw
      case rel => exact ⟨j + 1, by omega, by go_num, by rw [HB1.out], by first | trivial | rfl⟩
      case measure => simp [intOf]; omega
    · have hjk : j = k := by omega
      subst hjk
      have KB := hidden (HB.out j (by rw [HL.out]; exact hkn))
      rw [HIA.out] at d2 KB
      obtain ⟨b1, hb1⟩ : ∃ b, blk h c (j + 1) = b := ⟨_, rfl⟩
      obtain ⟨b0, hb0⟩ : ∃ b, blk h c j = b := ⟨_, rfl⟩
      rw [hb1] at d1 d2
      rw [hb0] at d1 KB ⊢
      have hneI : ((x : Int) != (x : Int)) = false := by simp
      clear hb1 hb0
      go_wp2_with fail
      refine KB.out.mono ?_
      rintro e w3 ⟨rfl, hF3, hm3⟩
      go_wp2
      go_ret
      exact ⟨rfl, hF3, hm3⟩
set_option maxHeartbeats 1000000 in
set_option maxRecDepth 100000 in
theorem symbolAt_any (base E h n k : Nat) (r : List Nat) (w : World) (hF : FL w base E h r) (hP : PermN n r) (hn : n ≤ 256) (hkn : k < n) :
    Calls Try.prog 97 #[.pointer (some ⟨h, 0, none⟩), .int .i64 k] w fun e w' => e = .returned (.int .i64 ((umtF r k).1 : Int)) ∧ FL w' base E h (umtF r k).2 ∧ Mid base E w w' := by
  obtain ⟨c, hF⟩ := hF
  have HL := hidden hP.len
  have HB := hidden (bringForward_any base E h k c r w hF (by rw [hP.len]; exact hkn))
  have HZ := hidden (blk_zero h c)
  rw [show umtF r k = (r.getD k 0, frontL r k) from rfl]
  have HN := hidden hF.node
  obtain ⟨y, hy⟩ : ∃ y, r.getD k 0 = y := ⟨_, rfl⟩
  rw [hy] at HB ⊢
  clear hF hy
  go_enter Try.func97, Try.ntmps97
  go_wp2
  go_loopw [5, 10] (fun sb sj wr => ∃ j : Nat, j ≤ k ∧ sj = .int .i64 j ∧ sb = .pointer (some ⟨blk h c j, 0, none⟩) ∧ w = wr) (fun _ sj _ => k - (intOf sj).toNat)
  case atStart => exact ⟨0, by omega, rfl, by rw [HZ.out], by first | trivial | rfl⟩
  case round =>
    obtain ⟨j, hj, rfl, rfl, rfl⟩ := hrel
    by_cases hlt : j < k
    · obtain ⟨d1, _⟩ := HN.out j (by rw [HL.out]; omega)
      obtain ⟨b1, hb1⟩ : ∃ b, blk h c (j + 1) = b := ⟨_, rfl⟩
      obtain ⟨b0, hb0⟩ : ∃ b, blk h c j = b := ⟨_, rfl⟩
      rw [hb1, hb0] at d1
      rw [hb0]
      have HB1 := hidden hb1
      clear hb1 hb0
      go_wp2
      go_roundw
      case rel => exact ⟨j + 1, by omega, by go_num, by rw [HB1.out], by first | trivial | rfl⟩
      case measure => simp [intOf]; omega
    · have hjk : j = k := by omega
      subst hjk
      go_wp2_with fail
      refine HB.out.mono ?_
      rintro e w3 ⟨rfl, hF3, hm3⟩
      go_wp2
      go_ret
      exact ⟨rfl, hF3, hm3⟩
end Go.Proofs.Ytpdicijoohahaaa
namespace Go.Proofs.Ytpdicijoohahaaa
set_option linter.unusedVariables false
set_option linter.unusedSimpArgs false
open Go.RowKit

theorem seg_of {W : World} : ∀ (m : Nat) (f : Nat → Nat × Nat), (∀ i, i < m → Nd W (f i).1 (f i).2 (if i + 1 < m then some ⟨(f (i + 1)).1, 0, none⟩ else none)) → Seg W none ((List.range m).map f)
  | 0, _, _ => trivial
  | m + 1, f, h => by
    rw [List.range_succ_eq_map, List.map_cons, List.map_map]
    refine ⟨?_, seg_of m (f ∘ Nat.succ) (fun i hi => ?_)⟩
    · have := h 0 (by omega)
      cases m with
      | zero => simpa [hdP] using this
      | succ m =>
        rw [if_pos (by omega)] at this
        rw [List.range_succ_eq_map]
        exact this
    · have := h (i + 1) (by omega)
      by_cases h2 : i + 1 < m
      · rw [if_pos (by omega)] at this
        rw [if_pos h2]
        exact this
      · rw [if_neg (by omega)] at this
        rw [if_neg h2]
        exact this
theorem fl_new {W : World} {h n : Nat} (hsz : W.heap.size = h + 1 + n) (hN : ∀ i, i ≤ n → Nd W (h + i) (i - 1) (if i < n then some ⟨h + i + 1, 0, none⟩ else none)) : FL W h W.heap.size h (List.range n) := by
  have e : ((h, 0) :: (List.range n).map fun i => (h + (i + 1), i)) = (List.range (n + 1)).map fun i => (h + i, i - 1) := by
    rw [List.range_succ_eq_map, List.map_cons, List.map_map]
    rfl
  have em : (h :: ((List.range n).map fun i => (h + (i + 1), i)).map Prod.fst) = (List.range (n + 1)).map fun i => h + i := by
    rw [List.range_succ_eq_map, List.map_cons, List.map_map, List.map_map]
    rfl
  refine ⟨(List.range n).map fun i => (h + (i + 1), i), ?_, ?_, ?_, ?_⟩
  · rw [List.map_map]
    conv => rhs; rw [← List.map_id (List.range n)]
    rfl
  · rw [em]
    unfold List.Nodup
    rw [List.pairwise_map]
    refine List.Pairwise.imp ?_ List.nodup_range
    intro a b hab he
    exact hab (by omega)
  · rw [em]
    intro b hb
    obtain ⟨i, hi, rfl⟩ := List.mem_map.1 hb
    have := List.mem_range.1 hi
    omega
  · rw [e]
    refine seg_of (n + 1) _ fun i hi => ?_
    have := hN i (by omega)
    by_cases h2 : i < n
    · rw [if_pos h2] at this
      rw [if_pos (by omega)]
      exact this
    · rw [if_neg h2] at this
      rw [if_neg (by omega)]
      exact this
set_option maxHeartbeats 1000000 in
set_option maxRecDepth 100000 in
theorem frontListOf_any (n : Nat) (w : World) (hn : n ≤ 256) :
    Calls Try.prog 96 #[.int .i64 n] w fun e w' => e = .returned (.pointer (some ⟨w.heap.size, 0, none⟩)) ∧ FL w' w.heap.size w'.heap.size w.heap.size (List.range n) ∧ Below w.heap.size w w' := by
  have hH := Has.fresh w 112 #[.int .i64 0, .pointer none]
  have hb0 : Below w.heap.size w (w.alloc (.cells #[.int .i64 0, .pointer none] 112)) := (Below.refl _ _).alloc (Nat.le_refl _) _
  have HH0 : Hid (∀ i, i ≤ 0 → Nd (w.alloc (.cells #[.int .i64 0, .pointer none] 112)) (w.heap.size + i) (i - 1) (if i < 0 then some ⟨w.heap.size + i + 1, 0, none⟩ else none)) := hidden (by
    intro i hi
    have h0 : i = 0 := by omega
    subst h0
    exact ⟨_, hH⟩)
  go_enter Try.func96, Try.ntmps96
  go_wp2
  go_loopw [4, 5, 12] (fun sl _ sk wr => ∃ k : Nat, k ≤ n ∧ sk = .int .i64 k ∧ sl = .pointer (some ⟨w.heap.size + k, 0, none⟩) ∧ Hid (wr.heap.size = w.heap.size + 1 + k) ∧ Hid (∀ i, i ≤ k → Nd wr (w.heap.size + i) (i - 1) (if i < k then some ⟨w.heap.size + i + 1, 0, none⟩ else none)) ∧ Below w.heap.size w wr) (fun _ _ sk _ => n - (intOf sk).toNat)
  case atStart => exact ⟨0, by omega, rfl, rfl, hidden (by simp), HH0, hb0⟩
  case round =>
    obtain ⟨k, hk, rfl, rfl, HS, HN, hbl⟩ := hrel
    clear hH hb0
    by_cases hlt : k < n
    · have hl := HN.out k (Nat.le_refl _)
      rw [if_neg (by omega)] at hl
      have d1 := hl.next
      have f1 := hl.free 1
      obtain ⟨lb, hlb⟩ : ∃ lb, w.heap.size + k = lb := ⟨_, rfl⟩
      have HLB := hidden hlb
      rw [hlb] at d1 f1 ⊢
      have hll : lb < wr.heap.size := by have := HS.out; omega
      have hN2 : Hid (∀ i, i ≤ k + 1 → Nd ((wr.setCell ⟨lb, 1, none⟩ (.pointer (some ⟨wr.heap.size, 0, none⟩))).alloc (.cells #[.int .i64 (k : Int), .pointer none] 110)) (w.heap.size + i) (i - 1) (if i < k + 1 then some ⟨w.heap.size + i + 1, 0, none⟩ else none)) := hidden (by
        intro i hi
        by_cases h1 : i = k + 1
        · subst h1
          rw [if_neg (by omega)]
          exact ⟨110, Has.freshAt (by have := HS.out; simp; omega) _ _⟩
        · have hN1 := HN.out i (by omega)
          by_cases h2 : i = k
          · subst h2
            rw [if_pos (by omega)]
            have := hN1.store (some ⟨wr.heap.size, 0, none⟩)
            rw [HLB.out] at this ⊢
            rw [show lb + 1 = wr.heap.size by have := HS.out; have := HLB.out; omega]
            exact this.keep (Below.heap_alloc _ _ _ this.lt)
          · rw [if_pos (by omega)] at hN1 ⊢
            have := hN1.away (a := ⟨lb, 1, none⟩) (by have := HLB.out; simp; omega) (.pointer (some ⟨wr.heap.size, 0, none⟩))
            exact this.keep (Below.heap_alloc _ _ _ this.lt))
      have hb2 : Below w.heap.size w ((wr.setCell ⟨lb, 1, none⟩ (.pointer (some ⟨wr.heap.size, 0, none⟩))).alloc (.cells #[.int .i64 (k : Int), .pointer none] 110)) := (hbl.setCell (by have := HLB.out; simp; omega) _).alloc (by simpa using hbl.size) _
      clear hl hlb
      go_wp2
      go_roundw
      case rel => exact ⟨k + 1, by omega, by go_num, by rw [HS.out, Nat.add_right_comm, Nat.add_assoc], hidden (by simp; have := HS.out; omega), hN2, hb2⟩
      case measure => simp [intOf]; omega
    · have hkn : k = n := by omega
      subst hkn
      have HF := hidden (fl_new HS.out HN.out)
      go_wp2
      go_ret
      exact ⟨rfl, HF.out, hbl⟩
set_option maxHeartbeats 1000000 in
set_option maxRecDepth 100000 in
theorem each_any {σ : Type} (N : Nat) (p : Value) (St : World → σ → Prop) (f : σ → Nat → Nat × σ) (base E B : Nat) (a : Option Addr) (cap : Nat) (L : List Nat) (w : World) (s0 : σ)
    (hz : Ints w B a (ints L)) (hB : B ≤ base) (hbE : base ≤ E) (hE : E ≤ w.heap.size) (hL6 : L.length ≤ 600) (h0 : St w s0)
    (hcf : ∀ (args : Array Value) (W : World), (callFunc N args).run Try.prog W = .ok (.enter N args) W)
    (hkeep : ∀ (W W' : World) (s : σ), St W s → (∀ i, base ≤ i → i < E → W'.heap[i]? = W.heap[i]?) → St W' s)
    (hnext : ∀ (W : World) (s : σ) (x : Nat), St W s → x ∈ L → Calls Try.prog N #[p, .int .i64 (x : Int)] W fun e W' => e = .returned (.int .i64 ((f s x).1 : Int)) ∧ St W' (f s x).2 ∧ Mid base E W W') :
    Calls Try.prog 95 #[.slice a L.length cap, .func (.func N) #[p] #[]] w fun e w' => ∃ g, e = .returned (.slice (some ⟨g, 0, none⟩) L.length L.length) ∧ w'.ownsRow w.heap.size 3 1 (.slice (some ⟨g, 0, none⟩) L.length L.length) L.length (natsL (runF f s0 L)) ∧ Below base w w' := by
  obtain ⟨j0, ji, jz0, jz1, jz2⟩ := info_parts Try.infoInt
  have HZ := hidden hz
  have HK := hidden hkeep
  have HX := hidden hnext
  have H0 := hidden h0
  obtain ⟨A, hA⟩ : ∃ A, runF f s0 L = A := ⟨_, rfl⟩
  have HA := hidden hA
  rw [hA]
  obtain ⟨n, hn⟩ : ∃ n, L.length = n := ⟨_, rfl⟩
  have HN := hidden hn
  rw [hn] at hL6 ⊢
  clear hz hA hn hkeep hnext h0
  go_enter Try.func95, Try.ntmps95
  go_wp2_with (at_make; refine wpList_make_full _ rfl _ _ 22 rfl w.heap.size 3 j0 (.int .i64 0) 1 Try.underlying22 ji jz0 jz1 .i64 .i64 _ _ n rfl rfl rfl rfl ?cb1 ?cb2 ?cb3 ?_)
  case cb1 => rw [jz2]; omega
  case cb2 => unfold maxLen; omega
  case cb3 => exact Nat.le_refl _
  intro w2 hown hgrow
  have hb2 := bel_made hgrow
  rw [made_nats] at hown
  have H2 := hidden (HK.out _ w2 s0 H0.out (fun i _ hi => hb2.block i (by omega)))
  have hbb : Below base w w2 := hb2.mono (by omega)
  clear hgrow hb2
  go_wp2
  go_loopw [6, 7, 13] (fun _ _ sk wr => ∃ (k : Nat) (s : σ) (D : List Nat) (F : Nat → Nat), k ≤ n ∧ sk = .int .i64 k ∧ Hid (A = D ++ runF f s (L.drop k)) ∧ Hid (D.length = k ∧ ∀ j, j < k → F j = D.getD j 0) ∧ Hid (St wr s) ∧ wr.ownsRow w.heap.size 3 1 (.slice (some ⟨w.heap.size, 0, none⟩) n n) n (nats n F) ∧ Below base w wr) (fun _ _ sk _ => n - (intOf sk).toNat)
  case atStart => exact ⟨0, s0, [], fun _ => 0, by omega, rfl, hidden (by rw [← HA.out]; rfl), hidden ⟨rfl, fun j hj => by omega⟩, H2, hown, hbb⟩
  case round =>
    obtain ⟨k, s, D, F, hk, rfl, HD, HF, HSt, hownF, hblF⟩ := hrel
    clear hown hbb
    have hsz := hblF.size
    by_cases hlt : k < n
    · obtain ⟨b, off, rfl, hb, hc⟩ := (HZ.out.below (hblF.mono hB)).2.2 (by rw [ints_len, HN.out]; omega)
      have ck := ints_cell (B := B) hc k (by rw [HN.out]; exact hlt)
      have HM := hidden (getD_mem7 L k (by rw [HN.out]; exact hlt))
      have HDR := hidden (drop_cons L k (by rw [HN.out]; exact hlt))
      obtain ⟨x, hx⟩ : ∃ x, L.getD k 0 = x := ⟨_, rfl⟩
      rw [hx] at ck HM HDR
      have KX := hidden (HX.out wr s x HSt.out HM.out)
      have HS2 : Hid (A = (D ++ [(f s x).1]) ++ runF f (f s x).2 (L.drop (k + 1))) := hidden (by rw [HD.out, HDR.out, runF, List.append_assoc]; rfl)
      obtain ⟨y, hy⟩ : ∃ y, (f s x).1 = y := ⟨_, rfl⟩
      obtain ⟨s2, hs2⟩ : ∃ s2, (f s x).2 = s2 := ⟨_, rfl⟩
      rw [hy, hs2] at KX HS2
      have HO := hidden hownF
      clear hx hc hy hs2 hownF
      go_wp2_with fail
      refine KX.out.mono ?_
      rintro e w3 ⟨rfl, hSt3, hm3⟩
      have hO3 := hm3.own HO.out hE
      have hb3 : Below base w w3 := hblF.trans (hm3.below (by omega))
      have HSt3 := hidden hSt3
      have d0 := hO3.cellAt k (by omega)
      rw [nats_get _ _ _ hlt] at d0
      have f0 := hO3.frozenAt k
      have hHN : Hid (w3.heap.size = w3.heap.size) := hidden rfl
      clear hSt3 hm3 hblF
      go_wp2
      go_roundw
      case rel => exact ⟨k + 1, s2, D ++ [y], fun t => if t = k then y else F t, by omega, by go_num, HS2, hidden ⟨by simp [HF.out.1], fun j hj => by
          by_cases e : j = k
          · show (if j = k then y else F j) = _
            rw [if_pos e, e]; simp [List.getD_eq_getElem?_getD, HF.out.1]
          · show (if j = k then y else F j) = _
            rw [if_neg e, HF.out.2 j (by omega)]; simp [List.getD_eq_getElem?_getD, List.getElem?_append_left (show j < D.length by rw [HF.out.1]; omega)]⟩, hidden (HK.out _ _ s2 HSt3.out (fun i _ hi => Below.heap_setCell _ _ _ i (by simp; omega))), by rw [← nats_set]; exact (hO3.stored k _).1, hb3.setCell (by simp; omega) _⟩
      case measure => simp [intOf]; omega
    · have hkn : k = n := by omega
      subst hkn
      have HE : Hid (nats k F = natsL A) := hidden (by
        rw [natsL_nats]
        have e : A = D := by rw [HD.out, ← HN.out, List.drop_length, runF, List.append_nil]
        rw [e, HF.out.1]
        exact nats_congr fun j hj => HF.out.2 j hj)
      go_wp2
      go_ret
      exact ⟨_, rfl, by rw [← HE.out]; exact hownF, hblF⟩
end Go.Proofs.Ytpdicijoohahaaa
namespace Go.Proofs.Ytpdicijoohahaaa
set_option linter.unusedVariables false
set_option linter.unusedSimpArgs false
open Go.RowKit

set_option maxHeartbeats 2000000 in
set_option maxRecDepth 100000 in
theorem specUnInv_no (a0 a1 : Option Addr) (cap0 cap1 B : Nat) (z gz : List Int) (n : Int) (w : World) (hz0 : Ints w B a0 z) (hl0 : z.length ≤ 1048576) (hl1 : gz.length ≤ 1048576) (n1 : -9223372036854775808 ≤ n) (n2 : n ≤ 9223372036854775807) (hsz : szOk z gz.length n = false) :
    Calls Try.prog 13 #[.slice a0 z.length cap0, .slice a1 gz.length cap1, .int .i64 n] w fun e w' => e = .returned (.tuple #[.slice none 0 0, .bool false]) ∧ w = w' := by
  by_cases h1 : n < 1
  · clear hsz hz0
    go_enter Try.func13, Try.ntmps13
    go_wp2
    go_ret2
    exact ⟨rfl, rfl⟩
  by_cases h2 : (256 : Int) < n
  · clear hsz hz0
    go_enter Try.func13, Try.ntmps13
    go_wp2
    go_ret2
    exact ⟨rfl, rfl⟩
  by_cases h3 : (z.length : Int) = n
  · have KT := hidden (l8total_any a0 cap0 B z w hz0 hl0)
    obtain ⟨b, off, rfl, hb, hc⟩ := hz0.2.2 (by omega)
    have cp := hc (z.length - 1) (by omega)
    have hno : ¬ (0 ≤ totI (totF z 0) ∧ (gz.length : Int) = totI (totF z 0) - z.getD (z.length - 1) 0) := fun h => by
      have := (szOk_iff z gz.length n).2 ⟨by omega, by omega, h3, h.1, h.2⟩
      rw [this] at hsz; cases hsz
    have hrg : 0 ≤ totI (totF z 0) → 0 ≤ z.getD (z.length - 1) 0 ∧ z.getD (z.length - 1) 0 ≤ 600 ∧ totI (totF z 0) ≤ 600 := fun h => by
      cases ht : totF z 0 with
      | none => rw [ht] at h; simp [totI] at h
      | some t =>
        have := totF_some ht _ (getD_mem (zs := z) (k := z.length - 1) (by omega))
        have h5 := (totF_sum (by omega) ht).2.1
        simp only [totI]
        omega
    obtain ⟨y, hy⟩ : ∃ y, z.getD (z.length - 1) 0 = y := ⟨_, rfl⟩
    obtain ⟨t, ht⟩ : ∃ t, totI (totF z 0) = t := ⟨_, rfl⟩
    obtain ⟨G, hG⟩ : ∃ G, gz.length = G := ⟨_, rfl⟩
    obtain ⟨m, hm⟩ : ∃ m, z.length = m := ⟨_, rfl⟩
    rw [hy] at cp hno hrg
    rw [ht] at hno hrg KT
    rw [hG] at hno hl1 ⊢
    rw [hm] at cp h3 hl0 KT ⊢
    subst h3
    obtain ⟨p, hp⟩ : ∃ p : Nat, (m : Int) - 1 = (p : Int) := ⟨m - 1, by omega⟩
    have hp2 : m - 1 = p := by omega
    rw [hp2] at cp
    have hp3 : (p : Int) < (m : Int) := by omega
    clear hsz hz0 hc hy ht hG hm hp2
    by_cases ht0 : t < 0
    · clear hno hrg
      go_enter Try.func13, Try.ntmps13
      go_wp2_with fail
      refine KT.out.mono ?_
      rintro e w1 ⟨rfl, rfl⟩
      go_wp2
      go_ret2
      exact ⟨rfl, rfl⟩
    · obtain ⟨r1, r2, r3⟩ := hrg (by omega)
      have hne : (G : Int) ≠ t - y := fun h => hno ⟨by omega, h⟩
      have hbn : ((G : Int) != t - y) = true := by simpa using hne
      clear hno
      go_enter Try.func13, Try.ntmps13
      go_wp2_with fail
      refine KT.out.mono ?_
      rintro e w1 ⟨rfl, rfl⟩
      go_wp2
      go_ret2
      exact ⟨rfl, rfl⟩
  · obtain ⟨m, hm⟩ : ∃ m, z.length = m := ⟨_, rfl⟩
    rw [hm] at h3 hl0 ⊢
    have hbn : ((m : Int) != n) = true := by simpa using h3
    clear hsz hz0 hm
    go_enter Try.func13, Try.ntmps13
    go_wp2
    go_ret2
    exact ⟨rfl, rfl⟩
theorem specUnInv_any (a0 a1 : Option Addr) (cap0 cap1 B : Nat) (z gz : List Int) (n : Int) (w : World) (hz0 : Ints w B a0 z) (hz1 : Ints w B a1 gz) (hB : B ≤ w.heap.size) (hl0 : z.length ≤ 1048576) (hl1 : gz.length ≤ 1048576) (n1 : -9223372036854775808 ≤ n) (n2 : n ≤ 9223372036854775807) :
    Calls Try.prog 13 #[.slice a0 z.length cap0, .slice a1 gz.length cap1, .int .i64 n] w fun e w' => ∃ v, e = .returned (.tuple #[v, .bool (uiOk z gz n)]) ∧ w'.ownsRow w.heap.size 3 1 v (uiL z gz n).length (intsV (uiL z gz n)) ∧ Below w.heap.size w w' := by
  by_cases h : szOk z gz.length n = true
  · obtain ⟨cs, m, rfl, rfl, e1, e2, e3, e4, e5, e6⟩ := szOk_nats h
    obtain ⟨b, off, rfl, hb, hc⟩ := hz0.2.2 (by rw [ints_len]; omega)
    have := specUnInv_go b off cap0 0 0 cap1 B m a1 cs gz w hz0 hz1 hB e1 e2 e3 e4 e5 h e6
    rw [ints_len, e1]
    exact this
  · have hno := bool_false h
    have hu := ui_none (uiA_no hno)
    refine (specUnInv_no a0 a1 cap0 cap1 B z gz n w hz0 hl0 hl1 n1 n2 hno).mono ?_
    rintro e w' ⟨rfl, rfl⟩
    exact ⟨_, by rw [hu.1], by rw [hu.2]; exact World.ownsRow_nil _ _ _ _, Below.refl _ _⟩
end Go.Proofs.Ytpdicijoohahaaa
