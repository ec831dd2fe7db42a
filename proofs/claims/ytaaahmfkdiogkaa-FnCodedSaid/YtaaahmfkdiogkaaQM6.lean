/- Merged: Row. -/
import Derived.Test.YtaaahmfkdiogkaaQM4
import Derived.ArgAppend
import Derived.Laws.IdiomStrings
import Derived.Maps.AppendAt
namespace Go.Proofs.Ytaaahmfkdiogkaa
set_option linter.unusedVariables false
set_option linter.unusedSimpArgs false
open Go.RowKit

def Row (w : World) (base : Nat) (E : TypeId) (v : Value) (n : Nat) (xs : List Value) : Prop :=
  ∃ (g cap : Nat) (cur : Array Value) (fr : Nat × Nat), v = .slice (some ⟨g, 0, none⟩) n cap ∧ base ≤ g ∧ w.heap[g]? = some (.cells cur E fr) ∧ (fr = (0, 0) ∨ cur.size ≤ fr.1) ∧ n ≤ cap ∧ cap ≤ cur.size ∧ cap ≤ maxLen ∧ xs.length = n ∧ cur.toList.take n = xs
section
variable {w w' : World} {base g cap n : Nat} {E : TypeId} {v : Value} {xs : List Value}
theorem Row.form (h : Row w base E v n xs) : ∃ g cap, v = .slice (some ⟨g, 0, none⟩) n cap ∧ base ≤ g ∧ g < w.heap.size ∧ n ≤ cap := by
  obtain ⟨g, cap, cur, fr, rfl, hb, hh, _, hn, _⟩ := h
  refine ⟨g, cap, rfl, hb, ?_, hn⟩
  rcases Nat.lt_or_ge g w.heap.size with hl | hl
  · exact hl
  · rw [Array.getElem?_eq_none hl] at hh; cases hh
theorem Row.len (h : Row w base E v n xs) : xs.length = n := by obtain ⟨_, _, _, _, _, _, _, _, _, _, _, hl, _⟩ := h; exact hl
theorem Row.cell (h : Row w base E (.slice (some ⟨g, 0, none⟩) n cap) n xs) (j : Nat) (u : Value) (hu : xs[j]? = some u) : w.cell? ⟨g, j, none⟩ = some u := by
  obtain ⟨g', cap', cur, fr, hv, hb, hh, hfr, hn, hc, _, hl, ht⟩ := h
  simp only [Value.slice.injEq, Option.some.injEq, Addr.mk.injEq, and_true, true_and] at hv
  obtain ⟨rfl, rfl⟩ := hv
  rw [cell_of_row w g j cur E fr hh]
  subst ht
  rw [List.getElem?_take] at hu
  split at hu
  · simpa using hu
  · cases hu
theorem Row.free (h : Row w base E (.slice (some ⟨g, 0, none⟩) n cap) n xs) (j : Nat) (hj : j < cap) : w.frozen? ⟨g, j, none⟩ = false := by
  obtain ⟨g', cap', cur, fr, hv, hb, hh, hfr, hn, hc, _, hl, ht⟩ := h
  simp only [Value.slice.injEq, Option.some.injEq, Addr.mk.injEq, and_true, true_and] at hv
  obtain ⟨rfl, rfl⟩ := hv
  unfold World.frozen?
  rw [hh]
  rcases hfr with rfl | h
  · simp
  · have : ¬ fr.1 ≤ j := by omega
    simp [this]
theorem Row.there (h : Row w base E (.slice (some ⟨g, 0, none⟩) n cap) n xs) (j : Nat) (hj : j < cap) : (w.cell? ⟨g, j, none⟩).isSome = true := by
  obtain ⟨g', cap', cur, fr, hv, hb, hh, hfr, hn, hc, _, hl, ht⟩ := h
  simp only [Value.slice.injEq, Option.some.injEq, Addr.mk.injEq, and_true, true_and] at hv
  obtain ⟨rfl, rfl⟩ := hv
  rw [cell_of_row w g j cur E fr hh]
  simp [show j < cur.size by omega]
theorem Row.keep (h : Row w base E v n xs) (hk : ∀ g, v.ownBlock = some g → w'.heap[g]? = w.heap[g]?) : Row w' base E v n xs := by
  obtain ⟨g, cap, cur, fr, rfl, hb, hh, hr⟩ := h
  exact ⟨g, cap, cur, fr, rfl, hb, (hk g rfl).trans hh, hr⟩
theorem Row.lt (h : Row w base E v n xs) : ∀ g, v.ownBlock = some g → base ≤ g ∧ g < w.heap.size := by
  obtain ⟨g, cap, rfl, hb, hl, _⟩ := h.form
  intro g' hg
  simp only [Value.ownBlock, Option.some.injEq] at hg
  omega
theorem Row.below {B : Nat} (h : Row w base E v n xs) (hb : Below B w w') (hB : ∀ g, v.ownBlock = some g → g < B) : Row w' base E v n xs := h.keep fun g hg => hb.block g (hB g hg)
theorem Row.belowAll (h : Row w base E v n xs) (hb : Below w.heap.size w w') : Row w' base E v n xs := h.below hb fun g hg => (h.lt g hg).2
theorem Row.alloc (h : Row w base E v n xs) (o : Obj) : Row (w.alloc o) base E v n xs := h.keep fun g hg => Below.heap_alloc w o g (h.lt g hg).2
theorem Row.drew (h : Row w base E v n xs) : Row w.drew base E v n xs := h
theorem Row.drewN (h : Row w base E v n xs) (k : Nat) : Row (w.drewN k) base E v n xs := h
theorem Row.storeAway (h : Row w base E v n xs) {p : Addr} (hp : v.ownBlock ≠ some p.block) (u : Value) : Row (w.setCell p u) base E v n xs :=
  h.keep fun g hg => Below.heap_setCell w p u g (fun e => hp (by rw [hg, e]))
theorem Row.store (h : Row w base E (.slice (some ⟨g, 0, none⟩) n cap) n xs) (j : Nat) (u : Value) : Row (w.setCell ⟨g, j, none⟩ u) base E (.slice (some ⟨g, 0, none⟩) n cap) n (xs.set j u) := by
  obtain ⟨g', cap', cur, fr, hv, hb, hh, hfr, hn, hc, hm, hl, ht⟩ := h
  simp only [Value.slice.injEq, Option.some.injEq, Addr.mk.injEq, and_true, true_and] at hv
  obtain ⟨rfl, rfl⟩ := hv
  refine ⟨g, cap, cur.setIfInBounds j u, fr, rfl, hb, ?_, by simpa using hfr, hn, by simpa using hc, hm, by simpa using hl, ?_⟩
  · simp [World.setCell, Array.getElem?_modify, hh]
  · rw [← ht]; simp [List.take_set]
theorem Row.mono {base' : Nat} (h : Row w base E v n xs) (hb : base' ≤ base) : Row w base' E v n xs := by
  obtain ⟨g, cap, cur, fr, hv, h1, hr⟩ := h
  exact ⟨g, cap, cur, fr, hv, Nat.le_trans hb h1, hr⟩
theorem Row.ofOwn (h : w.ownsRow base E 1 v n xs) (hn : 0 < n) : Row w base E v n xs := by
  rcases h.2 with ⟨_, h0⟩ | ⟨g, cap, cur, rfl, hb, hh, hnc, hm, hs, ht⟩
  · omega
  · have hl := h.1
    rw [Nat.mul_one] at hl hs ht
    exact ⟨g, cap, cur, (0, 0), rfl, hb, hh, .inl rfl, hnc, by omega, hm, hl, ht⟩
theorem Row.grow (h : Row w base E (.slice (some ⟨g, 0, none⟩) n cap) n xs) (hr : n + 1 ≤ cap) (u : Value) : Row (w.setCell ⟨g, n, none⟩ u) base E (.slice (some ⟨g, 0, none⟩) (n + 1) cap) (n + 1) (xs ++ [u]) := by
  obtain ⟨g', cap', cur, fr, hv, hb, hh, hfr, hn, hc, hm, hl, ht⟩ := h
  simp only [Value.slice.injEq, Option.some.injEq, Addr.mk.injEq, and_true, true_and] at hv
  obtain ⟨rfl, rfl⟩ := hv
  refine ⟨g, cap, cur.setIfInBounds n u, fr, rfl, hb, ?_, by simpa using hfr, hr, by simpa using hc, hm, by simp [hl], ?_⟩
  · simp [World.setCell, Array.getElem?_modify, hh]
  · rw [← ht]
    have hn' : n < cur.size := by omega
    apply List.ext_getElem (by simp; omega)
    intro j h1 h2
    simp only [List.length_take, Array.length_toList, Array.size_setIfInBounds] at h1
    by_cases hj : j < n
    · simp [List.getElem_append, hj, show n ≠ j by omega, Array.getElem_setIfInBounds, show j < cur.size by omega, show min n cur.size = n by omega]
    · obtain rfl : j = n := by omega
      simp [List.getElem_append, hn', show min j cur.size = j by omega]

theorem Row.neHas {T : TypeId} {cs : Array Value} {b : Nat} (h : Row w base E v n xs) (hb : Has w b T cs) (hT : E ≠ T) : v.ownBlock ≠ some b := by
  obtain ⟨g, cap, cur, fr, rfl, _, hh, _⟩ := h
  intro he
  simp only [Value.ownBlock, Option.some.injEq] at he
  subst he
  unfold Has at hb
  rw [hh] at hb
  injection hb with hb
  injection hb with _ h2
  exact hT h2

/-- '[]byte(s)'. -/
theorem Row.ofString (w : World) (E : TypeId) (s : ByteArray) (hs : s.size ≤ maxLen) :
    Row (w.alloc (.cells (bytesRow s (grownCap w s.size 0 E)) E ((bytesRow s (grownCap w s.size 0 E)).size, (bytesRow s (grownCap w s.size 0 E)).size + 1))) w.heap.size E
      (.slice (some ⟨w.heap.size, 0, none⟩) s.size (grownCap w s.size 0 E)) s.size (u8s (bytesOf s)) := by
  have hge := grownCap_ge w s.size 0 E
  have hsz : (bytesRow s (grownCap w s.size 0 E)).size = grownCap w s.size 0 E := by
    unfold bytesRow; rw [Array.size_append, Array.size_map, Array.size_replicate]; show s.size + _ = _; omega
  refine ⟨w.heap.size, _, _, _, rfl, Nat.le_refl _, heap_alloc_new w _, .inr (Nat.le_refl _), hge, by rw [hsz]; exact Nat.le_refl _, grownCap_le_maxLen w s.size 0 E hs, by rw [u8s_len, bytesOf_len], ?_⟩
  have hl : (s.data.toList).length = s.size := by simp
  unfold bytesRow u8s bytesOf
  rw [Array.toList_append, Array.toList_map, List.take_append_of_le_length (by simp), List.take_of_length_le (by simp), List.map_map]
  rfl
theorem run_string_row {P : Program} {D : List Nat} {src dst : TypeId} (hs : P.underlying src = some (.slice E)) (he : P.underlying E = some (.int .u8)) (hd : P.underlying dst = some .string)
    (h : Row w base E v n (u8s D)) : (convert src dst v).run P w = .ok (.string (strOf D)) w := by
  have hn : D.length = n := by have := h.len; rwa [u8s_len] at this
  obtain ⟨g, cap, rfl, _⟩ := h.form
  rw [run_convert_bytes_string w src dst E _ _ _ hs he hd]
  have hl := run_loadCells_list (P := P) (w := w) ⟨g, 0, none⟩ (u8s D) (fun j u hu => by
    have := h.cell j u hu
    unfold Addr.add
    split
    · rename_i h0; rw [h0] at this; exact this
    · simpa using this)
  rw [u8s_len, hn] at hl
  have e1 : (u8s D).toArray = ((D.map fun (b : Nat) => (b : Int)).map (Value.int .u8)).toArray := by simp [u8s]
  rw [e1] at hl
  rw [run_bytesToString w ⟨g, 0, none⟩ n cap _ hl]
  congr 2
  rw [List.foldl_map]
  simp only [Int.toNat_natCast]
  rw [fold_push]
  simp [strOf]
end

/-- append of one byte. -/
theorem wpList_row_append {P : Program} (w : World) {ops : Array Oper} {rest : List Oper} {o : Oper} {a : Act} {Q : Exit → Act → World → Prop}
    (hg : o.guard = none) (s x : Operand) (t : TypeId) (hop : o.op = Op.call { callee := Callee.builtin Builtin.append, args := #[s, x], argTypes := #[t, t] })
    (E : TypeId) (i : TypeInfo) (h1 : P.underlying t = some (.slice E)) (h2 : P.info? E = some i) (h3 : i.zero = some (.int .u8 0)) (h4 : i.size = 1) (h5 : i.bytes = 1)
    (v : Value) (n base : Nat) (xs : List Value) (hs : a.eval s = v) (hrow : Row w base E v n xs)
    (ad : Addr) (c : Nat) (u : Value) (hx : a.eval x = .slice (some ad) 1 c) (hc : w.cell? ad = some u) (h1c : u.oneCell' = true)
    (b1 : n + 1 ≤ 140737488351232) (hbase : base ≤ w.heap.size)
    (hK : ∀ v' w', Row w' base E v' (n + 1) (xs ++ [u]) → w.grownBy w' v.ownBlock → wpList P ops Q rest (a.put o.dst v') w') :
    wpList P ops Q (o :: rest) a w := by
  obtain ⟨g, cap, rfl, hb, hlt, hnc⟩ := hrow.form
  have hl := hrow.len
  refine wpList_append_arg w hg s x t hop E i (.int .u8 0) 1 1 h1 h2 h3 h4 h5 rfl (by decide) g 0 n cap xs hs (by omega) (fun j u hu => by rw [Nat.zero_add]; exact hrow.cell j u hu)
    ad 1 c [u] hx rfl (fun j u' hu => by
      match j, hu with
      | 0, hu => simp at hu; subst hu; simpa [Addr.add] using hc) (by simpa using h1c)
    (fun hr j hj => by
      have : j = 0 := by simpa using hj
      subst this
      simp only [Nat.zero_add, Nat.mul_one, Nat.add_zero]
      exact ⟨hrow.there n (by omega), hrow.free n (by omega)⟩) (by unfold maxLen; omega) (by omega) ?_ ?_
  · intro hr
    have := hK _ _ (hrow.grow hr u) ⟨rfl, rfl, rfl, by simp [World.setCell], fun i hi hne => Below.heap_setCell w _ u i (by intro e; exact hne (by rw [e]; rfl))⟩
    simpa [World.setCells] using this
  · intro hr v' w' hown hgr
    exact hK v' w' ((Row.ofOwn hown (by omega)).mono hbase) ⟨hgr.os, hgr.tape, hgr.output, hgr.size, fun i hi _ => hgr.block i hi (by simp)⟩
end Go.Proofs.Ytaaahmfkdiogkaa
