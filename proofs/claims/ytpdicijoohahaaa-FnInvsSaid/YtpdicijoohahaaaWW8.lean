/- Merged: Ins, Inw. -/
import Derived.Test.YtpdicijoohahaaaWW3
import Derived.Shelf.Spec.SlicesInsert
import Derived.Shelf.Spec.SlicesInsertGrow
import Derived.Lib.LazyBuf
import Derived.Laws.OwnMore
namespace Go.Proofs.Ytpdicijoohahaaa
set_option linter.unusedVariables false
set_option linter.unusedSimpArgs false
open Go.RowKit Go.Shelf

def rhoIns : Ren := ⟨fun n => match n with | 21 => 86 | 27 => 89 | 28 => 90 | 35 => 91 | 39 => 92 | n => n,
  fun n => match n with | 0 => 0 | 3 => 3 | 4 => 4 | 22 => 22 | n => n, fun n => n⟩
set_option maxRecDepth 100000 in
theorem laysIns : Lays2.n21 Try.prog rhoIns where
  mixed := by kernel_rfl
  f21 := by kernel_rfl
  f27 := by kernel_rfl
  f28 := by kernel_rfl
  f35 := by kernel_rfl
  f39 := by kernel_rfl
  t0 := by kernel_rfl
  a0 := fun w => by kernel_rfl
  z0 := fun w => by kernel_rfl
  v0 := fun w => by kernel_rfl
  t3 := by kernel_rfl
  a3 := fun w => by kernel_rfl
  z3 := fun w => by kernel_rfl
  v3 := fun w => by kernel_rfl
  t4 := by kernel_rfl
  a4 := fun w => by kernel_rfl
  z4 := fun w => by kernel_rfl
  v4 := fun w => by kernel_rfl
  t22 := by kernel_rfl
  a22 := fun w => by kernel_rfl
  z22 := fun w => by kernel_rfl
  v22 := fun w => by kernel_rfl
  i3 := by kernel_rfl
end Go.Proofs.Ytpdicijoohahaaa
namespace Go.Proofs.Ytpdicijoohahaaa
set_option linter.unusedVariables false
set_option linter.unusedSimpArgs false
open Go.RowKit Go.Shelf

theorem own_row8 {w : World} {base g n c : Nat} {e : TypeId} {xs : List Value} (h : w.ownsRow base e 1 (.slice (some ⟨g, 0, none⟩) n c) n xs) :
    base ≤ g ∧ n ≤ c ∧ c ≤ maxLen ∧ xs.length = n ∧ ∃ f : Nat → Value, w.rowIs g e c f ∧ ∀ j, j < n → xs[j]? = some (f j) := by
  rcases h.2 with ⟨h', _⟩ | ⟨g', cap', cur, h', hb, hh, hnc, hcm, hcs, htk⟩
  · simp at h'
  · simp only [Value.slice.injEq, Option.some.injEq, Addr.mk.injEq, and_true, true_and] at h'
    obtain ⟨rfl, rfl⟩ := h'
    have hl := h.1
    rw [Nat.mul_one] at hl hcs htk
    refine ⟨hb, hnc, hcm, hl, fun j => cur[j]?.getD default, ⟨cur, hh, hcs, fun i hi => ?_⟩, fun j hj => ?_⟩
    · have : i < cur.size := by omega
      simp [this]
    · have h1 : j < cur.size := by omega
      rw [← htk, List.getElem?_take_of_lt hj, Array.getElem?_toList]
      simp [h1]
theorem row_own8 {w : World} {base g n c : Nat} {e : TypeId} {xs : List Value} {f : Nat → Value} (h : w.rowIs g e c f) (hb : base ≤ g) (hn : n ≤ c) (hc : c ≤ maxLen) (hl : xs.length = n) (hx : ∀ j, j < n → xs[j]? = some (f j)) :
    w.ownsRow base e 1 (.slice (some ⟨g, 0, none⟩) n c) n xs := by
  obtain ⟨cur, hh, hcs, hf⟩ := h
  refine ⟨by rw [hl, Nat.mul_one], .inr ⟨g, c, cur, rfl, hb, hh, hn, hc, by rw [Nat.mul_one]; exact hcs, ?_⟩⟩
  rw [Nat.mul_one]
  apply List.ext_getElem?
  intro j
  by_cases hj : j < n
  · rw [List.getElem?_take_of_lt hj, Array.getElem?_toList, hf j (by omega), hx j hj]
  · rw [List.getElem?_eq_none (by simp; omega), List.getElem?_eq_none (by omega)]
theorem row_some8 {w : World} {g c : Nat} {e : TypeId} {f : Nat → Value} (h : w.rowIs g e c f) {j : Nat} (hj : j < c) : w.cell? ⟨g, j, none⟩ = some (f j) := h.cell hj
theorem row_free8 {w : World} {g c : Nat} {e : TypeId} {f : Nat → Value} (h : w.rowIs g e c f) (j : Nat) : w.frozen? ⟨g, j, none⟩ = false := by
  obtain ⟨cur, hh, _⟩ := h
  simp [World.frozen?, hh]
theorem row_shape8 {w : World} {g c : Nat} {e : TypeId} {f : Nat → Value} (h : w.rowIs g e c f) : w.shape? g = some (e, c) := by
  obtain ⟨cur, hh, hs, _⟩ := h
  simp [World.shape?, hh, hs]
theorem grown_setCells {a : World} {g : Nat} : ∀ (vs : List Value) (o : Nat) (w : World), a.grownBy w (some g) → a.grownBy (w.setCells g o vs) (some g)
  | [], _, _, h => h
  | v :: r, o, w, h => grown_setCells r (o + 1) _ ⟨h.os, h.tape, h.output, by simpa [World.setCell] using h.size, fun i hi hne => by
      have := h.block i hi hne
      simp only [ne_eq, Option.some.injEq] at hne
      simp [World.setCell, Array.getElem?_modify, this]
      intro e; exact absurd e.symm hne⟩
theorem row_drew8 {w : World} {g c : Nat} {e : TypeId} {f : Nat → Value} (h : w.rowIs g e c f) : w.drew.rowIs g e c f := h
theorem grown_drew8 {a w : World} {r : Option Nat} (h : a.grownBy w r) : a.grownBy w.drew r := ⟨h.os, h.tape, h.output, h.size, h.block⟩
theorem grown_new {a w : World} (g g2 : Nat) (h : a.grownBy w (some g2)) (hg : a.heap.size ≤ g2) : a.grownBy w (some g) :=
  ⟨h.os, h.tape, h.output, h.size, fun i hi _ => h.block i hi (fun e => by simp only [Option.some.injEq] at e; omega)⟩
theorem insList_get (L : List Nat) (i x : Nat) (hi : i ≤ L.length) (j : Nat) (hj : j < L.length + 1) : (natsL (L.take i ++ x :: L.drop i))[j]? = if j < i then (natsL L)[j]? else if j = i then some (.int .i64 (x : Int)) else (natsL L)[j - 1]? := by
  have htl : (L.take i).length = i := by rw [List.length_take]; omega
  unfold natsL
  rw [List.getElem?_map, List.getElem?_map, List.getElem?_map]
  by_cases h1 : j < i
  · rw [if_pos h1, List.getElem?_append_left (by omega), List.getElem?_take_of_lt h1]
  · rw [if_neg h1, List.getElem?_append_right (by omega), htl]
    by_cases h2 : j = i
    · subst h2; rw [if_pos rfl, Nat.sub_self]; rfl
    · rw [if_neg h2, show j - i = (j - 1 - i) + 1 by omega, List.getElem?_cons_succ, List.getElem?_drop, show i + (j - 1 - i) = j - 1 by omega]
set_option maxHeartbeats 1000000 in
theorem insert_any (base g n c i x vb : Nat) (L : List Nat) (tv : TypeId) (w : World) (hown : w.ownsRow base 3 1 (.slice (some ⟨g, 0, none⟩) n c) n (natsL L)) (hbase : base ≤ w.heap.size) (hL : L.length = n) (hi : i ≤ n) (hn : n ≤ 5000) (hv : Has w vb tv #[.int .i64 (x : Int)]) (hne : vb ≠ g) :
    Calls Try.prog 86 #[.slice (some ⟨g, 0, none⟩) n c, .int .i64 i, .slice (some ⟨vb, 0, none⟩) 1 1] w fun e w' => ∃ g2 c2, e = .returned (.slice (some ⟨g2, 0, none⟩) (n + 1) c2) ∧ w'.ownsRow base 3 1 (.slice (some ⟨g2, 0, none⟩) (n + 1) c2) (n + 1) (natsL (L.take i ++ x :: L.drop i)) ∧ w.grownBy w' (some g) := by
  obtain ⟨hb, hnc, hcm, hxl, f, hrow, hf⟩ := own_row8 hown
  have hins := insList_get L i x (by omega)
  have hNL : (natsL (L.take i ++ x :: L.drop i)).length = n + 1 := by rw [natsL_len, List.length_append, List.length_cons, List.length_take, List.length_drop]; omega
  rw [hL] at hins
  have hgl : g < w.heap.size := by obtain ⟨cur, hh, _⟩ := hrow; exact (Array.getElem?_eq_some_iff.1 hh).1
  have hcm2 : c ≤ 9223372036854775807 := by unfold maxLen at hcm; omega
  have hvs : ∀ j v, [Value.int .i64 (x : Int)][j]? = some v → w.cell? ⟨vb, 0 + j, none⟩ = some v := by
    intro j v h
    have hj : j = 0 := by
      have := (List.getElem?_eq_some_iff.1 h).1
      simpa using this
    subst hj
    rw [Nat.zero_add, hv.cell 0]
    simpa using h
  have h1v : ∀ v ∈ [Value.int .i64 (x : Int)], v.oneCell' = true := fun v h => by simp at h; subst h; rfl
  have hcs : ∀ j v, (natsL L)[j]? = some v → w.cell? ⟨g, 0 + j, none⟩ = some v := fun j v h => by
    have hj : j < n := by have := (List.getElem?_eq_some_iff.1 h).1; rw [natsL_len] at this; omega
    rw [Nat.zero_add, row_some8 hrow (by omega), ← hf j hj]; exact h
  have hcs2 : ∀ a, some (⟨g, 0, none⟩ : Addr) = some a → ∀ j v, (natsL L)[j]? = some v → w.cell? (a.add j) = some v := fun a e j v h => by
    obtain rfl := Option.some.inj e
    have hj : j < n := by have := (List.getElem?_eq_some_iff.1 h).1; rw [natsL_len] at this; omega
    have e2 : (⟨g, 0, none⟩ : Addr).add j = ⟨g, 0 + j, none⟩ := by unfold Addr.add; split <;> simp_all
    rw [e2]
    exact hcs j v h
  by_cases hroom : n + 1 ≤ c
  · by_cases hin : i < n
    · refine (Any2.slices_Insert_int_shift laysIns g 0 n c i vb 0 1 1 (natsL L) [.int .i64 (x : Int)] w hin (by decide) hroom hcm2 hne (by rw [natsL_len, hL]) rfl hcs
        (fun j hj => by rw [Nat.zero_add, row_some8 hrow (by omega)]; rfl) (fun j hj => by rw [Nat.zero_add]; exact row_free8 hrow _) hvs (natsL_one L) h1v tv 3 1 c
        (by have : Has w vb tv #[.int .i64 (x : Int)] := hv; unfold Has at this; simp [World.shape?, this]) (row_shape8 hrow) (by omega) (hv.free 0) (hv.free 1)).mono ?_
      rintro e w' ⟨rfl, rfl⟩
      refine ⟨g, c, rfl, ?_, grown_setCells _ _ _ (grown_setCells _ _ _ ⟨rfl, rfl, rfl, Nat.le_refl _, fun _ _ _ => rfl⟩)⟩
      have r1 := rowIs_setCells ((natsL L).drop i) (0 + (i + 1)) w.drew f (by obtain ⟨cur, hh, h2⟩ := hrow; exact ⟨cur, hh, h2⟩)
      have r2 := rowIs_setCells [Value.int .i64 (x : Int)] (0 + i) _ _ r1
      refine row_own8 r2 hb hroom hcm hNL (fun j hj => ?_)
      rw [hins j hj]
      simp only [Nat.zero_add, List.length_drop, natsL_len, hL, List.length_cons, List.length_nil]
      by_cases h1 : j < i
      · rw [if_pos h1, if_neg (by omega), if_neg (by omega)]; exact hf j (by omega)
      · rw [if_neg h1]
        by_cases h2 : j = i
        · subst h2
          rw [if_pos rfl, if_pos (by omega), Nat.sub_self]; rfl
        · rw [if_neg h2, if_neg (by omega), if_pos (by omega), List.getElem?_drop, show i + (j - (i + 1)) = j - 1 by omega]
          have h3 : j - 1 < (natsL L).length := by rw [natsL_len]; omega
          rw [List.getElem?_eq_getElem h3]; rfl
    · obtain rfl : i = n := by omega
      refine (Any2.slices_Insert_int_end_room laysIns g 0 i c vb 0 1 1 [.int .i64 (x : Int)] w (by decide) hroom hcm2 rfl
        (fun j hj => by rw [Nat.zero_add, row_some8 hrow (by omega)]; rfl) (fun j hj => row_free8 hrow _) hvs h1v).mono ?_
      rintro e w' ⟨rfl, rfl⟩
      refine ⟨g, c, rfl, ?_, grown_setCells _ _ _ (World.grownBy.refl w _)⟩
      have r2 := rowIs_setCells [Value.int .i64 (x : Int)] (0 + i) w f hrow
      refine row_own8 r2 hb hroom hcm hNL (fun j hj => ?_)
      rw [hins j hj]
      simp only [Nat.zero_add, List.length_cons, List.length_nil]
      by_cases h1 : j < i
      · rw [if_pos h1, if_neg (by omega)]; exact hf j h1
      · obtain rfl : j = i := by omega
        rw [if_neg h1, if_pos rfl, if_pos (by omega), Nat.sub_self]; rfl
  · have hge := grownCap_ge w (n + 1) c 3
    have hgm : grownCap w (n + 1) c 3 ≤ maxLen := grownCap_le_maxLen w (n + 1) c 3 (by unfold maxLen; omega)
    have hz1 : (Value.int .i64 0).cells = #[Value.int .i64 0] := rfl
    by_cases hin : i < n
    · refine (Any2.slices_Insert_int_grow laysIns g 0 n c i vb 0 1 1 (natsL L) [.int .i64 (x : Int)] w hin (by decide) hnc (by omega) (by omega) (by rw [natsL_len, hL]) rfl hcs hvs (natsL_one L) h1v).mono ?_
      rintro e w' ⟨rfl, rfl⟩
      show ∃ g2 c2, _ = Ending.returned (Value.slice (some ⟨g2, 0, none⟩) (n + 1) c2) ∧ _
      refine ⟨w.heap.size, grownCap w (n + 1) c 3, rfl, ?_, ?_⟩
      · obtain ⟨C, hC⟩ : ∃ C, (((natsL L).take i).toArray ++ Builtin.zeroCells (Value.int .i64 0).cells (n + 1 - i) ++ Builtin.zeroCells (Value.int .i64 0).cells (grownCap w (n + 1) c 3 - (n + 1))) = C := ⟨_, rfl⟩
        have hCs : C.size = grownCap w (n + 1) c 3 := by
          rw [← hC, Array.size_append, Array.size_append, List.size_toArray, size_zeroCells, size_zeroCells, hz1, List.length_take, natsL_len, hL]
          show min i n + (n + 1 - i) * 1 + (grownCap w (n + 1) c 3 - (n + 1)) * 1 = _
          omega
        have hCt : ∀ j, j < i → C[j]? = (natsL L)[j]? := fun j hj => by
          rw [← hC, Array.append_assoc, Array.getElem?_append_left (by rw [List.size_toArray, List.length_take, natsL_len]; omega), List.getElem?_toArray, List.getElem?_take_of_lt hj]
        show World.ownsRow (((w.alloc (.cells (((natsL L).take i).toArray ++ Builtin.zeroCells (Value.int .i64 0).cells (n + 1 - i) ++ Builtin.zeroCells (Value.int .i64 0).cells (grownCap w (n + 1) c 3 - (n + 1))) 3)).drew.setCells w.heap.size i [.int .i64 (x : Int)]).drew.setCells w.heap.size (i + 1) ((natsL L).drop i)) _ _ _ _ _ _
        rw [hC]
        have r0 : (w.alloc (.cells C 3)).drew.rowIs w.heap.size 3 (grownCap w (n + 1) c 3) (fun j => C[j]?.getD default) := ⟨C, heap_alloc_new w _, hCs, fun j hj => by
          have : j < C.size := by omega
          simp [this]⟩
        have r1 := rowIs_setCells [Value.int .i64 (x : Int)] i _ _ r0
        have r1' := row_drew8 r1
        have r2 := rowIs_setCells ((natsL L).drop i) (i + 1) _ _ r1'
        refine row_own8 r2 hbase hge hgm hNL (fun j hj => ?_)
        rw [hins j hj]
        simp only [List.length_drop, natsL_len, hL, List.length_cons, List.length_nil]
        by_cases h1 : j < i
        · rw [if_pos h1, if_neg (by omega), if_neg (by omega), hCt j h1]
          have h3 : j < (natsL L).length := by rw [natsL_len]; omega
          rw [List.getElem?_eq_getElem h3]; rfl
        · rw [if_neg h1]
          by_cases h2 : j = i
          · subst h2
            rw [if_pos rfl, if_neg (by omega), if_pos (by omega), Nat.sub_self]; rfl
          · rw [if_neg h2, if_pos (by omega), List.getElem?_drop, show i + (j - (i + 1)) = j - 1 by omega]
            have h3 : j - 1 < (natsL L).length := by rw [natsL_len]; omega
            rw [List.getElem?_eq_getElem h3]; rfl
      · have h0 : w.grownBy (w.alloc (.cells (((natsL L).take i).toArray ++ Builtin.zeroCells (Value.int .i64 0).cells (n + 1 - i) ++ Builtin.zeroCells (Value.int .i64 0).cells (grownCap w (n + 1) c 3 - (n + 1))) 3)).drew (some w.heap.size) := ⟨rfl, rfl, rfl, by simp, fun k hk _ => by rw [World.drew]; exact Below.heap_alloc w _ k hk⟩
        have h2 := grown_setCells [Value.int .i64 (x : Int)] i _ h0
        have h3 := grown_drew8 h2
        exact grown_new g w.heap.size (grown_setCells ((natsL L).drop i) (i + 1) _ h3) (Nat.le_refl _)
    · obtain rfl : i = n := by omega
      refine (Any2.slices_Insert_int_end_grow laysIns (some ⟨g, 0, none⟩) i c vb 0 1 1 (natsL L) [.int .i64 (x : Int)] w (by decide) hnc (by omega) (by omega) (by rw [natsL_len, hL]) rfl (fun e => by cases e) hcs2 hvs h1v).mono ?_
      rintro e w' ⟨rfl, rfl⟩
      refine ⟨w.heap.size, grownCap w (i + 1) c 3, rfl, ?_, ⟨rfl, rfl, rfl, by simp, fun k hk _ => Below.heap_alloc w.drew _ k hk⟩⟩
      have e0 : natsL (L.take i ++ x :: L.drop i) = natsL L ++ [.int .i64 (x : Int)] := by
        rw [List.take_of_length_le (by omega), List.drop_eq_nil_of_le (by omega)]
        simp [natsL]
      refine ⟨by rw [hNL, Nat.mul_one], .inr ⟨w.heap.size, _, _, rfl, hbase, heap_alloc_new w.drew _, hge, hgm, ?_, ?_⟩⟩
      · rw [Array.size_append, List.size_toArray, size_zeroCells, hz1, List.length_append, natsL_len, hL]
        show i + 1 + (grownCap w (i + 1) c 3 - (i + 1)) * 1 = _
        omega
      · rw [Array.toList_append, e0, Nat.mul_one]
        have hlen : (natsL L ++ [Value.int .i64 (x : Int)]).length = i + 1 := by rw [List.length_append, natsL_len, hL]; rfl
        rw [← hlen]
        exact List.take_left
end Go.Proofs.Ytpdicijoohahaaa
