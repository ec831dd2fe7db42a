/- Merged: DrPick, C3Leaves, C3Next, C3Lens. -/
import Derived.Test.YtpdicijoohahaaaWW4
import Derived.Test.YtpdicijoohahaaaWW5
import Derived.Test.YtpdicijoohahaaaWW7
import Derived.Test.YtpdicijoohahaaaWW3
import Derived.WalkLawsBesides
import Derived.Maps.AppendAt
namespace Go.Proofs.Ytpdicijoohahaaa
set_option linter.unusedVariables false
set_option linter.unusedSimpArgs false
open Go.RowKit

theorem own_only {w w' : World} {base g : Nat} {e : TypeId} {size : Nat} {v : Value} {n : Nat} {xs : List Value} (h : w.ownsRow base e size v n xs) (ho : Only g w w') (hg : g < base) : w'.ownsRow base e size v n xs :=
  h.kept (row := some g) ho (.inr (own_ne h hg).symm)
theorem Cur.grown {w w' : World} {g B : Nat} {row : Option Nat} (h : Cur w g B) (hg : w.grownBy w' row) (hr : ∀ k, row = some k → g < k) : Cur w' g B := by
  have hl := h.lt
  refine h.below (B' := g + 1) ⟨hg.os, hg.tape, hg.output, hg.size, fun i hi => hg.block i (by omega) (fun e => by have := hr i e.symm; omega)⟩ (by omega)
theorem Cur.alloc {w : World} {g B : Nat} (h : Cur w g B) (o : Obj) : Cur (w.alloc o) g B := h.below (B' := w.heap.size) ((Below.refl _ _).alloc (Nat.le_refl _) o) h.lt
theorem Cur.store {w : World} {g B : Nat} (h : Cur w g B) {p : Addr} (hp : g < p.block) (u : Value) : Cur (w.setCell p u) g B := h.below (B' := g + 1) ((Below.refl _ _).setCell hp u) (by omega)
theorem Cur.drew {w : World} {g B : Nat} (h : Cur w g B) : Cur w.drew g B := h
theorem Cur.drewN {w : World} {g B : Nat} (h : Cur w g B) (n : Nat) : Cur (w.drewN n) g B := h

theorem l1PickInt_any (g B gl n c : Nat) (zs : List Int) (w : World) (hcr : Cur w g B) (hn : 0 < n) (hn2 : n ≤ 1000) (hne : gl ≠ g) (hz : ∀ j, j < n → w.cell? ⟨gl, j, none⟩ = some (.int .i64 (zs.getD j 0))) :
    Calls Try.prog 54 #[.pointer (some ⟨g, 0, none⟩), .slice (some ⟨gl, 0, none⟩) n c] w fun e w' => ∃ j : Nat, j < n ∧ e = .returned (.int .i64 (zs.getD j 0)) ∧ Cur w' g B ∧ Only g w w' := by
  have hgll : gl < w.heap.size := by have := cell_lt (hz 0 hn); simpa using this
  go_enter Try.func54, Try.ntmps54
  go_wp2_with fail
  refine (l1Below_any g B _ _ hcr (by omega)).mono ?_
  rintro e w1 ⟨r, rfl, hr0, hr1, _, hc1, hO⟩
  obtain ⟨j, rfl⟩ : ∃ j : Nat, r = j := ⟨r.toNat, by omega⟩
  have hjn : j < n := by have := hr1 (by omega); omega
  have hcj : w1.cell? ⟨gl, j, none⟩ = some (.int .i64 (zs.getD j 0)) := by rw [(ocell hO).1 gl j hgll hne]; exact hz j hjn
  clear hz hr1
  go_wp2
  go_ret
  refine ⟨j, hjn, ?_, hc1, hO⟩
  rw [List.getD_eq_getElem?_getD]
  rfl
end Go.Proofs.Ytpdicijoohahaaa
namespace Go.Proofs.Ytpdicijoohahaaa
set_option linter.unusedVariables false
set_option linter.unusedSimpArgs false
open Go.RowKit

theorem news_two {w : World} {g : Nat} {T : TypeId} {x y : Value} (h : Has w g T #[x, y]) : ∀ (j : Nat) (u : Value), [x, y][j]? = some u → w.cell? ((⟨g, 0, none⟩ : Addr).add j) = some u := by
  intro j u hu
  have e : (⟨g, 0, none⟩ : Addr).add j = ⟨g, j, none⟩ := by unfold Addr.add; split <;> simp_all
  rw [e, h.cell j]
  simpa using hu
theorem two_one (x y : Int) : ∀ u ∈ [Value.int .i64 x, Value.int .i64 y], u.oneCell' = true := by
  intro u hu
  simp only [List.mem_cons, List.not_mem_nil, or_false] at hu
  rcases hu with rfl | rfl <;> rfl
theorem own_item {w : World} {base g n cap : Nat} {E : TypeId} {D : List Item} (h : w.ownsRow base E 2 (.slice (some ⟨g, 0, none⟩) n cap) n (icells D)) (nq q : Nat) (x : Item) :
    (((w.drewN nq).setCell ⟨g, q * 2, none⟩ (.int .i64 (x.1 : Int))).setCell ⟨g, q * 2 + 1, none⟩ (.int .i64 x.2)).ownsRow base E 2 (.slice (some ⟨g, 0, none⟩) n cap) n (icells (D.set q x)) := by
  rw [icells_set]
  have h' : (w.drewN nq).ownsRow base E 2 (.slice (some ⟨g, 0, none⟩) n cap) n (icells D) := h
  exact ((h'.stored _ _).1.stored _ _).1
theorem set_split {D L : List Item} {q : Nat} (x : Item) (hq : q < D.length) (h1 : D.take q = L.take q) (h2 : D.drop (q + 1) = L.drop q) : D.set q x = L.take q ++ x :: L.drop q := by
  rw [List.set_eq_take_append_cons_drop, if_pos hq, h1, h2]
theorem move_up {D L : List Item} {p W : Nat} (hq : p + 1 < D.length) (h1 : D.take (p + 1) = L.take (p + 1)) (h2 : D.drop (p + 1 + 1) = L.drop (p + 1)) (h3 : ∀ x ∈ L.drop (p + 1), W < x.1) (hpL : p < L.length) (hW : W < (D[p]'(by omega)).1) :
    (D.set (p + 1) (D[p]'(by omega))).take p = L.take p ∧ (D.set (p + 1) (D[p]'(by omega))).drop (p + 1) = L.drop p ∧ ∀ x ∈ L.drop p, W < x.1 := by
  have e : D[p]'(by omega) = L[p] := by
    have g1 : (D.take (p + 1))[p]'(by rw [List.length_take]; omega) = D[p]'(by omega) := List.getElem_take
    have g2 : (L.take (p + 1))[p]'(by rw [List.length_take]; omega) = L[p] := List.getElem_take
    rw [← g1, ← g2]; congr 1
  have e2 : L.drop p = L[p] :: L.drop (p + 1) := (List.getElem_cons_drop (h := hpL)).symm
  refine ⟨?_, ?_, ?_⟩
  · rw [List.take_set_of_le (by omega)]
    have := congrArg (List.take p) h1
    rwa [List.take_take, List.take_take, Nat.min_eq_left (by omega)] at this
  · rw [List.set_eq_take_append_cons_drop, if_pos hq, List.drop_append_of_le_length (by rw [List.length_take]; omega), List.drop_eq_nil_of_le (by rw [List.length_take]; omega), List.nil_append, h2, e, e2]
  · rw [e2]
    intro x hx
    rcases List.mem_cons.1 hx with rfl | hx
    · rw [← e]; exact hW
    · exact h3 x hx
theorem last_most (R : List Item) (hs : Sorted (wts R)) (h : 0 < R.length) : ∀ z ∈ R, z.1 ≤ (R[R.length - 1]'(by omega)).1 := by
  intro z hz
  obtain ⟨i, hi, rfl⟩ := List.getElem_of_mem hz
  rcases Nat.lt_or_ge i (R.length - 1) with hlt | hge
  · unfold Sorted wts at hs
    rw [List.pairwise_map] at hs
    exact List.pairwise_iff_getElem.1 hs i (R.length - 1) hi (by omega) hlt
  · have : i = R.length - 1 := by omega
    subst this; exact Nat.le_refl _
theorem wgt_le (x : Int) (h1 : x ≤ 1000000) : 1 ≤ wgt x ∧ wgt x ≤ 1000000 ∨ x < 0 := by
  unfold wgt
  by_cases h : x = 0
  · rw [if_pos h]; omega
  · rw [if_neg h]; omega
end Go.Proofs.Ytpdicijoohahaaa
namespace Go.Proofs.Ytpdicijoohahaaa
set_option linter.unusedVariables false
set_option linter.unusedSimpArgs false
open Go.RowKit

theorem packs_get (R : List Item) (p : Nat) (h : 2 * p + 1 < R.length) : (packs R).drop p = (R[2 * p].1 + R[2 * p + 1].1) :: (packs R).drop (p + 1) := by
  induction R using packs.induct generalizing p with
  | case1 a b r ih =>
    cases p with
    | zero => simp [packs]
    | succ p =>
      have := ih p (by simp only [List.length_cons] at h; omega)
      simp only [packs, List.drop_succ_cons]
      rw [this]
      have e1 : (a :: b :: r)[2 * (p + 1)] = r[2 * p]'(by simp only [List.length_cons] at h; omega) := by
        simp only [show 2 * (p + 1) = 2 * p + 1 + 1 by omega, List.getElem_cons_succ]
      have e2 : (a :: b :: r)[2 * (p + 1) + 1] = r[2 * p + 1]'(by simp only [List.length_cons] at h; omega) := by
        simp only [show 2 * (p + 1) + 1 = 2 * p + 1 + 1 + 1 by omega, List.getElem_cons_succ]
      rw [e1, e2]
  | case2 r h2 => cases r with
    | nil => simp at h
    | cons a r => cases r with
      | nil => simp at h
      | cons b r => exact absurd rfl (h2 a b r)
theorem packs_end (R : List Item) (p : Nat) (h : R.length ≤ 2 * p + 1) : (packs R).drop p = [] := List.drop_eq_nil_of_le (by rw [packs_len]; omega)
theorem merge_leaf (L : List Item) (k p0 : Nat) (P : List Nat) (hk : k < L.length) (h : L[k].1 ≤ p0) : mergeM (L.drop k) (p0 :: P) = L[k] :: mergeM (L.drop (k + 1)) (p0 :: P) := by
  rw [← List.getElem_cons_drop (h := hk), mergeM, if_pos h]
theorem merge_pack (L : List Item) (k p0 : Nat) (P : List Nat) (h : ∀ hk : k < L.length, p0 < L[k].1) : mergeM (L.drop k) (p0 :: P) = (p0, -1) :: mergeM (L.drop k) P := by
  rcases Nat.lt_or_ge k L.length with hk | hk
  · rw [← List.getElem_cons_drop (h := hk), mergeM, if_neg (by have := h hk; omega)]
  · rw [List.drop_eq_nil_of_le hk, mergeM]
theorem merge_end (L : List Item) : mergeM L [] = L := by cases L <;> rw [mergeM]

theorem icells_drop (L : List Item) (k : Nat) : icells (L.drop k) = (icells L).drop (k * 2) := by
  induction k generalizing L with
  | zero => rfl
  | succ k ih => cases L with
    | nil => simp [icells]
    | cons x L => rw [show (k + 1) * 2 = k * 2 + 1 + 1 by omega]; simp only [List.drop_succ_cons, icells]; exact ih L
theorem news_from {w : World} {base g n c : Nat} {E : TypeId} {L : List Item} (h : w.ownsRow base E 2 (.slice (some ⟨g, 0, none⟩) n c) n (icells L)) (k : Nat) : ∀ (j : Nat) (u : Value), (icells (L.drop k))[j]? = some u → w.cell? ((⟨g, k * 2, none⟩ : Addr).add j) = some u := by
  intro j u hu
  have e : (⟨g, k * 2, none⟩ : Addr).add j = ⟨g, k * 2 + j, none⟩ := by unfold Addr.add; split <;> simp_all
  rw [icells_drop, List.getElem?_drop] at hu
  have hl := h.1
  have hj : k * 2 + j < n * 2 := by
    rw [← hl]; exact (List.getElem?_eq_some_iff.1 hu).1
  rw [e, h.cellAt _ hj, hu]
end Go.Proofs.Ytpdicijoohahaaa
namespace Go.Proofs.Ytpdicijoohahaaa
set_option linter.unusedVariables false
set_option linter.unusedSimpArgs false
open Go.RowKit

/-! ### what the descent counts, by symbols -/
/-- The place of a symbol among the leaves. -/
def pos (L : List Item) (s : Nat) : Nat := (L.map Prod.snd).idxOf (s : Int)
theorem leaf_syms {zs : List Int} {n : Nat} {L : List Item} (hp : L.Perm (items zs n)) : (L.map Prod.snd).Perm ((List.range n).map fun (i : Nat) => (i : Int)) := by
  have := hp.map Prod.snd
  simpa [items, Function.comp_def] using this
theorem leaf_nodup {zs : List Int} {n : Nat} {L : List Item} (hp : L.Perm (items zs n)) : (L.map Prod.snd).Nodup := by
  refine (leaf_syms hp).symm.nodup ?_
  rw [List.Nodup, List.pairwise_map]
  exact List.nodup_range.imp fun {a b} h e => h (by omega)
theorem pos_lt {zs : List Int} {n : Nat} {L : List Item} (hp : L.Perm (items zs n)) (s : Nat) (hs : s < n) : pos L s < L.length := by
  have hm : (s : Int) ∈ L.map Prod.snd := (leaf_syms hp).mem_iff.2 (List.mem_map.2 ⟨s, List.mem_range.2 hs, rfl⟩)
  have := List.idxOf_lt_length_of_mem hm
  simpa [pos] using this
theorem pos_get {zs : List Int} {n : Nat} {L : List Item} (hp : L.Perm (items zs n)) (s : Nat) (hs : s < n) : (L[pos L s]'(pos_lt hp s hs)).2 = s := by
  have hm : (s : Int) ∈ L.map Prod.snd := (leaf_syms hp).mem_iff.2 (List.mem_map.2 ⟨s, List.mem_range.2 hs, rfl⟩)
  have h := List.getElem_idxOf (List.idxOf_lt_length_of_mem hm)
  rw [List.getElem_map] at h
  exact h
theorem pos_of {zs : List Int} {n : Nat} {L : List Item} (hp : L.Perm (items zs n)) (j : Nat) (hj : j < L.length) (s : Nat) (hs : (L[j]).2 = s) : pos L s = j := by
  unfold pos
  have h : (L.map Prod.snd)[j]'(by simpa using hj) = (s : Int) := by simpa using hs
  rw [← h]
  exact List.Nodup.idxOf_getElem (leaf_nodup hp) j (by simpa using hj)
theorem leaf_isLeaf {zs : List Int} {n : Nat} {L : List Item} (hp : L.Perm (items zs n)) : ∀ x ∈ L, isLeaf x = true := by
  intro x hx
  have := items_sym zs n x (hp.mem_iff.1 hx)
  simp [isLeaf, this.1]
theorem cntL_succ (r : List Item) (i : Nat) (hi : i < r.length) : cntL r (i + 1) = cntL r i + if isLeaf r[i] = true then 1 else 0 := by
  unfold cntL
  rw [List.take_succ_eq_append_getElem hi, List.countP_append]
  simp [List.countP_cons]
/-- The leaf at place i of a row is the next one. -/
theorem row_leaf (L : List Item) (hL : ∀ x ∈ L, isLeaf x = true) (k i : Nat) (hi : i < (rowM L k).length) (h : isLeaf (rowM L k)[i] = true) :
    ∃ hc : cntL (rowM L k) i < L.length, (rowM L k)[i] = L[cntL (rowM L k) i] := by
  have h1 := rowM_filter L hL k (i + 1) hi
  have h0 := rowM_filter L hL k i (by omega)
  have hc := cntL_succ (rowM L k) i hi
  rw [if_pos h] at hc
  have hlt : cntL (rowM L k) i < L.length := by omega
  refine ⟨hlt, ?_⟩
  have e := h1.2
  rw [List.take_succ_eq_append_getElem hi, List.filter_append, h0.2, hc, List.take_succ_eq_append_getElem hlt] at e
  have e2 := List.append_cancel_left e
  simpa [h] using e2
theorem row_items (L : List Item) (k : Nat) : ∀ x ∈ rowM L k, x.2 = -1 ∨ x ∈ L := by
  have key : ∀ (L : List Item) (P : List Nat), ∀ x ∈ mergeM L P, x.2 = -1 ∨ x ∈ L := by
    intro L P
    induction L, P using mergeM.induct with
    | case1 L => intro x hx; rw [mergeM] at hx; exact .inr hx
    | case2 p P ih => intro x hx; rw [mergeM] at hx; rcases List.mem_cons.1 hx with rfl | hx
                      · exact .inl rfl
                      · exact ih x hx
    | case3 y L p P h ih => intro x hx; rw [mergeM, if_pos h] at hx; rcases List.mem_cons.1 hx with rfl | hx
                            · exact .inr (by simp)
                            · rcases ih x hx with h | h
                              · exact .inl h
                              · exact .inr (by simp [h])
    | case4 y L p P h ih => intro x hx; rw [mergeM, if_neg h] at hx; rcases List.mem_cons.1 hx with rfl | hx
                            · exact .inl rfl
                            · exact ih x hx
  cases k with
  | zero => intro x hx; exact .inr hx
  | succ k => exact key L _
/-- No row's weights grow beyond their bound. -/
theorem row_bound (L : List Item) (hL : ∀ x ∈ L, x.1 ≤ 1000000) (k : Nat) : ∀ x ∈ rowM L k, x.1 ≤ 1000000 * 2 ^ k := by
  have hpk : ∀ (R : List Item) (c : Nat), (∀ x ∈ R, x.1 ≤ c) → ∀ p ∈ packs R, p ≤ 2 * c := by
    intro R
    induction R using packs.induct with
    | case1 a b r ih =>
      intro c hc p hp
      simp only [packs, List.mem_cons] at hp
      rcases hp with rfl | hp
      · have h1 := hc a (by simp); have h2 := hc b (by simp); omega
      · exact ih c (fun x hx => hc x (by simp [hx])) p hp
    | case2 r h => intro c _ p hp; cases r with
      | nil => simp [packs] at hp
      | cons a r => cases r with
        | nil => simp [packs] at hp
        | cons b r => exact absurd rfl (h a b r)
  induction k with
  | zero => intro x hx; have := hL x hx; simpa using this
  | succ k ih =>
    intro x hx
    have := mergeM_mem L (packs (rowM L k)) x.1 (List.mem_map_of_mem hx)
    rw [Nat.pow_succ]
    have h1 : 1 ≤ 2 ^ k := Nat.one_le_two_pow
    rcases this with h | h
    · simp only [wts, List.mem_map] at h
      obtain ⟨y, hy, he⟩ := h
      have := hL y hy
      rw [← he]
      have : 1000000 * 1 ≤ 1000000 * (2 ^ k * 2) := Nat.mul_le_mul_left _ (by omega)
      omega
    · have := hpk _ _ ih x.1 h
      omega

/-- One row of the descent. -/
theorem lenJ_row (L : List Item) (p m j : Nat) : lenJ L p m j = (if j < cntL (rowM L p) m then 1 else 0) + (if p = 0 then 0 else lenJ L (p - 1) (2 * (m - cntL (rowM L p) m)) j) := by
  cases p with
  | zero => rfl
  | succ p => rfl
end Go.Proofs.Ytpdicijoohahaaa
