/- Chapter 3: the lengths (the model). -/
import Derived.Test.YteaohgipndmciaaC3Next
namespace Go.Proofs.Yteaohgipndmciaa
set_option linter.unusedVariables false
set_option linter.unusedSimpArgs false
open Go.RowKit

/-! ### what the descent counts, by symbols -/
/-- The place of a symbol among the leaves. -/
def pos (L : List Item) (s : Nat) : Nat := (L.map Prod.snd).idxOf (s : Int)
theorem leaf_syms {zs : List Int} {n : Nat} {L : List Item} (hp : L.Perm (items zs n)) : (L.map Prod.snd).Perm ((List.range n).map fun (i : Nat) => (i : Int)) := by
  have := hp.map Prod.snd
  simpa [items, Function.comp_def] using this
theorem leaf_nodup {zs : List Int} {n : Nat} {L : List Item} (hp : L.Perm (items zs n)) : (L.map Prod.snd).Nodup := by
  refine (leaf_syms hp).symm.nodup ?_
  rw [List.Nodup, List.pairwise_map]
  exact List.nodup_range.imp fun {a b} h e => h (by omega)
theorem pos_lt {zs : List Int} {n : Nat} {L : List Item} (hp : L.Perm (items zs n)) (s : Nat) (hs : s < n) : pos L s < L.length := by
  have hm : (s : Int) ∈ L.map Prod.snd := (leaf_syms hp).mem_iff.2 (List.mem_map.2 ⟨s, List.mem_range.2 hs, rfl⟩)
  have := List.idxOf_lt_length_of_mem hm
  simpa [pos] using this
theorem pos_get {zs : List Int} {n : Nat} {L : List Item} (hp : L.Perm (items zs n)) (s : Nat) (hs : s < n) : (L[pos L s]'(pos_lt hp s hs)).2 = s := by
  have hm : (s : Int) ∈ L.map Prod.snd := (leaf_syms hp).mem_iff.2 (List.mem_map.2 ⟨s, List.mem_range.2 hs, rfl⟩)
  have h := List.getElem_idxOf (List.idxOf_lt_length_of_mem hm)
  rw [List.getElem_map] at h
  exact h
theorem pos_of {zs : List Int} {n : Nat} {L : List Item} (hp : L.Perm (items zs n)) (j : Nat) (hj : j < L.length) (s : Nat) (hs : (L[j]).2 = s) : pos L s = j := by
  unfold pos
  have h : (L.map Prod.snd)[j]'(by simpa using hj) = (s : Int) := by simpa using hs
  rw [← h]
  exact List.Nodup.idxOf_getElem (leaf_nodup hp) j (by simpa using hj)
theorem leaf_isLeaf {zs : List Int} {n : Nat} {L : List Item} (hp : L.Perm (items zs n)) : ∀ x ∈ L, isLeaf x = true := by
  intro x hx
  have := items_sym zs n x (hp.mem_iff.1 hx)
  simp [isLeaf, this.1]
theorem cntL_succ (r : List Item) (i : Nat) (hi : i < r.length) : cntL r (i + 1) = cntL r i + if isLeaf r[i] = true then 1 else 0 := by
  unfold cntL
  rw [List.take_succ_eq_append_getElem hi, List.countP_append]
  simp [List.countP_cons]
/-- The leaf at place i of a row is the next one. -/
theorem row_leaf (L : List Item) (hL : ∀ x ∈ L, isLeaf x = true) (k i : Nat) (hi : i < (rowM L k).length) (h : isLeaf (rowM L k)[i] = true) :
    ∃ hc : cntL (rowM L k) i < L.length, (rowM L k)[i] = L[cntL (rowM L k) i] := by
  have h1 := rowM_filter L hL k (i + 1) hi
  have h0 := rowM_filter L hL k i (by omega)
  have hc := cntL_succ (rowM L k) i hi
  rw [if_pos h] at hc
  have hlt : cntL (rowM L k) i < L.length := by omega
  refine ⟨hlt, ?_⟩
  have e := h1.2
  rw [List.take_succ_eq_append_getElem hi, List.filter_append, h0.2, hc, List.take_succ_eq_append_getElem hlt] at e
  have e2 := List.append_cancel_left e
  simpa [h] using e2
theorem row_items (L : List Item) (k : Nat) : ∀ x ∈ rowM L k, x.2 = -1 ∨ x ∈ L := by
  have key : ∀ (L : List Item) (P : List Nat), ∀ x ∈ mergeM L P, x.2 = -1 ∨ x ∈ L := by
    intro L P
    induction L, P using mergeM.induct with
    | case1 L => intro x hx; rw [mergeM] at hx; exact .inr hx
    | case2 p P ih => intro x hx; rw [mergeM] at hx; rcases List.mem_cons.1 hx with rfl | hx
                      · exact .inl rfl
                      · exact ih x hx
    | case3 y L p P h ih => intro x hx; rw [mergeM, if_pos h] at hx; rcases List.mem_cons.1 hx with rfl | hx
                            · exact .inr (by simp)
                            · rcases ih x hx with h | h
                              · exact .inl h
                              · exact .inr (by simp [h])
    | case4 y L p P h ih => intro x hx; rw [mergeM, if_neg h] at hx; rcases List.mem_cons.1 hx with rfl | hx
                            · exact .inl rfl
                            · exact ih x hx
  cases k with
  | zero => intro x hx; exact .inr hx
  | succ k => exact key L _
/-- No row's weights grow beyond their bound. -/
theorem row_bound (L : List Item) (hL : ∀ x ∈ L, x.1 ≤ 1000000) (k : Nat) : ∀ x ∈ rowM L k, x.1 ≤ 1000000 * 2 ^ k := by
  have hpk : ∀ (R : List Item) (c : Nat), (∀ x ∈ R, x.1 ≤ c) → ∀ p ∈ packs R, p ≤ 2 * c := by
    intro R
    induction R using packs.induct with
    | case1 a b r ih =>
      intro c hc p hp
      simp only [packs, List.mem_cons] at hp
      rcases hp with rfl | hp
      · have h1 := hc a (by simp); have h2 := hc b (by simp); omega
      · exact ih c (fun x hx => hc x (by simp [hx])) p hp
    | case2 r h => intro c _ p hp; cases r with
      | nil => simp [packs] at hp
      | cons a r => cases r with
        | nil => simp [packs] at hp
        | cons b r => exact absurd rfl (h a b r)
  induction k with
  | zero => intro x hx; have := hL x hx; simpa using this
  | succ k ih =>
    intro x hx
    have := mergeM_mem L (packs (rowM L k)) x.1 (List.mem_map_of_mem hx)
    rw [Nat.pow_succ]
    have h1 : 1 ≤ 2 ^ k := Nat.one_le_two_pow
    rcases this with h | h
    · simp only [wts, List.mem_map] at h
      obtain ⟨y, hy, he⟩ := h
      have := hL y hy
      rw [← he]
      have : 1000000 * 1 ≤ 1000000 * (2 ^ k * 2) := Nat.mul_le_mul_left _ (by omega)
      omega
    · have := hpk _ _ ih x.1 h
      omega

/-- One row of the descent. -/
theorem lenJ_row (L : List Item) (p m j : Nat) : lenJ L p m j = (if j < cntL (rowM L p) m then 1 else 0) + (if p = 0 then 0 else lenJ L (p - 1) (2 * (m - cntL (rowM L p) m)) j) := by
  cases p with
  | zero => rfl
  | succ p => rfl
end Go.Proofs.Yteaohgipndmciaa
