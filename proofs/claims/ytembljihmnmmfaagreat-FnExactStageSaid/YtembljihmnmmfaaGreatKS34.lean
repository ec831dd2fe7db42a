/- Texts of the proof, merged. -/
import Derived.Test.YtembljihmnmmfaaGreatKS11
import Derived.Test.YtembljihmnmmfaaGreatKS27
namespace Go.Proofs.YtembljihmnmmfaaGreat
set_option linter.unusedVariables false
set_option linter.unusedSimpArgs false
open Go.RowKit Go.ChangeShapes Go.WideShapes Go.ChangeAt

/-- Nothing but the rows V has turned. -/
structure ByRows (V : List Value) (w w' : World) : Prop where
  os : w'.os = w.os
  tape : w'.tape = w.tape
  output : w'.output = w.output
  size : w.heap.size ≤ w'.heap.size
  block : ∀ i, i < w.heap.size → (∀ v ∈ V, v.ownBlock ≠ some i) → w'.heap[i]? = w.heap[i]?
theorem ByRows.refl (V : List Value) (w : World) : ByRows V w w := ⟨rfl, rfl, rfl, Nat.le_refl _, fun _ _ _ => rfl⟩
theorem ByRows.grown {V : List Value} {a b c : World} {v : Value} (h : ByRows V a b) (hg : b.grownBy c v.ownBlock) (hv : v ∈ V) : ByRows V a c :=
  ⟨hg.os.trans h.os, hg.tape.trans h.tape, hg.output.trans h.output, Nat.le_trans h.size hg.size, fun i hi hn => (hg.block i (Nat.lt_of_lt_of_le hi h.size) (fun e => hn v hv e.symm)).trans (h.block i hi hn)⟩
/-- Tables of one's own, which lie in blocks from lo on, below hi, apart from one another. -/
structure OwnT (w : World) (lo hi : Nat) (v : Value) (V : List Value) (T : List (List Int)) : Prop where
  own : w.ownsRow lo 99 1 v T.length V
  rows : RowsAt w lo V T
  top : Ranged v lo hi
  rng : ∀ u ∈ V, Ranged u lo hi
  apart : ∀ i j, i < j → j < T.length → (V.getD i undef).ownBlock = none ∨ (V.getD i undef).ownBlock ≠ (V.getD j undef).ownBlock
theorem getD_memV {V : List Value} {j : Nat} (h : j < V.length) : V.getD j undef ∈ V := by
  have e : V.getD j undef = V[j] := by simp [List.getD_eq_getElem?_getD, h]
  rw [e]; exact List.getElem_mem h
theorem OwnT.below {w w' : World} {lo hi : Nat} {v : Value} {V : List Value} {T : List (List Int)} (h : OwnT w lo hi v V T) (hb : Below w.heap.size w w') : OwnT w' lo hi v V T :=
  ⟨own_bel h.own hb, h.rows.below hb, h.top, h.rng, h.apart⟩
theorem OwnT.nil (w : World) (lo hi : Nat) : OwnT w lo hi (.slice none 0 0) [] [] :=
  ⟨World.ownsRow_nil _ _ _ _, RowsAt.nil _ _, (fun k hk => by simp [Value.ownBlock] at hk), (fun u hu => by cases hu), fun i j _ hj => by cases hj⟩
theorem OwnT.kept {w w' : World} {lo hi : Nat} {v u : Value} {V : List Value} {T : List (List Int)} (h : OwnT w lo hi v V T) (hg : w.grownBy w' u.ownBlock) (h1 : v.ownBlock = none ∨ v.ownBlock ≠ u.ownBlock) (h2 : ∀ x ∈ V, x.ownBlock = none ∨ x.ownBlock ≠ u.ownBlock) : OwnT w' lo hi v V T := by
  have one : ∀ {x : Value} {n size : Nat} {e : TypeId} {xs : List Value}, w.ownsRow lo e size x n xs → (x.ownBlock = none ∨ x.ownBlock ≠ u.ownBlock) → w'.ownsRow lo e size x n xs := fun hx hne => hx.kept hg hne
  exact ⟨one h.own h1, ⟨h.rows.1, fun j hj => one (h.rows.2 j hj) (h2 _ (getD_memV (by rw [h.rows.1]; exact hj)))⟩, h.top, h.rng, h.apart⟩
theorem OwnT.cell {w : World} {lo hi n c i : Nat} {a : Option Addr} {V : List Value} {T : List (List Int)} (h : OwnT w lo hi (.slice a n c) V T) (hi2 : i < T.length) : ∃ g b m, a = some ⟨g, 0, none⟩ ∧ w.cell? ⟨g, i, none⟩ = some (.slice b (T.getD i []).length m) ∧ V.getD i undef = .slice b (T.getD i []).length m ∧ g < w.heap.size := by
  obtain ⟨b, m, hb⟩ := own_form (h.rows.2 i hi2)
  rcases h.own.2 with ⟨_, h0⟩ | ⟨g, cap, cur, hv, hg, hcur, _⟩
  · omega
  · simp only [Value.slice.injEq] at hv
    obtain ⟨rfl, rfl, rfl⟩ := hv
    refine ⟨g, b, m, rfl, ?_, hb, (Array.getElem?_eq_some_iff.1 hcur).1⟩
    rw [h.own.cellAt i (by omega), ← hb]
    rw [List.getD_eq_getElem?_getD, List.getElem?_eq_getElem (by rw [h.rows.1]; exact hi2)]; rfl
/-- The numbers of all tables fit. -/
def FitT (T : List (List Int)) : Prop := ∀ i, i < T.length → (T.getD i []).length ≤ 1048576 ∧ ∀ x ∈ T.getD i [], -9223372036854775808 ≤ x ∧ x ≤ 9223372036854775807
theorem OwnT.form {w : World} {lo hi : Nat} {v : Value} {V : List Value} {T : List (List Int)} (h : OwnT w lo hi v V T) : ∃ a c, v = .slice a T.length c ∧ T.length ≤ c := by
  obtain ⟨a, c, rfl⟩ := own_form h.own
  exact ⟨a, c, rfl, own_len12 h.own⟩
theorem Tabs.range {w : World} {B : Nat} {a : Option Addr} {T : List (List Int)} (h : Tabs w B a T) (hl : ∀ i, i < T.length → (T.getD i []).length ≤ 1048576) : FitT T := fun i hi => by
  obtain ⟨b, off, a2, c2, _, _, _, _, hz⟩ := h.at hi
  exact ⟨hl i hi, hz.2.1⟩
/-! ### How long they are -/
/-- Tables as they are handed in. -/
def IsTabs (w : World) (a : Option Addr) (len cap : Nat) (R : Nat → Option Addr × Nat × Nat × List Int) : Prop :=
  (a = none ∧ len = 0 ∧ cap = 0) ∨ ∃ x : Addr, a = some x ∧ len ≤ cap ∧ cap ≤ maxLen ∧ ∀ i, i < len → w.cell? (x.add i) = some (.slice (R i).1 (R i).2.1 (R i).2.2.1) ∧ IsRow .i64 w (R i).1 (R i).2.1 (R i).2.2.1 (R i).2.2.2
/-- The cell i of tables that are handed in. -/
theorem IsTabs.cell {w : World} {a : Option Addr} {len cap : Nat} {R : Nat → Option Addr × Nat × Nat × List Int} (h : IsTabs w a len cap R) {i : Nat} (hi : i < len) : ∃ b off, a = some ⟨b, off, none⟩ ∧ b < w.heap.size ∧ w.cell? ⟨b, off + i, none⟩ = some (.slice (R i).1 (R i).2.1 (R i).2.2.1) ∧ IsRow .i64 w (R i).1 (R i).2.1 (R i).2.2.1 (R i).2.2.2 := by
  rcases h with ⟨_, rfl, _⟩ | ⟨x, rfl, h1, h2, hc⟩
  · omega
  · have h0 := (hc 0 (by omega)).1
    obtain ⟨b, off, spot⟩ := x
    have hspot : spot = none := by simpa [Addr.add] using World.cell?_spot h0
    subst hspot
    refine ⟨b, off, rfl, by simpa [Addr.add] using cell_lt h0, ?_, (hc i hi).2⟩
    have := (hc i hi).1
    by_cases e : i = 0
    · subst e; simpa [Addr.add] using this
    · simpa [Addr.add, e] using this
theorem apart_sym {x y : Value} (h : x.ownBlock = none ∨ x.ownBlock ≠ y.ownBlock) : y.ownBlock = none ∨ y.ownBlock ≠ x.ownBlock := by
  cases e : y.ownBlock with
  | none => exact .inl rfl
  | some k =>
    refine .inr fun e2 => ?_
    rcases h with h | h
    · rw [h] at e2; cases e2
    · exact h (by rw [← e2, e])
theorem OwnT.set {w w' : World} {lo hi i : Nat} {v : Value} {V : List Value} {T : List (List Int)} {z : List Int} (h : OwnT w lo hi v V T) (hi2 : i < T.length) (ho : w'.ownsRow lo 3 1 (V.getD i undef) z.length (intsV z)) (hg : w.grownBy w' (V.getD i undef).ownBlock) : OwnT w' lo hi v V (T.set i z) := by
  refine ⟨?_, ⟨by rw [List.length_set]; exact h.rows.1, fun j hj => ?_⟩, h.top, h.rng, fun a b hab hb => h.apart a b hab (by rw [List.length_set] at hb; exact hb)⟩
  · rw [List.length_set]
    refine own_grown12 h.own hg fun g h1 e => ?_
    exact own_types h.own (h.rows.2 i hi2) (by decide) h1 e
  · rw [List.length_set] at hj
    by_cases e : j = i
    · subst e
      have e2 : (T.set j z).getD j [] = z := by simp [List.getD_eq_getElem?_getD, hj]
      rw [e2]; exact ho
    · have e2 : (T.set i z).getD j [] = T.getD j [] := by simp [List.getD_eq_getElem?_getD, List.getElem?_set, Ne.symm e]
      rw [e2]
      refine (h.rows.2 j hj).kept hg ?_
      rcases Nat.lt_or_ge j i with hl | hl
      · exact h.apart j i hl hi2
      · exact apart_sym (h.apart i j (by omega) hj)
end Go.Proofs.YtembljihmnmmfaaGreat
