/- Texts of the proof, merged. -/
import Derived.WalkLawsBesides
import Derived.Test.YtembljihmnmmfaaGreatKS5
import Derived.Test.YtembljihmnmmfaaGreatKS6
import Derived.Maps.AppendAt
import Derived.Test.YtembljihmnmmfaaGreatKS4
namespace Go.Proofs.YtembljihmnmmfaaGreat
set_option linter.unusedVariables false
set_option linter.unusedSimpArgs false
open Go.RowKit


end Go.Proofs.YtembljihmnmmfaaGreat
namespace Go.Proofs.YtembljihmnmmfaaGreat
set_option linter.unusedVariables false
set_option linter.unusedSimpArgs false
open Go.RowKit

/-! ### what the descent counts, by symbols -/
/-- The place of a symbol among the leaves. -/
def pos (L : List Item) (s : Nat) : Nat := (L.map Prod.snd).idxOf (s : Int)
theorem leaf_syms {zs : List Int} {n : Nat} {L : List Item} (hp : L.Perm (items zs n)) : (L.map Prod.snd).Perm ((List.range n).map fun (i : Nat) => (i : Int)) := by
  have := hp.map Prod.snd
  simpa [items, Function.comp_def] using this
theorem leaf_nodup {zs : List Int} {n : Nat} {L : List Item} (hp : L.Perm (items zs n)) : (L.map Prod.snd).Nodup := by
  refine (leaf_syms hp).symm.nodup ?_
  rw [List.Nodup, List.pairwise_map]
  exact List.nodup_range.imp fun {a b} h e => h (by omega)
theorem pos_lt {zs : List Int} {n : Nat} {L : List Item} (hp : L.Perm (items zs n)) (s : Nat) (hs : s < n) : pos L s < L.length := by
  have hm : (s : Int) ∈ L.map Prod.snd := (leaf_syms hp).mem_iff.2 (List.mem_map.2 ⟨s, List.mem_range.2 hs, rfl⟩)
  have := List.idxOf_lt_length_of_mem hm
  simpa [pos] using this
theorem pos_get {zs : List Int} {n : Nat} {L : List Item} (hp : L.Perm (items zs n)) (s : Nat) (hs : s < n) : (L[pos L s]'(pos_lt hp s hs)).2 = s := by
  have hm : (s : Int) ∈ L.map Prod.snd := (leaf_syms hp).mem_iff.2 (List.mem_map.2 ⟨s, List.mem_range.2 hs, rfl⟩)
  have h := List.getElem_idxOf (List.idxOf_lt_length_of_mem hm)
  rw [List.getElem_map] at h
  exact h
end Go.Proofs.YtembljihmnmmfaaGreat
namespace Go.Proofs.YtembljihmnmmfaaGreat
set_option linter.unusedVariables false
set_option linter.unusedSimpArgs false

theorem getD_in {l : List Nat} {i : Nat} (h : i < l.length) : l.getD i 0 = l[i] := by simp [List.getD_eq_getElem?_getD, h]
theorem pos_wgt {zs : List Int} {n : Nat} {L : List Item} (hp : L.Perm (items zs n)) (s : Nat) (hs : s < n) : (wts L).getD (pos L s) 0 = wgt (zs.getD s 0) := by
  have hlt := pos_lt hp s hs
  have hg := pos_get hp s hs
  have hm := hp.mem_iff.1 (List.getElem_mem hlt)
  simp only [items, List.mem_map, List.mem_range] at hm
  obtain ⟨i, hi, he⟩ := hm
  have h2 := congrArg Prod.snd he
  have h1 := congrArg Prod.fst he
  simp only at h1 h2
  rw [hg] at h2
  have : i = s := by omega
  subst this
  rw [h1]
  simp [wts, List.getD_eq_getElem?_getD, hlt]

/-- What Lens answers, by symbols. -/
def lenS (L : List Item) (n lim s : Nat) : Nat := lenJ L (lim - 1) (2 * n - 2) (pos L s)
/-- What comes more often has no longer code. -/
theorem lenS_often {zs : List Int} {n lim : Nat} {L : List Item} (hp : L.Perm (items zs n)) (hs : LexS L) (i k : Nat) (hi : i < n) (hk : k < n) (h : wgt (zs.getD k 0) < wgt (zs.getD i 0)) : lenS L n lim i ≤ lenS L n lim k := by
  refine lenJ_mono L _ _ _ _ ?_
  rcases Nat.lt_or_ge (pos L i) (pos L k) with hlt | hge
  · exfalso
    have hlk := pos_lt hp k hk
    have hli := pos_lt hp i hi
    have := (List.pairwise_iff_getElem.1 hs.sorted) (pos L i) (pos L k) (by simpa [wts] using hli) (by simpa [wts] using hlk) hlt
    have e1 := pos_wgt hp i hi
    have e2 := pos_wgt hp k hk
    rw [getD_in (by simpa [wts] using hli)] at e1
    rw [getD_in (by simpa [wts] using hlk)] at e2
    omega
  · exact hge
end Go.Proofs.YtembljihmnmmfaaGreat
namespace Go.Proofs.YtembljihmnmmfaaGreat
set_option linter.unusedVariables false
set_option linter.unusedSimpArgs false

def lexB (a b : Item) : Bool := decide (a.1 < b.1 ∨ (a.1 = b.1 ∧ a.2 ≤ b.2))
/-- The leaves in order. -/
def leafL (zs : List Int) : List Item := (items zs zs.length).mergeSort lexB
theorem leafL_perm (zs : List Int) : (leafL zs).Perm (items zs zs.length) := List.mergeSort_perm _ _
theorem leafL_lex (zs : List Int) : LexS (leafL zs) := by
  have h1 : (leafL zs).Pairwise (fun a b => lexB a b = true) := List.pairwise_mergeSort (le := lexB)
    (fun a b c h h' => by simp only [lexB, decide_eq_true_eq] at *; omega) (fun a b => by simp only [lexB, Bool.or_eq_true, decide_eq_true_eq]; omega) _
  have h2 := leaf_nodup (leafL_perm zs)
  rw [List.Nodup, List.pairwise_map] at h2
  refine (h1.and h2).imp ?_
  intro a b h
  have h3 := h.1
  have h4 := h.2
  simp only [lexB, decide_eq_true_eq] at h3
  unfold lex
  omega
/-- The lengths. -/
def lensF (zs : List Int) (lim : Nat) : List Int := if zs.length = 1 then [1] else (List.range zs.length).map fun s => (lenS (leafL zs) zs.length lim s : Int)
theorem lensF_get {zs : List Int} (h2 : 2 ≤ zs.length) (lim s : Nat) (hs : s < zs.length) : (lensF zs lim).getD s 0 = (lenS (leafL zs) zs.length lim s : Int) := by
  unfold lensF; rw [if_neg (by omega)]; simp [List.getD_eq_getElem?_getD, hs]
/-- When Lens answers. -/
def lensOn (zs : List Int) (lim : Int) : Prop := fOk zs = true ∧ 1 ≤ lim ∧ lim ≤ 20 ∧ zs.length ≤ 2 ^ lim.toNat
instance (zs : List Int) (lim : Int) : Decidable (lensOn zs lim) := by unfold lensOn; exact inferInstance
/-- The weights are the numbers themselves where each symbol comes. -/
theorem wgt_one {x : Int} (h : 1 ≤ x) : wgt x = x.toNat := by unfold wgt; rw [if_neg (by omega)]
/-- FnOften. -/
theorem often {fs : List Int} {lim : Nat} (h : lensOn fs lim) (i k : Nat) (hi : i < fs.length) (hk : k < fs.length) (h1 : fs.getD k 0 < fs.getD i 0) (h2 : 1 < fs.getD i 0) : (lensF fs lim).getD i 0 ≤ (lensF fs lim).getD k 0 := by
  have hn := (fOk_iff fs).1 h.1
  rcases Nat.lt_or_ge 1 fs.length with h3 | h3
  · rw [lensF_get (by omega) lim i hi, lensF_get (by omega) lim k hk]
    refine Int.ofNat_le.2 (lenS_often (leafL_perm fs) (leafL_lex fs) i k hi hk ?_)
    have := hn.2.2 k hk
    rw [wgt_one (by omega : 1 ≤ fs.getD i 0)]
    unfold wgt
    split <;> omega
  · have : i = 0 := by omega
    have : k = 0 := by omega
    subst_vars
    exact Int.le_refl _
end Go.Proofs.YtembljihmnmmfaaGreat
namespace Go.Proofs.YtembljihmnmmfaaGreat
set_option linter.unusedVariables false
set_option linter.unusedSimpArgs false

def grp (n : Nat) : Nat := (n + 9) / 10
theorem grp_lt {i n : Nat} (h : i < n) : i / 10 < grp n := by unfold grp; omega
end Go.Proofs.YtembljihmnmmfaaGreat
namespace Go.Proofs.YtembljihmnmmfaaGreat
set_option linter.unusedVariables false
set_option linter.unusedSimpArgs false

/-- The table of symbol i. -/
def tabOf (T : List (List Int)) (G : List Int) (i : Nat) : List Int := T.getD (G.getD (i / 10) 0).toNat []
/-- What is asked of the tables and the assignment. -/
structure CdArg (S : List Int) (T : List (List Int)) (G : List Int) (n : Nat) : Prop where
  tab : ∀ j, j < T.length → (T.getD j []).length = n ∧ lOk (T.getD j []) = true
  sel : ∀ g, g < G.length → 0 ≤ G.getD g 0 ∧ G.getD g 0 < (T.length : Int)
  len : G.length = grp S.length
  sym : ∀ k, k < S.length → 0 ≤ S.getD k 0 ∧ S.getD k 0 < (n : Int)
theorem CdArg.of {S : List Int} {T : List (List Int)} {G : List Int} {n : Nat} (h : CdArg S T G n) {i : Nat} (hi : i < S.length) :
    ∃ k x : Nat, k < T.length ∧ x < n ∧ G.getD (i / 10) 0 = (k : Int) ∧ S.getD i 0 = (x : Int) ∧ tabOf T G i = T.getD k [] ∧ i / 10 < G.length := by
  have hg : i / 10 < G.length := by rw [h.len]; exact grp_lt hi
  have h1 := h.sel _ hg
  have h2 := h.sym _ hi
  refine ⟨(G.getD (i / 10) 0).toNat, (S.getD i 0).toNat, by omega, by omega, by omega, by omega, rfl, hg⟩
end Go.Proofs.YtembljihmnmmfaaGreat
namespace Go.Proofs.YtembljihmnmmfaaGreat
set_option linter.unusedVariables false
set_option linter.unusedSimpArgs false

/-- From bit a on, where i symbols are read already, the symbols xs are read, up to bit b: the last one is the end, which lies in the last group. -/
inductive Fin12 (s : ByteArray) (T : List (List Int)) (G : List Int) (e : Int) : Nat → Nat → List Nat → Nat → Prop
  | last (a i n x : Nat) (h1 : i < 2000) (h2 : hit (tabOf T G i) s a n x) (h3 : (x : Int) = e) (h4 : grp (i + 1) = G.length) : Fin12 s T G e a i [x] (a + n)
  | more (a i n x : Nat) (xs : List Nat) (b : Nat) (h1 : i < 2000) (h2 : hit (tabOf T G i) s a n x) (h3 : (x : Int) ≠ e) (h4 : Fin12 s T G e (a + n) (i + 1) xs b) : Fin12 s T G e a i (x :: xs) b
theorem Fin12.grp {s : ByteArray} {T : List (List Int)} {G : List Int} {e : Int} {a i : Nat} {xs : List Nat} {b : Nat} (h : Fin12 s T G e a i xs b) : grp (i + xs.length) = G.length ∧ 1 ≤ xs.length ∧ i + xs.length ≤ 2000 := by
  induction h with
  | last a i n x h1 h2 h3 h4 => exact ⟨h4, Nat.le_refl _, h1⟩
  | more a i n x xs b h1 h2 h3 h4 ih =>
    rw [List.length_cons]
    have e : i + (xs.length + 1) = i + 1 + xs.length := by omega
    rw [e]
    exact ⟨ih.1, by omega, ih.2.2⟩
theorem Fin12.room {s : ByteArray} {T : List (List Int)} {G : List Int} {e : Int} {a i : Nat} {xs : List Nat} {b : Nat} (h : Fin12 s T G e a i xs b) : i < 2000 ∧ i / 10 < G.length := by
  have h1 := h.grp
  have h2 := h1.1
  unfold Go.Proofs.YtembljihmnmmfaaGreat.grp at h2
  omega
/-- What is asked of the tables and of the groups. -/
structure GdArg (T : List (List Int)) (G : List Int) (n : Nat) : Prop where
  tab : ∀ j, j < T.length → (T.getD j []).length = n ∧ lOk (T.getD j []) = true
  sel : ∀ g, g < G.length → 0 ≤ G.getD g 0 ∧ G.getD g 0 < (T.length : Int)
theorem GdArg.of {T : List (List Int)} {G : List Int} {n : Nat} (h : GdArg T G n) {i : Nat} (hi : i / 10 < G.length) :
    ∃ k : Nat, k < T.length ∧ G.getD (i / 10) 0 = (k : Int) ∧ tabOf T G i = T.getD k [] := by
  have h1 := h.sel _ hi
  exact ⟨(G.getD (i / 10) 0).toNat, by omega, by omega, rfl⟩
theorem GdArg.ok {T : List (List Int)} {G : List Int} {n : Nat} (h : GdArg T G n) {i : Nat} (hi : i / 10 < G.length) : lOk (tabOf T G i) = true := by
  obtain ⟨k, hk, _, e⟩ := h.of hi
  rw [e]; exact (h.tab k hk).2
theorem Fin12.lt {s : ByteArray} {T : List (List Int)} {G : List Int} {e : Int} {n : Nat} (hG : GdArg T G n) {a i : Nat} {xs : List Nat} {b : Nat} (h : Fin12 s T G e a i xs b) : ∀ x ∈ xs, x < n := by
  induction h with
  | last a i m x h1 h2 h3 h4 =>
    have hr : i / 10 < G.length := (Fin12.last a i m x h1 h2 h3 h4).room.2
    obtain ⟨k, hk, _, e1⟩ := hG.of hr
    intro y hy
    rw [List.mem_singleton] at hy
    subst hy
    have := h2.1
    rw [e1, (hG.tab k hk).1] at this
    exact this
  | more a i m x xs b h1 h2 h3 h4 ih =>
    have hr : i / 10 < G.length := (Fin12.more a i m x xs b h1 h2 h3 h4).room.2
    obtain ⟨k, hk, _, e1⟩ := hG.of hr
    intro y hy
    rcases List.mem_cons.1 hy with rfl | hy
    · have := h2.1
      rw [e1, (hG.tab k hk).1] at this
      exact this
    · exact ih y hy
theorem Fin12.le {s : ByteArray} {T : List (List Int)} {G : List Int} {e : Int} {a i : Nat} {xs : List Nat} {b : Nat} (h : Fin12 s T G e a i xs b) : b ≤ 8 * s.size := by
  induction h with
  | last a i m x h1 h2 h3 h4 => exact h2.2.2.1
  | more a i m x xs b h1 h2 h3 h4 ih => exact ih
end Go.Proofs.YtembljihmnmmfaaGreat
