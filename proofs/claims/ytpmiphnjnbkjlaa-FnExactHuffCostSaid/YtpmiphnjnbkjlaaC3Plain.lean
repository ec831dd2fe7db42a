/- Chapter 3: Lens as a function, and what the laws say of it (plain). -/
import Derived.Test.YtpmiphnjnbkjlaaC3Sum
import Derived.Test.YtpmiphnjnbkjlaaC3Arr
namespace Go.Proofs.Ytpmiphnjnbkjlaa
set_option linter.unusedVariables false
set_option linter.unusedSimpArgs false

def lexB (a b : Item) : Bool := decide (a.1 < b.1 ∨ (a.1 = b.1 ∧ a.2 ≤ b.2))
/-- The leaves in order. -/
def leafL (zs : List Int) : List Item := (items zs zs.length).mergeSort lexB
theorem leafL_perm (zs : List Int) : (leafL zs).Perm (items zs zs.length) := List.mergeSort_perm _ _
theorem leafL_lex (zs : List Int) : LexS (leafL zs) := by
  have h1 : (leafL zs).Pairwise (fun a b => lexB a b = true) := List.pairwise_mergeSort (le := lexB)
    (fun a b c h h' => by simp only [lexB, decide_eq_true_eq] at *; omega) (fun a b => by simp only [lexB, Bool.or_eq_true, decide_eq_true_eq]; omega) _
  have h2 := leaf_nodup (leafL_perm zs)
  rw [List.Nodup, List.pairwise_map] at h2
  refine (h1.and h2).imp ?_
  intro a b h
  have h3 := h.1
  have h4 := h.2
  simp only [lexB, decide_eq_true_eq] at h3
  unfold lex
  omega
theorem leafL_eq {zs : List Int} {L : List Item} (hp : L.Perm (items zs zs.length)) (hs : LexS L) : L = leafL zs :=
  lex_unique hs (leafL_lex zs) (hp.trans (leafL_perm zs).symm)
/-- The lengths. -/
def lensF (zs : List Int) (lim : Nat) : List Int := if zs.length = 1 then [1] else (List.range zs.length).map fun s => (lenS (leafL zs) zs.length lim s : Int)
theorem lensF_len (zs : List Int) (lim : Nat) : (lensF zs lim).length = zs.length := by unfold lensF; split <;> simp [*]
theorem lensF_nats {zs : List Int} {L : List Item} (hp : L.Perm (items zs zs.length)) (hs : LexS L) (h2 : 2 ≤ zs.length) (lim : Nat) :
    nats zs.length (fun s => lenJ L (lim - 1) (2 * zs.length - 2) (pos L s)) = intsV (lensF zs lim) := by
  rw [leafL_eq hp hs]
  unfold lensF intsV nats
  rw [if_neg (by omega), List.map_map]
  rfl
theorem lensF_get {zs : List Int} (h2 : 2 ≤ zs.length) (lim s : Nat) (hs : s < zs.length) : (lensF zs lim).getD s 0 = (lenS (leafL zs) zs.length lim s : Int) := by
  unfold lensF; rw [if_neg (by omega)]; simp [List.getD_eq_getElem?_getD, hs]
/-- When Lens answers. -/
def lensOn (zs : List Int) (lim : Int) : Prop := fOk zs = true ∧ 1 ≤ lim ∧ lim ≤ 20 ∧ zs.length ≤ 2 ^ lim.toNat
instance (zs : List Int) (lim : Int) : Decidable (lensOn zs lim) := by unfold lensOn; exact inferInstance
theorem lensF_range {zs : List Int} {lim : Nat} (h : lensOn zs lim) (s : Nat) (hs : s < zs.length) : 1 ≤ (lensF zs lim).getD s 0 ∧ (lensF zs lim).getD s 0 ≤ lim := by
  obtain ⟨hf, h1, h20, hp⟩ := h
  have hn := (fOk_iff zs).1 hf
  rw [Int.toNat_natCast] at hp
  rcases Nat.lt_or_ge 1 zs.length with h2 | h2
  · rw [lensF_get (by omega) lim s hs]
    have := lenS_range (leafL_perm zs) (leafL_lex zs) (by omega) (by omega) hp s hs
    omega
  · have e : zs.length = 1 := by omega
    have e0 : s = 0 := by omega
    subst e0
    unfold lensF; rw [if_pos e]; simp; omega
theorem lensF_lRange {zs : List Int} {lim : Nat} (h : lensOn zs lim) : lRange (lensF zs lim) := by
  have hn := (fOk_iff zs).1 h.1
  refine ⟨by rw [lensF_len]; omega, by rw [lensF_len]; omega, fun k hk => ?_⟩
  rw [lensF_len] at hk
  have := lensF_range h k hk
  have := h.2.2.1
  omega
theorem lensF_kraft {zs : List Int} {lim : Nat} (h : lensOn zs lim) : kraftI (lensF zs lim) = if zs.length = 1 then 524288 else 1048576 := by
  rw [kraftI_yes (lensF_lRange h), lensF_len]
  obtain ⟨hf, h1, h20, hp⟩ := h
  have hn := (fOk_iff zs).1 hf
  rw [Int.toNat_natCast] at hp
  by_cases e : zs.length = 1
  · rw [if_pos e, e]
    unfold lensF; rw [if_pos e]
    rfl
  · rw [if_neg e]
    unfold kSum
    have hk := lenS_kraft (leafL_perm zs) (leafL_lex zs) (by omega) (by omega) hp 20 (by omega)
    have e2 : rsum zs.length (fun j => 2 ^ (20 - ((lensF zs lim).getD j 0).toNat)) = rsum zs.length (fun s => 2 ^ (20 - lenS (leafL zs) zs.length lim s)) :=
      rsum_congr fun s hs => by rw [lensF_get (by omega) lim s hs, Int.toNat_natCast]
    rw [e2, hk]; rfl
theorem lensF_lOk {zs : List Int} {lim : Nat} (h : lensOn zs lim) : lOk (lensF zs lim) = true := by
  unfold lOk; rw [lensF_kraft h]; split <;> decide
theorem lensF_cost {fs zs : List Int} {lim : Nat} (hf : fOk fs = true) (h : lensOn zs lim) (hl : fs.length = zs.length) : costI fs (lensF zs lim) = (cSum fs (lensF zs lim) fs.length : Int) :=
  costI_yes ⟨hf, lensF_lOk h, by rw [lensF_len, hl]⟩
/-- The weights are the numbers themselves where each symbol comes. -/
theorem wgt_one {x : Int} (h : 1 ≤ x) : wgt x = x.toNat := by unfold wgt; rw [if_neg (by omega)]
theorem cSum_len {fs zs : List Int} {lim : Nat} (h2 : 2 ≤ fs.length) (hl : fs.length = zs.length) (h1 : ∀ k, k < fs.length → 1 ≤ fs.getD k 0) :
    cSum fs (lensF zs lim) fs.length = rsum fs.length (fun s => wgt (fs.getD s 0) * lenS (leafL zs) fs.length lim s) := by
  unfold cSum
  exact rsum_congr fun s hs => by rw [lensF_get (by omega) lim s (by omega), Int.toNat_natCast, wgt_one (h1 s hs), hl]
theorem cSum_one {fs zs : List Int} {lim : Nat} (e : fs.length = 1) (hl : fs.length = zs.length) : cSum fs (lensF zs lim) fs.length = (fs.getD 0 0).toNat := by
  unfold lensF; rw [if_pos (by omega), e]
  unfold cSum rsum rsum; simp
/-- FnBest, its three sums. -/
theorem best_other {fs gs : List Int} {lim : Nat} (h : lensOn fs lim) (h1 : ∀ k, k < fs.length → 1 ≤ fs.getD k 0) (hg : fOk gs = true) (hl : gs.length = fs.length) : costI fs (lensF fs lim) ≤ costI fs (lensF gs lim) := by
  have h' : lensOn gs lim := ⟨hg, h.2.1, h.2.2.1, by rw [hl]; exact h.2.2.2⟩
  rw [lensF_cost h.1 h rfl, lensF_cost h.1 h' hl.symm]
  have hn := (fOk_iff fs).1 h.1
  have hp := h.2.2.2
  rw [Int.toNat_natCast] at hp
  rcases Nat.lt_or_ge 1 fs.length with h2 | h2
  · rw [cSum_len (by omega) rfl h1, cSum_len (by omega) hl.symm h1]
    have hlim := h.2.1
    have hb := lenS_best (lim := lim) (leafL_perm fs) (leafL_lex fs) (by omega) hp (lenS (leafL gs) fs.length lim)
      (fun s hs => by
        have := lenS_range (lim := lim) (leafL_perm gs) (leafL_lex gs) (by omega) (by omega) (by rw [hl]; exact hp) s (by rw [hl]; exact hs)
        rw [hl] at this; exact this)
      (Nat.le_of_eq (by
        have := lenS_kraft (lim := lim) (leafL_perm gs) (leafL_lex gs) (by omega) (by omega) (by rw [hl]; exact hp) lim (Nat.le_refl _)
        rw [hl] at this; exact this))
    exact Int.ofNat_le.2 hb
  · rw [cSum_one (by omega) rfl, cSum_one (by omega) hl.symm]; exact Int.le_refl _
theorem best_wider {fs : List Int} {lim : Nat} (h : lensOn fs lim) (h1 : ∀ k, k < fs.length → 1 ≤ fs.getD k 0) (hlt : lim < 20) : lensOn fs (lim + 1 : Nat) ∧ costI fs (lensF fs (lim + 1)) ≤ costI fs (lensF fs lim) := by
  have hp := h.2.2.2
  have hlim := h.2.1
  rw [Int.toNat_natCast] at hp
  have h' : lensOn fs (lim + 1 : Nat) := ⟨h.1, by omega, by omega, by rw [Int.toNat_natCast, Nat.pow_succ]; omega⟩
  refine ⟨h', ?_⟩
  rw [lensF_cost h.1 h rfl, lensF_cost h.1 h' rfl]
  have hn := (fOk_iff fs).1 h.1
  rcases Nat.lt_or_ge 1 fs.length with h2 | h2
  · rw [cSum_len (by omega) rfl h1, cSum_len (by omega) rfl h1]
    exact Int.ofNat_le.2 (lenS_wider (leafL_perm fs) (leafL_lex fs) (by omega) (by omega) hp)
  · rw [cSum_one (by omega) rfl, cSum_one (by omega) rfl]; exact Int.le_refl _
theorem best_huff {fs : List Int} {lim c : Nat} (h : lensOn fs lim) (h1 : ∀ k, k < fs.length → 1 ≤ fs.getD k 0) (hc : HuffIs fs c) : (c : Int) ≤ costI fs (lensF fs lim) ∧ (lim = 20 → fs.length ≤ 20 → costI fs (lensF fs lim) = c) := by
  have hp := h.2.2.2
  have hlim := h.2.1
  rw [Int.toNat_natCast] at hp
  rw [lensF_cost h.1 h rfl]
  have hn := (fOk_iff fs).1 h.1
  rcases Nat.lt_or_ge 1 fs.length with h2 | h2
  · rw [cSum_len (by omega) rfl h1]
    have hlo := lenS_huff (leafL_perm fs) (leafL_lex fs) (by omega) (by omega) hp (hc.2.1 (by omega))
    refine ⟨Int.ofNat_le.2 hlo, fun hl hle => ?_⟩
    have hup := lenS_huff_up (lim := lim) (leafL_perm fs) (leafL_lex fs) (by omega) (by omega) hp (hc.2.1 (by omega))
    exact congrArg Int.ofNat (Nat.le_antisymm hup hlo)
  · have e : fs.length = 1 := by omega
    rw [cSum_one e rfl]
    have hc1 := hc.1 e
    have := wgt_one (h1 0 (by omega))
    rw [this] at hc1
    exact ⟨by omega, fun _ _ => by omega⟩
/-- Huffman's sum is one number. -/
theorem huff_one {fs : List Int} {c c' : Nat} (hf : fOk fs = true) (h : HuffIs fs c) (h' : HuffIs fs c') : c = c' := by
  have hn := (fOk_iff fs).1 hf
  rcases Nat.lt_or_ge 1 fs.length with h2 | h2
  · exact huff_same (h.2.1 (by omega)) (h'.2.1 (by omega)) (List.Perm.refl _)
  · rw [h.1 (by omega), h'.1 (by omega)]
/-- FnOften. -/
theorem often {fs : List Int} {lim : Nat} (h : lensOn fs lim) (i k : Nat) (hi : i < fs.length) (hk : k < fs.length) (h1 : fs.getD k 0 < fs.getD i 0) (h2 : 1 < fs.getD i 0) : (lensF fs lim).getD i 0 ≤ (lensF fs lim).getD k 0 := by
  have hn := (fOk_iff fs).1 h.1
  rcases Nat.lt_or_ge 1 fs.length with h3 | h3
  · rw [lensF_get (by omega) lim i hi, lensF_get (by omega) lim k hk]
    refine Int.ofNat_le.2 (lenS_often (leafL_perm fs) (leafL_lex fs) i k hi hk ?_)
    have := hn.2.2 k hk
    rw [wgt_one (by omega : 1 ≤ fs.getD i 0)]
    unfold wgt
    split <;> omega
  · have : i = 0 := by omega
    have : k = 0 := by omega
    subst_vars
    exact Int.le_refl _
theorem lensF_wide {zs : List Int} {lim : Nat} (h : lensOn zs lim) : ∀ x ∈ lensF zs lim, -9223372036854775808 ≤ x ∧ x ≤ 9223372036854775807 := by
  intro x hx
  obtain ⟨j, hj, e⟩ := mem_getD hx
  rw [lensF_len] at hj
  have := lensF_range h j hj
  have := h.2.2.1
  omega
end Go.Proofs.Ytpmiphnjnbkjlaa
