/- Chapter 3: sums over the symbols are sums over the sorted leaves (plain). -/
import Derived.Test.YtpmiphnjnbkjlaaC3Lens
import Derived.Test.YtpmiphnjnbkjlaaC3Huff
namespace Go.Proofs.Ytpmiphnjnbkjlaa
set_option linter.unusedVariables false
set_option linter.unusedSimpArgs false

theorem getD_in {l : List Nat} {i : Nat} (h : i < l.length) : l.getD i 0 = l[i] := by simp [List.getD_eq_getElem?_getD, h]
/-- The symbol of the leaf at a place. -/
def symJ (L : List Item) (j : Nat) : Nat := ((L.map Prod.snd).getD j 0).toNat
theorem rsum_perm (n : Nat) (p : Nat → Nat) (h : ((List.range n).map p).Perm (List.range n)) (g : Nat → Nat) : rsum n (fun s => g (p s)) = rsum n g := by
  have := perm_sum (h.map g)
  rw [List.map_map, rsum_map] at this
  rw [rsum_map] at this
  exact this
theorem leaf_len {zs : List Int} {n : Nat} {L : List Item} (hp : L.Perm (items zs n)) : L.length = n := by rw [hp.length_eq, items_len]
theorem sym_lt {zs : List Int} {n : Nat} {L : List Item} (hp : L.Perm (items zs n)) (j : Nat) (hj : j < n) : symJ L j < n := by
  have hl := leaf_len hp
  have h := items_sym zs n _ (hp.mem_iff.1 (List.getElem_mem (show j < L.length by omega)))
  have e : symJ L j = (L[j]'(by omega)).2.toNat := by simp [symJ, List.getD_eq_getElem?_getD, hl, hj]
  omega
theorem sym_eq {zs : List Int} {n : Nat} {L : List Item} (hp : L.Perm (items zs n)) (j : Nat) (hj : j < L.length) : (L[j]).2 = (symJ L j : Nat) := by
  have h := items_sym zs n _ (hp.mem_iff.1 (List.getElem_mem hj))
  have e : symJ L j = (L[j]).2.toNat := by simp [symJ, List.getD_eq_getElem?_getD, hj]
  omega
theorem pos_sym {zs : List Int} {n : Nat} {L : List Item} (hp : L.Perm (items zs n)) (j : Nat) (hj : j < n) : pos L (symJ L j) = j := by
  have hl := leaf_len hp
  exact pos_of hp j (by omega) _ (sym_eq hp j (by omega))
theorem sym_pos {zs : List Int} {n : Nat} {L : List Item} (hp : L.Perm (items zs n)) (s : Nat) (hs : s < n) : symJ L (pos L s) = s := by
  have h := sym_eq hp (pos L s) (pos_lt hp s hs)
  rw [pos_get hp s hs] at h
  omega
theorem sym_perm {zs : List Int} {n : Nat} {L : List Item} (hp : L.Perm (items zs n)) : ((List.range n).map (symJ L)).Perm (List.range n) := by
  have hl := leaf_len hp
  have h := (leaf_syms hp).map Int.toNat
  rw [List.map_map, List.map_map] at h
  have e1 : List.map (Int.toNat ∘ fun (i : Nat) => (i : Int)) (List.range n) = List.range n := by
    rw [show (Int.toNat ∘ fun (i : Nat) => (i : Int)) = id from funext fun i => by simp]; simp
  rw [e1] at h
  refine List.Perm.trans (List.Perm.of_eq ?_) h
  apply List.ext_getElem (by simp [hl])
  intro j g1 g2
  simp at g1
  simp [symJ, List.getD_eq_getElem?_getD, hl, g1]
theorem pos_perm {zs : List Int} {n : Nat} {L : List Item} (hp : L.Perm (items zs n)) : ((List.range n).map (pos L)).Perm (List.range n) := by
  have h := ((sym_perm hp).map (pos L)).symm
  refine h.trans (List.Perm.of_eq ?_)
  rw [List.map_map]
  apply List.ext_getElem (by simp)
  intro j g1 g2
  simp at g1
  simp [pos_sym hp j g1]
theorem pos_wgt {zs : List Int} {n : Nat} {L : List Item} (hp : L.Perm (items zs n)) (s : Nat) (hs : s < n) : (wts L).getD (pos L s) 0 = wgt (zs.getD s 0) := by
  have hlt := pos_lt hp s hs
  have hg := pos_get hp s hs
  have hm := hp.mem_iff.1 (List.getElem_mem hlt)
  simp only [items, List.mem_map, List.mem_range] at hm
  obtain ⟨i, hi, he⟩ := hm
  have h2 := congrArg Prod.snd he
  have h1 := congrArg Prod.fst he
  simp only at h1 h2
  rw [hg] at h2
  have : i = s := by omega
  subst this
  rw [h1]
  simp [wts, List.getD_eq_getElem?_getD, hlt]

/-- What Lens answers, by symbols. -/
def lenS (L : List Item) (n lim s : Nat) : Nat := lenJ L (lim - 1) (2 * n - 2) (pos L s)
theorem lenS_range {zs : List Int} {n lim : Nat} {L : List Item} (hp : L.Perm (items zs n)) (hs : LexS L) (h2 : 2 ≤ n) (h1 : 1 ≤ lim) (hpow : n ≤ 2 ^ lim) (s : Nat) (hsn : s < n) : 1 ≤ lenS L n lim s ∧ lenS L n lim s ≤ lim := by
  have hl := leaf_len hp
  obtain ⟨k, rfl⟩ : ∃ k, lim = k + 1 := ⟨lim - 1, by omega⟩
  have hL := leaf_isLeaf hp
  have hm := row_big L k (by omega)
  have ht := pm_top L hL hs.sorted (by omega) k _ hm (Nat.le_refl _)
  have hlt := pos_lt hp s hsn
  rw [hl] at ht
  constructor
  · exact lenJ_pos L k _ _ (by rw [ht]; omega)
  · exact lenJ_le L k _ _
theorem lenS_kraft {zs : List Int} {n lim : Nat} {L : List Item} (hp : L.Perm (items zs n)) (hs : LexS L) (h2 : 2 ≤ n) (h1 : 1 ≤ lim) (hpow : n ≤ 2 ^ lim) (D : Nat) (hD : lim ≤ D) : rsum n (fun s => 2 ^ (D - lenS L n lim s)) = 2 ^ D := by
  have hl := leaf_len hp
  obtain ⟨k, rfl⟩ : ∃ k, lim = k + 1 := ⟨lim - 1, by omega⟩
  have hw := pm_whole L (leaf_isLeaf hp) hs.sorted (by omega) k (by omega)
  rw [hl] at hw
  have e : rsum n (fun s => 2 ^ (D - lenS L n (k + 1) s)) = rsum n (fun s => 2 ^ (D - (k + 1)) * 2 ^ (k + 1 - lenS L n (k + 1) s)) :=
    rsum_congr fun s hsn => by
      have := (lenS_range hp hs h2 h1 hpow s hsn).2
      rw [← Nat.pow_add]; congr 1; omega
  have hx : rsum n (fun s => 2 ^ (k + 1 - lenS L n (k + 1) s)) = rsum n (fun j => 2 ^ (k + 1 - lenJ L k (2 * n - 2) j)) := rsum_perm n (pos L) (pos_perm hp) (fun j => 2 ^ (k + 1 - lenJ L k (2 * n - 2) j))
  rw [e, rsum_mul, hx, hw, ← Nat.pow_add]; congr 1; omega
theorem lenS_cost {zs : List Int} {n lim : Nat} {L : List Item} (hp : L.Perm (items zs n)) (h1 : 1 ≤ lim) (hpow : n ≤ 2 ^ lim) : rsum n (fun s => wgt (zs.getD s 0) * lenS L n lim s) = (wts ((rowM L (lim - 1)).take (2 * L.length - 2))).sum := by
  have hl := leaf_len hp
  obtain ⟨k, rfl⟩ : ∃ k, lim = k + 1 := ⟨lim - 1, by omega⟩
  have hm := row_big L k (by omega)
  have hc := pm_cost L (leaf_isLeaf hp) k _ hm
  rw [show k + 1 - 1 = k by omega, ← hc, hl, ← rsum_perm n (pos L) (pos_perm hp) (fun j => (wts L).getD j 0 * lenJ L k (2 * n - 2) j)]
  exact rsum_congr fun s hsn => by rw [pos_wgt hp s hsn]; rfl
/-- None within the limit needs less. -/
theorem lenS_best {zs : List Int} {n lim : Nat} {L : List Item} (hp : L.Perm (items zs n)) (hs : LexS L) (h1 : 1 ≤ lim) (hpow : n ≤ 2 ^ lim) (l : Nat → Nat) (hl1 : ∀ s, s < n → 1 ≤ l s ∧ l s ≤ lim) (hK : rsum n (fun s => 2 ^ (lim - l s)) ≤ 2 ^ lim) :
    rsum n (fun s => wgt (zs.getD s 0) * lenS L n lim s) ≤ rsum n (fun s => wgt (zs.getD s 0) * l s) := by
  have hl := leaf_len hp
  rw [lenS_cost hp h1 hpow]
  obtain ⟨k, rfl⟩ : ∃ k, lim = k + 1 := ⟨lim - 1, by omega⟩
  have hb := pm_best L (leaf_isLeaf hp) hs.sorted k (fun j => l (symJ L j)) (fun j hj => hl1 _ (sym_lt hp j (by omega))) (by
    rw [hl, rsum_perm n (symJ L) (sym_perm hp) (fun s => 2 ^ (k + 1 - l s))]
    exact hK)
  refine Nat.le_trans hb (Nat.le_of_eq ?_)
  rw [hl, ← rsum_perm n (pos L) (pos_perm hp)]
  exact rsum_congr fun s hsn => by rw [pos_wgt hp s hsn, sym_pos hp s hsn]
/-- What comes more often has no longer code. -/
theorem lenS_often {zs : List Int} {n lim : Nat} {L : List Item} (hp : L.Perm (items zs n)) (hs : LexS L) (i k : Nat) (hi : i < n) (hk : k < n) (h : wgt (zs.getD k 0) < wgt (zs.getD i 0)) : lenS L n lim i ≤ lenS L n lim k := by
  refine lenJ_mono L _ _ _ _ ?_
  rcases Nat.lt_or_ge (pos L i) (pos L k) with hlt | hge
  · exfalso
    have hlk := pos_lt hp k hk
    have hli := pos_lt hp i hi
    have := (List.pairwise_iff_getElem.1 hs.sorted) (pos L i) (pos L k) (by simpa [wts] using hli) (by simpa [wts] using hlk) hlt
    have e1 := pos_wgt hp i hi
    have e2 := pos_wgt hp k hk
    rw [getD_in (by simpa [wts] using hli)] at e1
    rw [getD_in (by simpa [wts] using hlk)] at e2
    omega
  · exact hge
/-- A wider limit needs no more. -/
theorem lenS_wider {zs : List Int} {n lim : Nat} {L : List Item} (hp : L.Perm (items zs n)) (hs : LexS L) (h2 : 2 ≤ n) (h1 : 1 ≤ lim) (hpow : n ≤ 2 ^ lim) :
    rsum n (fun s => wgt (zs.getD s 0) * lenS L n (lim + 1) s) ≤ rsum n (fun s => wgt (zs.getD s 0) * lenS L n lim s) :=
  lenS_best hp hs (by omega) (by rw [Nat.pow_succ]; omega) (lenS L n lim) (fun s h => by have := lenS_range hp hs h2 h1 hpow s h; omega)
    (Nat.le_of_eq (lenS_kraft hp hs h2 h1 hpow (lim + 1) (by omega)))
/-- No less than Huffman's sum. -/
theorem lenS_huff {zs : List Int} {n lim c : Nat} {L : List Item} (hp : L.Perm (items zs n)) (hs : LexS L) (h2 : 2 ≤ n) (h1 : 1 ≤ lim) (hpow : n ≤ 2 ^ lim) (hh : Huff (wl zs n) c) :
    c ≤ rsum n (fun s => wgt (zs.getD s 0) * lenS L n lim s) := by
  have h := huff_low hh ((List.range n).map fun s => (wgt (zs.getD s 0), lenS L n lim s)) lim (by simp [wl, Function.comp_def]) (by
      intro z hz
      simp only [List.mem_map, List.mem_range] at hz
      obtain ⟨s, hs', rfl⟩ := hz
      exact (lenS_range hp hs h2 h1 hpow s hs').2) (by
      unfold krP
      rw [List.map_map]
      have e := rsum_map n (fun s => 2 ^ (lim - lenS L n lim s))
      simp only [Function.comp_def]
      rw [e]
      exact lenS_kraft hp hs h2 h1 hpow lim (Nat.le_refl _))
  unfold costP at h
  rw [List.map_map] at h
  have e := rsum_map n (fun s => wgt (zs.getD s 0) * lenS L n lim s)
  simp only [Function.comp_def] at h
  omega
theorem getD_map_snd (P : List WL) (s : Nat) (h : s < P.length) : (P.map Prod.snd).getD s 0 = (P[s]).2 := by simp [List.getD_eq_getElem?_getD, h]
/-- With room enough it is Huffman's sum. -/
theorem lenS_huff_up {zs : List Int} {n lim c : Nat} {L : List Item} (hp : L.Perm (items zs n)) (hs : LexS L) (h2 : 2 ≤ n) (hn : n ≤ lim + 1) (hpow : n ≤ 2 ^ lim) (hh : Huff (wl zs n) c) :
    rsum n (fun s => wgt (zs.getD s 0) * lenS L n lim s) ≤ c := by
  obtain ⟨P, e1, e2, e3, e4, e5⟩ := huff_up hh
  have hPl : P.length = n := by have := congrArg List.length e1; simpa [wl_len] using this
  rw [wl_len] at e2 e3 e4
  have hsum : ∀ g : WL → Nat, (P.map g).sum = rsum n (fun s => g (P.getD s (0, 0))) := by
    intro g
    rw [← rsum_map]
    congr 1
    apply List.ext_getElem (by simp [hPl])
    intro j g1 g2
    simp at g1
    simp [List.getD_eq_getElem?_getD, g1]
  have hw : ∀ s, s < n → (P.getD s (0, 0)).1 = wgt (zs.getD s 0) := by
    intro s hsn
    have hsP : s < P.length := by omega
    have h := congrArg (fun l : List Nat => l[s]?) e1
    simp only [wl, List.getElem?_map, List.getElem?_range hsn, List.getElem?_eq_getElem hsP, Option.map_some] at h
    have h := Option.some.inj h
    rw [show P.getD s (0, 0) = P[s] by simp [List.getD_eq_getElem?_getD, hsP]]
    exact h
  have hmem : ∀ s, s < n → P.getD s (0, 0) ∈ P := by
    intro s hsn
    simp [List.getD_eq_getElem?_getD, hPl, hsn]
  have hb := lenS_best (lim := lim) hp hs (by omega) hpow (fun s => (P.getD s (0, 0)).2) (fun s hsn => by
      have a := e2 _ (hmem s hsn)
      have b := e3 h2 _ (hmem s hsn)
      omega) (by
      refine Nat.le_of_eq ?_
      have hk := e4
      unfold krP at hk
      rw [hsum (fun z => 2 ^ (n - 1 - z.2))] at hk
      have e : rsum n (fun s => 2 ^ (lim - (P.getD s (0, 0)).2)) = rsum n (fun s => 2 ^ (lim - (n - 1)) * 2 ^ (n - 1 - (P.getD s (0, 0)).2)) :=
        rsum_congr fun s hsn => by
          have a := e2 _ (hmem s hsn)
          rw [← Nat.pow_add]; congr 1; omega
      rw [e, rsum_mul, hk, ← Nat.pow_add]; congr 1; omega)
  refine Nat.le_trans hb (Nat.le_of_eq ?_)
  rw [← e5]
  unfold costP
  rw [hsum (fun z => z.1 * z.2)]
  exact rsum_congr fun s hsn => by rw [hw s hsn]
end Go.Proofs.Ytpmiphnjnbkjlaa
