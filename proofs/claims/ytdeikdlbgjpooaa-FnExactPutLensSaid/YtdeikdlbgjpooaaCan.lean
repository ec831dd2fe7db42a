/- Canonical prefix codes, plain mathematics: their order, that they fit, that none begins another. No condition. -/
import Derived.Test.YtdeikdlbgjpooaaPM
namespace Go.Proofs.Ytdeikdlbgjpooaa
set_option linter.unusedVariables false
set_option linter.unusedSimpArgs false

/-! ### lengths l 0 .. l (n-1), each 1 .. 20 -/
def bef (l : Nat → Nat) (t s : Nat) : Bool := decide (l t < l s ∨ (l t = l s ∧ t < s))
theorem bef_iff (l : Nat → Nat) (t s : Nat) : bef l t s = true ↔ l t < l s ∨ (l t = l s ∧ t < s) := by simp [bef]
/-- What the codes ahead of s take of all. -/
def kBef (n : Nat) (l : Nat → Nat) (s : Nat) : Nat := rsum n fun t => if bef l t s = true then 2 ^ (20 - l t) else 0
def codeN (n : Nat) (l : Nat → Nat) (s : Nat) : Nat := kBef n l s / 2 ^ (20 - l s)
theorem rsum_dvd {n d : Nat} {f : Nat → Nat} (h : ∀ t, t < n → d ∣ f t) : d ∣ rsum n f := by
  induction n with
  | zero => exact Nat.dvd_zero _
  | succ n ih => exact Nat.dvd_add (ih fun t ht => h t (by omega)) (h n (by omega))
theorem kBef_dvd (n : Nat) (l : Nat → Nat) (s : Nat) : 2 ^ (20 - l s) ∣ kBef n l s := by
  refine rsum_dvd fun t ht => ?_
  by_cases h : bef l t s = true
  · rw [if_pos h]
    have := (bef_iff l t s).1 h
    exact Nat.pow_dvd_pow 2 (by omega)
  · rw [if_neg h]; exact Nat.dvd_zero _
theorem codeN_mul (n : Nat) (l : Nat → Nat) (s : Nat) : codeN n l s * 2 ^ (20 - l s) = kBef n l s := Nat.div_mul_cancel (kBef_dvd n l s)
theorem rsum_one_le {n : Nat} {f : Nat → Nat} {t : Nat} (h : t < n) : f t ≤ rsum n f := by
  induction n with
  | zero => omega
  | succ n ih =>
    show f t ≤ rsum n f + f n
    rcases Nat.lt_or_ge t n with h2 | h2
    · have := ih h2; omega
    · rw [show t = n by omega]; omega
theorem rsum_point (n t x : Nat) (h : t < n) : rsum n (fun j => if j = t then x else 0) = x := by
  induction n with
  | zero => omega
  | succ n ih =>
    show rsum n _ + (if n = t then x else 0) = x
    rcases Nat.lt_or_ge t n with h2 | h2
    · rw [ih h2, if_neg (by omega), Nat.add_zero]
    · have e : t = n := by omega
      subst e
      rw [if_pos rfl, rsum_congr (g := fun _ => 0) fun j hj => if_neg (by omega), rsum_zero, Nat.zero_add]
theorem kBef_step (n : Nat) (l : Nat → Nat) (t s : Nat) (ht : t < n) (h : bef l t s = true) : kBef n l t + 2 ^ (20 - l t) ≤ kBef n l s := by
  unfold kBef
  rw [← rsum_point n t (2 ^ (20 - l t)) ht, ← rsum_add]
  refine rsum_le fun j hj => ?_
  have hts := (bef_iff l t s).1 h
  by_cases e : j = t
  · subst e
    rw [if_pos rfl, if_pos h, if_neg (by rw [bef_iff]; omega), Nat.zero_add]
    exact Nat.le_refl _
  · rw [if_neg e, Nat.add_zero]
    by_cases h2 : bef l j t = true
    · have := (bef_iff l j t).1 h2
      rw [if_pos h2, if_pos ((bef_iff l j s).2 (by omega))]
      exact Nat.le_refl _
    · rw [if_neg h2]; exact Nat.zero_le _
theorem kBef_top (n : Nat) (l : Nat → Nat) (s : Nat) (hs : s < n) : kBef n l s + 2 ^ (20 - l s) ≤ rsum n fun t => 2 ^ (20 - l t) := by
  unfold kBef
  rw [← rsum_point n s (2 ^ (20 - l s)) hs, ← rsum_add]
  refine rsum_le fun j hj => ?_
  by_cases e : j = s
  · subst e
    rw [if_pos rfl, if_neg (by rw [bef_iff]; omega), Nat.zero_add]
    exact Nat.le_refl _
  · rw [if_neg e, Nat.add_zero]
    split
    · exact Nat.le_refl _
    · exact Nat.zero_le _
theorem bef_total (l : Nat → Nat) {t s : Nat} (h : t ≠ s) : bef l t s = true ∨ bef l s t = true := by
  rw [bef_iff, bef_iff]; omega
theorem codeN_lt (n : Nat) (l : Nat → Nat) (s : Nat) (hs : s < n) (h20 : l s ≤ 20) (hk : rsum n (fun t => 2 ^ (20 - l t)) ≤ 2 ^ 20) : codeN n l s < 2 ^ l s := by
  have h1 := kBef_top n l s hs
  have h2 := codeN_mul n l s
  have h3 : 2 ^ l s * 2 ^ (20 - l s) = 2 ^ 20 := by rw [← Nat.pow_add]; congr 1; omega
  have h4 : (codeN n l s + 1) * 2 ^ (20 - l s) ≤ 2 ^ l s * 2 ^ (20 - l s) := by rw [Nat.add_mul, Nat.one_mul, h2, h3]; omega
  exact Nat.lt_of_succ_le (Nat.le_of_mul_le_mul_right h4 (Nat.two_pow_pos _))
/-- No code begins another. -/
theorem codeN_free (n : Nat) (l : Nat → Nat) (i k : Nat) (hi : i < n) (hk : k < n) (hne : i ≠ k) (hle : l i ≤ l k) (h20 : l k ≤ 20) : codeN n l k / 2 ^ (l k - l i) ≠ codeN n l i := by
  intro e
  have hki : codeN n l k / 2 ^ (l k - l i) = kBef n l k / 2 ^ (20 - l i) := by
    rw [codeN, Nat.div_div_eq_div_mul, ← Nat.pow_add]
    congr 2; omega
  rw [hki] at e
  have hp : 0 < 2 ^ (20 - l i) := Nat.two_pow_pos _
  have hm := codeN_mul n l i
  rw [← e] at hm
  have h1 := Nat.div_mul_le_self (kBef n l k) (2 ^ (20 - l i))
  have h2 := Nat.lt_div_mul_add hp (a := kBef n l k)
  rcases bef_total l hne with h | h
  · have := kBef_step n l i k hi h
    omega
  · have h3 := kBef_step n l k i hk h
    have h4 := (bef_iff l k i).1 h
    have h5 : l k = l i := by omega
    have : 0 < 2 ^ (20 - l k) := Nat.two_pow_pos _
    omega
/-- Two symbols of one length and one code are one. -/
theorem codeN_inj (n : Nat) (l : Nat → Nat) (i k : Nat) (hi : i < n) (hk : k < n) (h20 : l k ≤ 20) (hl : l i = l k) (hc : codeN n l i = codeN n l k) : i = k := by
  apply Classical.byContradiction
  intro hne
  refine codeN_free n l i k hi hk hne (by omega) h20 ?_
  rw [hl, Nat.sub_self, Nat.pow_zero, Nat.div_one, hc]

/-! ### the order -/
def lenIs (n : Nat) (l : Nat → Nat) (m i : Nat) : List Nat := (List.range i).filter fun s => decide (l s = m)
def ordU (n : Nat) (l : Nat → Nat) : Nat → List Nat
  | 0 => []
  | m + 1 => ordU n l m ++ lenIs n l (m + 1) n
theorem lenIs_succ (n : Nat) (l : Nat → Nat) (m i : Nat) : lenIs n l m (i + 1) = if l i = m then lenIs n l m i ++ [i] else lenIs n l m i := by
  unfold lenIs
  rw [List.range_succ, List.filter_append]
  by_cases h : l i = m
  · rw [if_pos h]; simp [h]
  · rw [if_neg h]; simp [h]
theorem mem_lenIs (n : Nat) (l : Nat → Nat) (m i s : Nat) : s ∈ lenIs n l m i ↔ s < i ∧ l s = m := by simp [lenIs]
theorem mem_ordU (n : Nat) (l : Nat → Nat) (m s : Nat) : s ∈ ordU n l m ↔ s < n ∧ 1 ≤ l s ∧ l s ≤ m := by
  induction m with
  | zero => simp [ordU]; omega
  | succ m ih => rw [ordU, List.mem_append, ih, mem_lenIs]; omega
theorem lenIs_bef (n : Nat) (l : Nat → Nat) (m i : Nat) : (lenIs n l m i).Pairwise (fun a b => bef l a b = true) := by
  unfold lenIs
  have h := (List.pairwise_lt_range (n := i)).filter (fun s => decide (l s = m))
  refine List.Pairwise.imp_of_mem ?_ h
  intro a b ha hb hab
  have h1 : l a = m := by simpa using (List.mem_filter.1 ha).2
  have h2 : l b = m := by simpa using (List.mem_filter.1 hb).2
  rw [bef_iff]; omega
theorem ordU_bef (n : Nat) (l : Nat → Nat) (m : Nat) : (ordU n l m).Pairwise (fun a b => bef l a b = true) := by
  induction m with
  | zero => exact List.Pairwise.nil
  | succ m ih =>
    rw [ordU, List.pairwise_append]
    refine ⟨ih, lenIs_bef n l (m + 1) n, fun a ha b hb => ?_⟩
    have h1 := (mem_ordU n l m a).1 ha
    have h2 := (mem_lenIs n l (m + 1) n b).1 hb
    rw [bef_iff]; omega
theorem bef_ne {l : Nat → Nat} {a b : Nat} (h : bef l a b = true) : a ≠ b := by
  rintro rfl
  rw [bef_iff] at h; omega
theorem ordU_nodup (n : Nat) (l : Nat → Nat) (m : Nat) : (ordU n l m).Nodup := (ordU_bef n l m).imp fun h => bef_ne h
theorem ordU_perm (n : Nat) (l : Nat → Nat) (h : ∀ s, s < n → 1 ≤ l s ∧ l s ≤ 20) : (ordU n l 20).Perm (List.range n) := by
  rw [List.perm_ext_iff_of_nodup (ordU_nodup n l 20) List.nodup_range]
  intro s
  rw [mem_ordU, List.mem_range]
  exact ⟨fun h => h.1, fun hs => ⟨hs, h s hs⟩⟩
theorem ordU_len (n : Nat) (l : Nat → Nat) (h : ∀ s, s < n → 1 ≤ l s ∧ l s ≤ 20) : (ordU n l 20).length = n := by rw [(ordU_perm n l h).length_eq, List.length_range]
theorem lenIs_length (n : Nat) (l : Nat → Nat) (m i : Nat) : (lenIs n l m i).length ≤ i := by
  unfold lenIs; exact Nat.le_trans (List.length_filter_le _ _) (by simp)
theorem count_two (R : List Nat) (p q r : Nat → Bool) (h : ∀ s, r s = (p s || q s)) (hd : ∀ s, p s = true → q s = false) : R.countP p + R.countP q = R.countP r := by
  induction R with
  | nil => rfl
  | cons x R ih =>
    rw [List.countP_cons, List.countP_cons, List.countP_cons, ← ih, h x]
    cases hp : p x
    · cases hq : q x <;> simp <;> omega
    · rw [hd x hp]; simp; omega
theorem ordU_count (n : Nat) (l : Nat → Nat) (m : Nat) : (ordU n l m).length = (List.range n).countP fun s => decide (1 ≤ l s ∧ l s ≤ m) := by
  induction m with
  | zero =>
    rw [List.countP_eq_zero.2]
    · rfl
    · intro s _; simp; omega
  | succ m ih =>
    rw [ordU, List.length_append, ih]
    unfold lenIs
    rw [← List.countP_eq_length_filter]
    refine count_two _ _ _ _ (fun s => ?_) (fun s hs => ?_)
    · by_cases h1 : 1 ≤ l s ∧ l s ≤ m
      · simp [h1]; omega
      · by_cases h2 : l s = m + 1
        · simp [h2]
        · simp [h1, h2]; omega
    · simp only [decide_eq_true_eq, decide_eq_false_iff_not] at hs ⊢; omega
theorem ordU_length (n : Nat) (l : Nat → Nat) (m : Nat) : (ordU n l m).length ≤ n := by
  rw [ordU_count]
  exact Nat.le_trans List.countP_le_length (by simp)
theorem ordP_length (n : Nat) (l : Nat → Nat) (m i : Nat) (hi : i ≤ n) : (ordU n l m ++ lenIs n l (m + 1) i).length ≤ n := by
  have h1 := ordU_length n l (m + 1)
  rw [ordU, List.length_append] at h1
  have h2 : (lenIs n l (m + 1) i).length ≤ (lenIs n l (m + 1) n).length := by
    unfold lenIs
    have : List.Sublist (List.range i) (List.range n) := List.range_sublist.2 hi
    exact (this.filter _).length_le
  rw [List.length_append]; omega
theorem perm_sumN {a b : List Nat} (h : a.Perm b) : a.sum = b.sum := by
  induction h with
  | nil => rfl
  | cons x _ ih => simp [ih]
  | swap x y l => simp; omega
  | trans _ _ ih1 ih2 => exact ih1.trans ih2
theorem sum_zeros : ∀ (L : List Nat), (∀ x ∈ L, x = 0) → L.sum = 0 := by
  intro L
  induction L with
  | nil => intro _; rfl
  | cons x L ih => intro h; rw [List.sum_cons, h x (by simp), ih fun y hy => h y (by simp [hy])]
/-- What lies ahead of the k-th of the order are just the k first. -/
theorem kBef_list (n : Nat) (l : Nat → Nat) (O : List Nat) (hp : O.Perm (List.range n)) (hO : O.Pairwise (fun a b => bef l a b = true)) (k : Nat) (hk : k < O.length) : kBef n l O[k] = ((O.take k).map fun t => 2 ^ (20 - l t)).sum := by
  obtain ⟨s, hs⟩ : ∃ s, O[k] = s := ⟨_, rfl⟩
  rw [List.pairwise_iff_getElem] at hO
  have h1 : ((O.take k).map fun t => if bef l t s = true then 2 ^ (20 - l t) else 0) = (O.take k).map fun t => 2 ^ (20 - l t) := by
    refine List.map_congr_left fun t ht => ?_
    obtain ⟨j, hj, rfl⟩ := List.getElem_of_mem ht
    rw [List.length_take] at hj
    have h3 := hO j k (by omega) hk (by omega)
    rw [hs] at h3
    rw [List.getElem_take, if_pos h3]
  have h2 : ((O.drop k).map fun t => if bef l t s = true then 2 ^ (20 - l t) else 0).sum = 0 := by
    refine sum_zeros _ fun x hx => ?_
    rw [List.mem_map] at hx
    obtain ⟨t, ht, rfl⟩ := hx
    obtain ⟨j, hj, rfl⟩ := List.getElem_of_mem ht
    rw [List.length_drop] at hj
    rw [List.getElem_drop, if_neg]
    intro hb
    rcases Nat.eq_zero_or_pos j with h0 | h0
    · subst h0
      rw [show O[k + 0] = s from hs] at hb
      exact bef_ne hb rfl
    · have h3 := hO k (k + j) hk (by omega) (by omega)
      rw [hs] at h3
      rw [bef_iff] at h3 hb
      omega
  rw [hs]
  unfold kBef
  rw [← rsum_map, perm_sumN (hp.symm.map _)]
  have e : O = O.take k ++ O.drop k := (List.take_append_drop k O).symm
  have e2 : (O.map fun t => if bef l t s = true then 2 ^ (20 - l t) else 0) = ((O.take k).map fun t => if bef l t s = true then 2 ^ (20 - l t) else 0) ++ ((O.drop k).map fun t => if bef l t s = true then 2 ^ (20 - l t) else 0) := by rw [← List.map_append, ← e]
  rw [e2, List.sum_append, h1, h2, Nat.add_zero]
theorem kBef_take (n : Nat) (l : Nat → Nat) (h : ∀ s, s < n → 1 ≤ l s ∧ l s ≤ 20) (k : Nat) (hk : k < (ordU n l 20).length) : kBef n l (ordU n l 20)[k] = (((ordU n l 20).take k).map fun t => 2 ^ (20 - l t)).sum :=
  kBef_list n l _ (ordU_perm n l h) (ordU_bef n l 20) k hk
theorem code_first (n : Nat) (l : Nat → Nat) (h : ∀ s, s < n → 1 ≤ l s ∧ l s ≤ 20) (hk : 0 < (ordU n l 20).length) : codeN n l (ordU n l 20)[0] = 0 := by
  unfold codeN
  rw [kBef_take n l h 0 hk]
  simp
theorem code_step (n : Nat) (l : Nat → Nat) (O : List Nat) (hp : O.Perm (List.range n)) (hO : O.Pairwise (fun a b => bef l a b = true)) (k : Nat) (hk : k + 1 < O.length) (t s : Nat) (ht : O[k] = t) (hs : O[k + 1] = s) (h20 : l s ≤ 20) :
    l t ≤ l s ∧ codeN n l s = (codeN n l t + 1) * 2 ^ (l s - l t) := by
  have hb := List.pairwise_iff_getElem.1 hO k (k + 1) (by omega) hk (by omega)
  rw [ht, hs] at hb
  have hle := (bef_iff _ _ _).1 hb
  have hlt : l t ≤ l s := by omega
  refine ⟨hlt, ?_⟩
  have e1 := kBef_list n l O hp hO k (by omega)
  have e2 := kBef_list n l O hp hO (k + 1) hk
  rw [List.take_succ_eq_append_getElem (by omega), List.map_append, List.sum_append, ← e1, ht] at e2
  simp only [List.map_cons, List.map_nil, List.sum_cons, List.sum_nil, Nat.add_zero] at e2
  rw [hs] at e2
  have m1 := codeN_mul n l t
  have m2 := codeN_mul n l s
  refine Nat.eq_of_mul_eq_mul_right (Nat.two_pow_pos (20 - l s)) ?_
  rw [m2, e2, Nat.mul_assoc, ← Nat.pow_add, show l s - l t + (20 - l s) = 20 - l t by omega, Nat.add_mul, Nat.one_mul, m1]
end Go.Proofs.Ytdeikdlbgjpooaa
