/- Chapter 7: orders and sets as bits, read back, as plain lists of numbers. No condition. -/
import Derived.Test.YtpdicijoohahaaaAlph
import Derived.Test.YtpdicijoohahaaaGam
namespace Go.Proofs.Ytpdicijoohahaaa
set_option linter.unusedVariables false
set_option linter.unusedSimpArgs false

/-- The least number of bits in which m numbers can be told apart. -/
def needB (m : Nat) : Nat := if m ≤ 1 then 0 else Nat.log2 (m - 1) + 1
theorem need_up (m : Nat) : m ≤ 2 ^ needB m := by
  unfold needB
  split
  · simp; omega
  · have := log_up (m - 1); omega
theorem need_low (m j : Nat) (h : j < needB m) : 2 ^ j < m := by
  unfold needB at h
  split at h
  · omega
  · have h1 := log_low (n := m - 1) (by omega)
    have h2 : 2 ^ j ≤ 2 ^ Nat.log2 (m - 1) := Nat.pow_le_pow_right (by omega) (by omega)
    omega
theorem need_le (m : Nat) (h : m ≤ 256) : needB m ≤ 8 := by
  rcases Nat.lt_or_ge 8 (needB m) with h2 | h2
  · have := need_low m 8 h2
    omega
  · exact h2
theorem need_one {m n : Nat} (h1 : m ≤ 2 ^ n) (h2 : ∀ j, j < n → 2 ^ j < m) : n = needB m := by
  rcases Nat.lt_trichotomy n (needB m) with h | h | h
  · have := need_low m n h; omega
  · exact h
  · have := h2 _ h; have := need_up m; omega

/-- An order as bits. -/
def putO : List Nat → List Nat → List Nat
  | _, [] => []
  | u, x :: o => nbits (u.idxOf x) (needB u.length) ++ putO (u.erase x) o
theorem putO_lt (u o : List Nat) : ∀ b ∈ putO u o, b < 2 := by
  induction o generalizing u with
  | nil => simp [putO]
  | cons x o ih =>
    intro b hb
    unfold putO at hb
    rcases List.mem_append.1 hb with h | h
    · exact nbits_lt _ _ b h
    · exact ih _ b h
theorem putO_len (u o : List Nat) (h : u.length ≤ 256) : (putO u o).length ≤ 8 * o.length := by
  induction o generalizing u with
  | nil => simp [putO]
  | cons x o ih =>
    unfold putO
    rw [List.length_append, nbits_len, List.length_cons]
    have h1 := need_le u.length h
    have h2 := ih (u.erase x) (by have := List.length_erase_le (a := x) (l := u); omega)
    omega
theorem erase_idx {u : List Nat} {x : Nat} (h : x ∈ u) : u.erase x = u.eraseIdx (u.idxOf x) := List.erase_eq_eraseIdx_of_idxOf rfl
theorem idx_lt {u : List Nat} {x : Nat} (h : x ∈ u) : u.idxOf x < u.length := List.idxOf_lt_length_of_mem h
theorem idx_get {u : List Nat} {x : Nat} (h : x ∈ u) : u.getD (u.idxOf x) 0 = x := by
  rw [List.getD_eq_getElem?_getD, List.getElem?_eq_getElem (idx_lt h), Option.getD_some, List.getElem_idxOf]

/-- An order read from bits, its set being known. -/
def getO (s : ByteArray) : Nat → List Nat → Nat → Option (List Nat × Nat)
  | 0, _, a => some ([], a)
  | f + 1, u, a => if a + needB (f + 1) ≤ 8 * s.size ∧ num (row s a (needB (f + 1))) ≤ f then
      (getO s f (u.eraseIdx (num (row s a (needB (f + 1))))) (a + needB (f + 1))).map (fun r => (u.getD (num (row s a (needB (f + 1)))) 0 :: r.1, r.2)) else none
theorem getO_put (s : ByteArray) : ∀ (o u : List Nat) (a : Nat), u.Perm o → a + (putO u o).length ≤ 8 * s.size → row s a (putO u o).length = putO u o → getO s u.length u a = some (o, a + (putO u o).length) := by
  intro o
  induction o with
  | nil =>
    intro u a hp _ _
    have : u = [] := List.perm_nil.1 hp
    subst this
    rfl
  | cons x o ih =>
    intro u a hp ha hr
    have hx : x ∈ u := hp.mem_iff.2 (List.mem_cons_self ..)
    have hl := hp.length_eq
    simp only [List.length_cons] at hl
    unfold putO at ha hr ⊢
    rw [List.length_append, nbits_len] at ha hr ⊢
    rw [row_add] at hr
    have hr1 := (List.append_inj hr (by rw [row_len, nbits_len])).1
    have hr2 := (List.append_inj hr (by rw [row_len, nbits_len])).2
    have hk := idx_lt hx
    have hn : num (row s a (needB u.length)) = u.idxOf x := by rw [hr1]; exact num_nbits _ _ (Nat.lt_of_lt_of_le hk (need_up _))
    have hp2 : (u.erase x).Perm o := by have := hp.erase x; rwa [List.erase_cons_head] at this
    have h3 := ih (u.erase x) (a + needB u.length) hp2 (by omega) hr2
    rw [hl]
    unfold getO
    rw [← hl, if_pos ⟨by omega, by rw [hn]; omega⟩, hn, ← erase_idx hx]
    rw [show o.length = (u.erase x).length by rw [hp2.length_eq], h3, idx_get hx]
    simp [Nat.add_assoc]
theorem getO_yes {s : ByteArray} {f v : Nat} {u : List Nat} {a : Nat} (h1 : a + needB (f + 1) ≤ 8 * s.size) (hv : num (row s a (needB (f + 1))) = v) (h2 : v ≤ f) :
    getO s (f + 1) u a = (getO s f (u.eraseIdx v) (a + needB (f + 1))).map (fun r => (u.getD v 0 :: r.1, r.2)) := by
  subst hv
  conv => lhs; unfold getO
  rw [if_pos ⟨h1, h2⟩]
theorem getO_no {s : ByteArray} {f : Nat} {u : List Nat} {a : Nat} (h : ¬ (a + needB (f + 1) ≤ 8 * s.size ∧ num (row s a (needB (f + 1))) ≤ f)) : getO s (f + 1) u a = none := by unfold getO; rw [if_neg h]
theorem getO_len {s : ByteArray} : ∀ {f : Nat} {u : List Nat} {a : Nat} {o : List Nat} {e : Nat}, a ≤ 8 * s.size → getO s f u a = some (o, e) → o.length = f ∧ e ≤ 8 * s.size := by
  intro f
  induction f with
  | zero =>
    intro u a o e ha h
    simp only [getO, Option.some.injEq, Prod.mk.injEq] at h
    obtain ⟨rfl, rfl⟩ := h
    exact ⟨rfl, ha⟩
  | succ f ih =>
    intro u a o e ha h
    unfold getO at h
    split at h
    · rename_i hc
      rw [Option.map_eq_some_iff] at h
      obtain ⟨⟨o2, e2⟩, h1, h2⟩ := h
      simp only [Prod.mk.injEq] at h2
      obtain ⟨rfl, rfl⟩ := h2
      have h3 := ih (by omega) h1
      exact ⟨by simp [h3.1], h3.2⟩
    · cases h

/-- Which of the sixteen bytes of group g are in u. -/
def mem16 (u : List Nat) (g : Nat) : List Nat := (List.range 16).map fun p => if 16 * g + p ∈ u then 1 else 0
def has16 (u : List Nat) (g : Nat) : Nat := if 1 ∈ mem16 u g then 1 else 0
def grp16 (u : List Nat) (g : Nat) : List Nat := if has16 u g = 1 then mem16 u g else []
/-- A set as bits. -/
def usedHead (u : List Nat) : List Nat := (List.range 16).map (has16 u)
def usedRest (u : List Nat) (k : Nat) : List Nat := (List.range k).flatMap (grp16 u)
def usedBits (u : List Nat) : List Nat := usedHead u ++ usedRest u 16
theorem mem16_len (u : List Nat) (g : Nat) : (mem16 u g).length = 16 := by simp [mem16]
theorem mem16_lt (u : List Nat) (g : Nat) : ∀ b ∈ mem16 u g, b < 2 := by
  intro b hb
  simp only [mem16, List.mem_map] at hb
  obtain ⟨p, _, rfl⟩ := hb
  split <;> omega
theorem has16_lt (u : List Nat) (g : Nat) : has16 u g < 2 := by unfold has16; split <;> omega
theorem grp16_len (u : List Nat) (g : Nat) : (grp16 u g).length ≤ 16 := by unfold grp16; split <;> simp [mem16_len]
theorem usedRest_succ (u : List Nat) (k : Nat) : usedRest u (k + 1) = usedRest u k ++ grp16 u k := by simp [usedRest, List.range_succ]
theorem usedRest_len (u : List Nat) (k : Nat) : (usedRest u k).length ≤ 16 * k := by
  induction k with
  | zero => simp [usedRest]
  | succ k ih => rw [usedRest_succ, List.length_append]; have := grp16_len u k; omega
theorem usedBits_len (u : List Nat) : (usedBits u).length ≤ 272 := by
  unfold usedBits; rw [List.length_append]; have := usedRest_len u 16; simp [usedHead]; omega
theorem usedBits_lt (u : List Nat) : ∀ b ∈ usedBits u, b < 2 := by
  intro b hb
  unfold usedBits at hb
  rcases List.mem_append.1 hb with h | h
  · simp only [usedHead, List.mem_map] at h
    obtain ⟨g, _, rfl⟩ := h
    exact has16_lt u g
  · simp only [usedRest, List.mem_flatMap] at h
    obtain ⟨g, _, h⟩ := h
    unfold grp16 at h
    split at h
    · exact mem16_lt u g b h
    · cases h
theorem nbits_num7 (l : List Nat) (h : ∀ b ∈ l, b < 2) : nbits (num l) l.length = l := by
  induction l with
  | nil => rfl
  | cons b l ih =>
    have hb := h b (by simp)
    have ih' := ih fun c hc => h c (by simp [hc])
    have hlt := num_lt l fun c hc => h c (by simp [hc])
    have e : num (b :: l) = b * 2 ^ l.length + num l := by
      have := num_append [b] l
      simpa [num] using this
    rw [List.length_cons, show l.length + 1 = 1 + l.length by omega, e, nbits_add, Nat.add_comm (b * _), Nat.add_mul_div_right _ _ (Nat.two_pow_pos _), Nat.div_eq_of_lt hlt, Nat.add_mul_mod_self_right, Nat.mod_eq_of_lt hlt, ih']
    simp [nbits]; omega

/-- The places that a mask of sixteen bits shows. -/
def places (m : Nat) : List Nat := (List.range 16).filter fun p => decide (m / 2 ^ (15 - p) % 2 = 1)
theorem places_lt (m : Nat) : ∀ p ∈ places m, p < 16 := by intro p hp; simp [places] at hp; exact hp.1
/-- The groups gs read from bits. -/
def getG (s : ByteArray) : List Nat → Nat → Option (List Nat × Nat)
  | [], a => some ([], a)
  | g :: gs, a => if a + 16 ≤ 8 * s.size ∧ num (row s a 16) ≠ 0 then (getG s gs (a + 16)).map (fun r => ((places (num (row s a 16))).map (fun p => 16 * g + p) ++ r.1, r.2)) else none
/-- A set read from bits. -/
def getU (s : ByteArray) (a : Nat) : Option (List Nat × Nat) := if a + 16 ≤ 8 * s.size ∧ num (row s a 16) ≠ 0 then getG s (places (num (row s a 16))) (a + 16) else none

theorem flat_congr {α β : Type} {f g : α → List β} {l : List α} (h : ∀ a ∈ l, f a = g a) : l.flatMap f = l.flatMap g := by
  induction l with
  | nil => rfl
  | cons a l ih => rw [List.flatMap_cons, List.flatMap_cons, h a (List.mem_cons_self ..), ih (fun b hb => h b (List.mem_cons_of_mem _ hb))]
theorem flat_filter {α β : Type} (P : α → Bool) (f : α → List β) (l : List α) : (l.filter P).flatMap f = l.flatMap (fun g => if P g = true then f g else []) := by
  induction l with
  | nil => rfl
  | cons a l ih =>
    rw [List.filter_cons]
    split
    · rename_i h; rw [List.flatMap_cons, List.flatMap_cons, ih, if_pos h]
    · rename_i h; rw [List.flatMap_cons, ih, if_neg h, List.nil_append]
theorem mask_bit {l : List Nat} (hl : l.length = 16) (h : ∀ b ∈ l, b < 2) (p : Nat) (hp : p < 16) : num l / 2 ^ (15 - p) % 2 = l.getD p 0 := by
  have h1 := nbits_num7 l h
  rw [hl] at h1
  have h2 := nbits_get (num l) 16 p hp
  rw [h1] at h2
  rw [h2]
theorem places_num {l : List Nat} (hl : l.length = 16) (h : ∀ b ∈ l, b < 2) : places (num l) = (List.range 16).filter fun p => decide (l.getD p 0 = 1) := by
  unfold places
  apply List.filter_congr
  intro p hp
  rw [List.mem_range] at hp
  rw [mask_bit hl h p hp]
theorem num_zero_not {l : List Nat} (hl : l.length = 16) (h : ∀ b ∈ l, b < 2) (h1 : 1 ∈ l) : num l ≠ 0 := by
  intro h0
  have h2 := nbits_num7 l h
  rw [h0, hl] at h2
  rw [← h2] at h1
  simp [nbits] at h1
theorem mem16_get (u : List Nat) (g p : Nat) (hp : p < 16) : (mem16 u g).getD p 0 = if 16 * g + p ∈ u then 1 else 0 := by simp [mem16, List.getD_eq_getElem?_getD, hp]
theorem has16_iff (u : List Nat) (g : Nat) : has16 u g = 1 ↔ ∃ p, p < 16 ∧ 16 * g + p ∈ u := by
  unfold has16
  have : 1 ∈ mem16 u g ↔ ∃ p, p < 16 ∧ 16 * g + p ∈ u := by
    simp only [mem16, List.mem_map, List.mem_range]
    constructor
    · rintro ⟨p, hp, h⟩
      refine ⟨p, hp, ?_⟩
      split at h
      · assumption
      · omega
    · rintro ⟨p, hp, h⟩
      exact ⟨p, hp, by rw [if_pos h]⟩
  rw [← this]
  split <;> simp_all
theorem getG_put (s : ByteArray) (u : List Nat) : ∀ (gs : List Nat) (a : Nat), (∀ g ∈ gs, has16 u g = 1) → a + (gs.flatMap (mem16 u)).length ≤ 8 * s.size → row s a (gs.flatMap (mem16 u)).length = gs.flatMap (mem16 u) →
    getG s gs a = some (gs.flatMap (fun g => ((List.range 16).filter fun p => decide (16 * g + p ∈ u)).map (fun p => 16 * g + p)), a + (gs.flatMap (mem16 u)).length) := by
  intro gs
  induction gs with
  | nil => intro a _ _ _; rfl
  | cons g gs ih =>
    intro a hg ha hr
    simp only [List.flatMap_cons, List.length_append, mem16_len] at ha hr ⊢
    rw [row_add] at hr
    have hr1 := (List.append_inj hr (by rw [row_len, mem16_len])).1
    have hr2 := (List.append_inj hr (by rw [row_len, mem16_len])).2
    have h3 := ih (a + 16) (fun g h => hg g (List.mem_cons_of_mem _ h)) (by omega) hr2
    have h1 : 1 ∈ mem16 u g := by
      have := hg g (List.mem_cons_self ..)
      unfold has16 at this
      split at this
      · assumption
      · omega
    unfold getG
    rw [hr1, if_pos ⟨by omega, num_zero_not (mem16_len u g) (mem16_lt u g) h1⟩, h3, places_num (mem16_len u g) (mem16_lt u g)]
    simp only [Option.map_some, List.flatMap_cons, Option.some.injEq, Prod.mk.injEq]
    refine ⟨?_, by omega⟩
    congr 2
    apply List.filter_congr
    intro p hp
    rw [List.mem_range] at hp
    rw [mem16_get u g p hp]
    split <;> simp_all
theorem range256 : List.range 256 = (List.range 16).flatMap (fun g => (List.range 16).map (fun p => 16 * g + p)) := by decide +kernel
theorem used_groups {u : List Nat} (hb : Byt u) : ((List.range 16).filter (fun g => decide (has16 u g = 1))).flatMap (fun g => ((List.range 16).filter fun p => decide (16 * g + p ∈ u)).map (fun p => 16 * g + p)) = usedL u := by
  rw [flat_filter]
  unfold usedL usedTo
  rw [range256, List.filter_flatMap]
  apply flat_congr
  intro g hg
  rw [List.filter_map]
  have e : ((List.range 16).filter fun p => decide (16 * g + p ∈ u)) = (List.range 16).filter ((fun b => decide (0 < List.count b u)) ∘ fun p => 16 * g + p) := by
    apply List.filter_congr
    intro p _
    simp [List.count_pos_iff]
  rw [← e]
  by_cases h : has16 u g = 1
  · simp [h]
  · rw [if_neg (by simpa using h)]
    have : ((List.range 16).filter fun p => decide (16 * g + p ∈ u)) = [] := by
      rw [List.filter_eq_nil_iff]
      intro p hp hh
      rw [List.mem_range] at hp
      exact h ((has16_iff u g).2 ⟨p, hp, by simpa using hh⟩)
    rw [this]; rfl
theorem usedHead_len (u : List Nat) : (usedHead u).length = 16 := by simp [usedHead]
theorem usedHead_lt (u : List Nat) : ∀ b ∈ usedHead u, b < 2 := by
  intro b h
  simp only [usedHead, List.mem_map] at h
  obtain ⟨g, _, rfl⟩ := h
  exact has16_lt u g
theorem usedHead_get (u : List Nat) (g : Nat) (hg : g < 16) : (usedHead u).getD g 0 = has16 u g := by simp [usedHead, List.getD_eq_getElem?_getD, hg]
theorem used_some {u : List Nat} (hb : Byt u) (h0 : u ≠ []) : ∃ g, g < 16 ∧ has16 u g = 1 := by
  obtain ⟨b, hbu⟩ := List.exists_mem_of_ne_nil u h0
  have := hb b hbu
  exact ⟨b / 16, by omega, (has16_iff u _).2 ⟨b % 16, by omega, by rwa [Nat.div_add_mod]⟩⟩
theorem getU_put {s : ByteArray} {u : List Nat} {a : Nat} (hb : Byt u) (hu : setOk u = true) (ha : a + (usedBits u).length ≤ 8 * s.size) (hr : row s a (usedBits u).length = usedBits u) : getU s a = some (u, a + (usedBits u).length) := by
  have hu2 := (setOk_iff u).1 hu
  have hR : usedRest u 16 = ((List.range 16).filter (fun g => decide (has16 u g = 1))).flatMap (mem16 u) := by
    rw [flat_filter]
    unfold usedRest
    apply flat_congr
    intro g _
    unfold grp16
    simp
  have hP : places (num (usedHead u)) = (List.range 16).filter (fun g => decide (has16 u g = 1)) := by
    rw [places_num (usedHead_len u) (usedHead_lt u)]
    apply List.filter_congr
    intro g hg
    rw [List.mem_range] at hg
    rw [usedHead_get u g hg]
  have h1 : 1 ∈ usedHead u := by
    obtain ⟨g, hg, h⟩ := used_some hb hu2.1
    rw [← h]
    exact List.mem_map_of_mem (List.mem_range.2 hg)
  unfold usedBits at ha hr ⊢
  rw [List.length_append, usedHead_len] at ha hr ⊢
  rw [row_add] at hr
  have hr1 := (List.append_inj hr (by rw [row_len, usedHead_len])).1
  have hr2 := (List.append_inj hr (by rw [row_len, usedHead_len])).2
  unfold getU
  rw [hr1, if_pos ⟨by omega, num_zero_not (usedHead_len u) (usedHead_lt u) h1⟩, hP]
  rw [hR] at ha hr2 ⊢
  rw [getG_put s u _ (a + 16) (fun g hg => by simpa using (List.mem_filter.1 hg).2) (by omega) hr2, used_groups hb, hu2.2, Nat.add_assoc]

/-- The places from g on. -/
def placesFrom (m g : Nat) : List Nat := (List.range' g (16 - g)).filter fun p => decide (m / 2 ^ (15 - p) % 2 = 1)
theorem placesFrom_zero (m : Nat) : placesFrom m 0 = places m := by unfold placesFrom places; rw [List.range_eq_range']
theorem placesFrom_end (m : Nat) : placesFrom m 16 = [] := rfl
theorem placesFrom_step (m g : Nat) (h : g < 16) : placesFrom m g = if m / 2 ^ (15 - g) % 2 = 1 then g :: placesFrom m (g + 1) else placesFrom m (g + 1) := by
  unfold placesFrom
  rw [show 16 - g = (16 - (g + 1)) + 1 by omega, List.range'_succ, List.filter_cons]
  simp
/-- The first places, up to p. -/
def placesTo (m p : Nat) : List Nat := (List.range p).filter fun p => decide (m / 2 ^ (15 - p) % 2 = 1)
theorem placesTo_succ (m p : Nat) : placesTo m (p + 1) = if m / 2 ^ (15 - p) % 2 = 1 then placesTo m p ++ [p] else placesTo m p := by
  unfold placesTo
  rw [List.range_succ, List.filter_append]
  split <;> simp_all
theorem placesTo_len (m p : Nat) : (placesTo m p).length ≤ p := by
  unfold placesTo
  have := List.length_filter_le (fun q => decide (m / 2 ^ (15 - q) % 2 = 1)) (List.range p)
  simpa using this
theorem places_ne {s : ByteArray} {a : Nat} (h : num (row s a 16) ≠ 0) : places (num (row s a 16)) ≠ [] := by
  intro e
  apply h
  rw [num_zero_bits]
  intro i hi
  rw [places_num (row_len s a 16) (row_bits s a 16), List.filter_eq_nil_iff] at e
  have h1 := e i (List.mem_range.2 hi)
  have h2 := bit_lt s (a + i)
  have h3 : (row s a 16).getD i 0 = bit s (a + i) := by simp [row, List.getD_eq_getElem?_getD, hi]
  rw [h3] at h1
  simp at h1
  omega
theorem getG_le {s : ByteArray} : ∀ {gs : List Nat} {a : Nat} {u : List Nat} {e : Nat}, a ≤ 8 * s.size → getG s gs a = some (u, e) → e ≤ 8 * s.size ∧ (gs ≠ [] → u ≠ []) := by
  intro gs
  induction gs with
  | nil =>
    intro a u e ha h
    simp only [getG, Option.some.injEq, Prod.mk.injEq] at h
    obtain ⟨rfl, rfl⟩ := h
    exact ⟨ha, fun h => absurd rfl h⟩
  | cons g gs ih =>
    intro a u e ha h
    unfold getG at h
    split at h
    · rename_i hc
      rw [Option.map_eq_some_iff] at h
      obtain ⟨⟨u2, e2⟩, h1, h2⟩ := h
      simp only [Prod.mk.injEq] at h2
      obtain ⟨rfl, rfl⟩ := h2
      refine ⟨(ih (by omega) h1).1, fun _ h3 => ?_⟩
      have h4 := (List.append_eq_nil_iff.1 h3).1
      exact places_ne hc.2 (List.map_eq_nil_iff.1 h4)
    · cases h
theorem getU_some {s : ByteArray} {a : Nat} {u : List Nat} {e : Nat} (h : getU s a = some (u, e)) : e ≤ 8 * s.size ∧ u ≠ [] := by
  unfold getU at h
  split at h
  · rename_i hc
    have h1 := getG_le (by omega) h
    exact ⟨h1.1, h1.2 (places_ne hc.2)⟩
  · cases h
theorem getG_no {s : ByteArray} {gs : List Nat} {g a : Nat} (h : ¬ (a + 16 ≤ 8 * s.size ∧ num (row s a 16) ≠ 0)) : getG s (g :: gs) a = none := by unfold getG; rw [if_neg h]
theorem getG_yes {s : ByteArray} {gs : List Nat} {g a : Nat} (h1 : a + 16 ≤ 8 * s.size) (h2 : num (row s a 16) ≠ 0) : getG s (g :: gs) a = (getG s gs (a + 16)).map (fun r => ((places (num (row s a 16))).map (fun p => 16 * g + p) ++ r.1, r.2)) := by
  conv => lhs; unfold getG
  rw [if_pos ⟨h1, h2⟩]
theorem map_map_app {o : Option (List Nat × Nat)} (A B : List Nat) : (o.map (fun r => (B ++ r.1, r.2))).map (fun r => (A ++ r.1, r.2)) = o.map (fun r => (A ++ B ++ r.1, r.2)) := by
  cases o with
  | none => rfl
  | some r => simp
theorem map_cons_app {o : Option (List Nat × Nat)} (A : List Nat) (x : Nat) : (o.map (fun r => (x :: r.1, r.2))).map (fun r => (A ++ r.1, r.2)) = o.map (fun r => ((A ++ [x]) ++ r.1, r.2)) := by
  cases o with
  | none => rfl
  | some r => simp
theorem map_app_nil (o : Option (List Nat × Nat)) : o.map (fun r => (([] : List Nat) ++ r.1, r.2)) = o := by cases o <;> rfl
end Go.Proofs.Ytpdicijoohahaaa
