/- Merged: Stc. -/
import Derived.Test.YticfdjdmbcdbkaaQ102
import Derived.Test.YticfdjdmbcdbkaaQ101
import Derived.Lib.Bytealg
import Derived.Lib.Index
namespace Go.Proofs.Yticfdjdmbcdbkaa
set_option linter.unusedVariables false
set_option linter.unusedSimpArgs false

/-- The numbers f 0, f 1 .. as a list. -/
def lF (n : Nat) (f : Nat → Nat) : List Nat := (List.range n).map f
theorem lF_len (n : Nat) (f : Nat → Nat) : (lF n f).length = n := by unfold lF; simp
theorem lF_get (n : Nat) (f : Nat → Nat) (k : Nat) (h : k < n) : (lF n f).getD k 0 = f k := by
  unfold lF
  rw [List.getD_eq_getElem?_getD, List.getElem?_map, List.getElem?_range h]
  rfl
theorem lF_perm {n : Nat} {f : Nat → Nat} (h : Trn 0 n idF f) : (lF n f).Perm (List.range n) := by
  obtain ⟨s, h1, h2, h3, h4⟩ := h
  have hi : ∀ i j, f i = f j → i = j := fun i j e => h4 i j (by rw [h1, h1] at e; exact e)
  have hn : (lF n f).Nodup := by
    unfold lF
    rw [List.nodup_iff_pairwise_ne, List.pairwise_map]
    exact List.nodup_range.imp fun hne e => hne (hi _ _ e)
  have hs : ∀ x ∈ lF n f, x < n := fun x hx => by
    obtain ⟨k, hk, rfl⟩ := List.mem_map.1 hx
    rw [h1]
    exact (h3 k (Nat.zero_le k) (List.mem_range.1 hk)).2
  rw [List.perm_ext_iff_of_nodup hn List.nodup_range]
  intro x
  rw [List.mem_range]
  refine ⟨hs x, fun hx => ?_⟩
  apply Decidable.byContradiction
  intro hc
  have := nodup_len_le (l := x :: lF n f) (m := List.range n) (List.nodup_cons.2 ⟨hc, hn⟩) (fun b hb => by
    rw [List.mem_range]
    rcases List.mem_cons.1 hb with rfl | hb
    · exact hx
    · exact hs b hb)
  rw [List.length_cons, lF_len, List.length_range] at this
  omega
theorem lF_pair {R : Nat → Nat → Prop} {n : Nat} {f : Nat → Nat} (h : So R f 0 n) : (lF n f).Pairwise R := by
  unfold lF
  rw [List.pairwise_map]
  have : (List.range n).Pairwise (fun a b => a < b ∧ b < n) := by
    rw [List.pairwise_iff_getElem]
    intro i j hi hj hij
    rw [List.getElem_range, List.getElem_range]
    rw [List.length_range] at hj
    exact ⟨hij, hj⟩
  exact this.imp fun hab => h _ _ (Nat.zero_le _) hab.1 hab.2
theorem sort_rot {S : List Nat} {f : Nat → Nat} (h : Trn 0 S.length idF f) (s : So (rlt S) f 0 S.length) : lF S.length f = rotO S := rotO_is ⟨lF_perm h, lF_pair s⟩
/-- The byte order, equals by their places. -/
def bltR (S : List Nat) (x y : Nat) : Prop := lfB S y x = true
theorem bltR_iff (S : List Nat) (x y : Nat) : bltR S x y ↔ S.getD x 0 < S.getD y 0 ∨ (S.getD x 0 = S.getD y 0 ∧ x < y) := by
  unfold bltR lfB
  simp
theorem count_below (n : Nat) : ∀ m, n ≤ m → (List.range m).countP (fun j => decide (j < n)) = n := by
  intro m
  induction m with
  | zero =>
    intro h
    obtain rfl : n = 0 := by omega
    rfl
  | succ m ih =>
    intro h
    rw [List.range_succ, List.countP_append, List.countP_singleton]
    by_cases e : n = m + 1
    · subst e
      have : (List.range m).countP (fun j => decide (j < m + 1)) = m := by
        have h2 : (List.range m).countP (fun j => decide (j < m + 1)) = (List.range m).length := List.countP_eq_length.2 fun a ha => by
          have := List.mem_range.1 ha
          simp; omega
        rw [h2, List.length_range]
      rw [this]; simp
    · rw [ih (by omega), if_neg (by simp; omega)]
      omega
theorem lf_place {S : List Nat} {f : Nat → Nat} (h : Trn 0 S.length idF f) (s : So (bltR S) f 0 S.length) (k : Nat) (hk : k < S.length) : lfN S (f k) = k := by
  have hp := lF_perm h
  show (List.range S.length).countP (lfB S (f k)) = k
  rw [← hp.countP_eq]
  unfold lF
  rw [List.countP_map]
  have : (List.range S.length).countP (lfB S (f k) ∘ f) = (List.range S.length).countP (fun j => decide (j < k)) := by
    apply List.countP_congr
    intro j hj
    have hj := List.mem_range.1 hj
    show lfB S (f k) (f j) = true ↔ decide (j < k) = true
    rw [decide_eq_true_eq]
    have a : bltR S (f j) (f k) ↔ lfB S (f k) (f j) = true := Iff.rfl
    rw [← a]
    constructor
    · intro h1
      apply Decidable.byContradiction
      intro h2
      rcases Nat.lt_or_ge k j with h3 | h3
      · have h4 := s k j (Nat.zero_le _) h3 hj
        rw [bltR_iff] at h1 h4
        omega
      · obtain rfl : j = k := by omega
        rw [bltR_iff] at h1
        omega
    · intro h1
      exact s j k (Nat.zero_le _) h1 hk
  rw [this, count_below k _ (by omega)]
/-- The places that the sort's outcome gives. -/
theorem lf_all {S : List Nat} {f g : Nat → Nat} (h : Trn 0 S.length idF f) (s : So (bltR S) f 0 S.length) (hg : ∀ k, k < S.length → g (f k) = k) : ∀ i, i < S.length → g i = lfN S i := by
  intro i hi
  have hp := lF_perm h
  have hm : i ∈ lF S.length f := hp.mem_iff.2 (List.mem_range.2 hi)
  obtain ⟨k, hk, rfl⟩ := List.mem_map.1 hm
  rw [hg k (List.mem_range.1 hk), lf_place h s k (List.mem_range.1 hk)]
theorem trn_inj {n : Nat} {f : Nat → Nat} (h : Trn 0 n idF f) : ∀ i j, f i = f j → i = j := by
  obtain ⟨s, h1, h2, h3, h4⟩ := h
  exact fun i j e => h4 i j (by rw [h1, h1] at e; exact e)
theorem trn_lt {n : Nat} {f : Nat → Nat} (h : Trn 0 n idF f) : ∀ k, k < n → f k < n := by
  intro k hk
  obtain ⟨i, h1, h2, h3⟩ := h.mem (Nat.zero_le k) hk
  rw [h3]; exact h2

/-- What the comparison of two bytes answers. -/
def cfL (S : List Nat) (x y : Nat) : Int := (S.getD x 0 : Int) - (S.getD y 0 : Int)
theorem cfL_cmp (S : List Nat) : Cmp (cfL S) (bltR S) S.length where
  lt := fun x y h1 h2 h => by unfold cfL at h; rw [bltR_iff]; omega
  ge := fun x y h1 h2 h => by unfold cfL at h; rw [bltR_iff]; omega
  tr := fun x y z _ _ _ h1 h2 => by rw [bltR_iff] at *; omega
/-- Comparing two strings: the bytes as numbers. -/
theorem cmpB (a b : List UInt8) : (Lib.compareBytes a b < 0 ↔ a.map UInt8.toNat < b.map UInt8.toNat) ∧ (Lib.compareBytes a b = 0 ↔ a = b) := by
  induction a generalizing b with
  | nil => cases b <;> simp [Lib.compareBytes]
  | cons x a ih =>
    cases b with
    | nil => simp [Lib.compareBytes]
    | cons y b =>
      obtain ⟨i1, i2⟩ := ih b
      have hlt : x < y ↔ x.toNat < y.toNat := UInt8.lt_iff_toNat_lt
      have hgt : y < x ↔ y.toNat < x.toNat := UInt8.lt_iff_toNat_lt
      have heq : x = y ↔ x.toNat = y.toNat := ⟨fun e => by rw [e], fun e => UInt8.toNat_inj.1 e⟩
      rw [List.map_cons, List.map_cons, List.cons_lt_cons_iff]
      unfold Lib.compareBytes
      by_cases h1 : x < y
      · have h1n := hlt.1 h1
        rw [if_pos h1]
        refine ⟨⟨fun _ => .inl h1n, fun _ => by omega⟩, ⟨fun e => by omega, fun e => ?_⟩⟩
        injection e with e1 e2
        rw [heq] at e1
        omega
      · rw [if_neg h1]
        by_cases h2 : y < x
        · have h2n := hgt.1 h2
          rw [if_pos h2]
          refine ⟨⟨fun e => by omega, fun e => by rcases e with e | e <;> omega⟩, ⟨fun e => by omega, fun e => ?_⟩⟩
          injection e with e1 e2
          rw [heq] at e1
          omega
        · rw [if_neg h2]
          have h3 : x.toNat = y.toNat := by
            have a1 := mt hlt.2 h1
            have a2 := mt hgt.2 h2
            omega
          refine ⟨⟨fun e => .inr ⟨h3, i1.1 e⟩, fun e => ?_⟩, ⟨fun e => ?_, fun e => ?_⟩⟩
          · rcases e with e | e
            · omega
            · exact i1.2 e.2
          · rw [heq.2 h3, i2.1 e]
          · injection e with e1 e2
            exact i2.2 e2
/-- The rotation at i, cut out of the text twice. -/
def rotU (s : ByteArray) (i : Nat) : List UInt8 := ((s ++ s).extract i (i + s.size)).data.toList
theorem rotU_bytes (s : ByteArray) (i : Nat) (h : i ≤ s.size) : (rotU s i).map UInt8.toNat = rotL (bytesOf s) i := by
  unfold rotU rotL bytesOf
  simp only [ByteArray.data_append, ByteArray.data_extract, Array.toList_append, Array.toList_extract, List.map_append]
  have hl : s.data.toList.length = s.size := by simp
  rw [List.extract_eq_take_drop, List.map_take, List.map_drop, Array.toList_append, List.map_append, List.drop_append_of_le_length (by simp; exact h), List.take_append, List.length_drop, List.length_map, hl,
    List.take_of_length_le (by simp), show i + s.size - i - (s.size - i) = i by omega]
/-- What the comparison of two rotations answers. -/
def cfR (s : ByteArray) (x y : Nat) : Int := if Lib.compareBytes (rotU s x) (rotU s y) = 0 then (y : Int) - (x : Int) else Lib.compareBytes (rotU s x) (rotU s y)
theorem map_toNat_inj {a b : List UInt8} (h : a.map UInt8.toNat = b.map UInt8.toNat) : a = b := by
  have := congrArg (List.map UInt8.ofNat) h
  have e : (UInt8.ofNat ∘ UInt8.toNat) = id := by funext x; simp
  rwa [List.map_map, List.map_map, e, List.map_id, List.map_id] at this
theorem cfR_cmp (s : ByteArray) : Cmp (cfR s) (rlt (bytesOf s)) s.size where
  lt := fun x y h1 h2 h => by
    have e1 := rotU_bytes s x (by omega)
    have e2 := rotU_bytes s y (by omega)
    obtain ⟨c1, c2⟩ := cmpB (rotU s y) (rotU s x)
    unfold cfR at h
    unfold rlt
    rw [← e1, ← e2]
    split at h
    · rename_i h3
      exact .inr ⟨by rw [c2.1 h3], h1⟩
    · exact .inl (c1.1 h)
  ge := fun x y h1 h2 h => by
    have e1 := rotU_bytes s x (by omega)
    have e2 := rotU_bytes s y (by omega)
    obtain ⟨c1, c2⟩ := cmpB (rotU s y) (rotU s x)
    unfold cfR at h
    rcases rlt_total (bytesOf s) (i := x) (j := y) (by omega) with h3 | h3
    · exact h3
    · exfalso
      split at h
      · omega
      · rename_i h4
        unfold rlt at h3
        rw [← e1, ← e2] at h3
        rcases h3 with h3 | ⟨h3, _⟩
        · exact h (c1.2 h3)
        · exact h4 (c2.2 (map_toNat_inj h3))
  tr := fun x y z _ _ _ h1 h2 => rlt_trans h1 h2
/-- There is a least turn that changes nothing. -/
theorem per_ex (S : List Nat) (h : 0 < S.length) : ∃ p, IsPer S p := by
  have hh : ∀ k, k < S.length → (∃ p, IsPer S p) ∨ ∀ q, 1 ≤ q → q ≤ k → rotL S q ≠ S := by
    intro k
    induction k with
    | zero => intro _; exact .inr fun q h1 h2 => by omega
    | succ k ih =>
      intro hk
      rcases ih (by omega) with h1 | h1
      · exact .inl h1
      · by_cases e : rotL S (k + 1) = S
        · exact .inl ⟨k + 1, by omega, by omega, fun _ => e, fun q h2 h3 => h1 q h2 (by omega)⟩
        · refine .inr fun q h2 h3 => ?_
          rcases Nat.lt_or_ge q (k + 1) with h4 | h4
          · exact h1 q h2 (by omega)
          · rw [show q = k + 1 by omega]; exact e
  rcases hh (S.length - 1) (by omega) with h1 | h1
  · exact h1
  · exact ⟨S.length, by omega, Nat.le_refl _, fun h2 => by omega, fun q h2 h3 => h1 q h2 (by omega)⟩
theorem prefix_take {a b : List UInt8} (h : a.length ≤ b.length) : a.isPrefixOf b = true ↔ b.take a.length = a := by
  rw [List.isPrefixOf_iff_prefix, List.prefix_iff_eq_take]
  exact ⟨fun e => e.symm, fun e => e.symm⟩
theorem occ_rot (s : ByteArray) (j : Nat) (hj : j < s.size) : Lib.occAt ((s ++ s).extract 1 (s.size + s.size)).data.toList s.data.toList j = true ↔ rotL (bytesOf s) (j + 1) = bytesOf s := by
  have hl : s.data.toList.length = s.size := by simp
  have h1 : ((s ++ s).extract 1 (s.size + s.size)).data.toList = (s.data.toList ++ s.data.toList).drop 1 := by
    simp only [ByteArray.data_append, ByteArray.data_extract, Array.toList_extract]
    rw [List.extract_eq_take_drop, Array.toList_append, List.take_of_length_le (by simp)]
  unfold Lib.occAt
  rw [h1, List.drop_drop, Nat.add_comm 1 j, List.drop_append_of_le_length (by rw [hl]; omega), prefix_take (by simp), List.take_append, List.length_drop, hl, List.take_of_length_le (by simp), show s.size - (s.size - (j + 1)) = j + 1 by omega]
  have h2 : rotL (bytesOf s) (j + 1) = (s.data.toList.drop (j + 1) ++ s.data.toList.take (j + 1)).map UInt8.toNat := by
    unfold rotL bytesOf
    rw [List.map_append, List.map_drop, List.map_take]
  rw [h2]
  unfold bytesOf
  exact ⟨fun e => by rw [e], fun e => map_toNat_inj e⟩
theorem index_per (s : ByteArray) (p : Nat) (hp : IsPer (bytesOf s) p) : Lib.index ((s ++ s).extract 1 (s.size + s.size)).data.toList s.data.toList = ((p - 1 : Nat) : Int) := by
  obtain ⟨a1, a2, a3, a4⟩ := hp
  rw [bytesOf_len] at a2 a3
  have hl : ((s ++ s).extract 1 (s.size + s.size)).data.toList.length = s.size + s.size - 1 := by simp; omega
  refine Lib.index_first (by rw [hl]; omega) ?_ fun j hj => ?_
  · rw [occ_rot s _ (by omega), show p - 1 + 1 = p by omega]
    rcases Nat.lt_or_ge p s.size with h | h
    · exact a3 h
    · rw [show p = s.size by omega]
      unfold rotL
      have := bytesOf_len s
      rw [← this, List.drop_length, List.take_length, List.nil_append]
  · cases hb : Lib.occAt ((s ++ s).extract 1 (s.size + s.size)).data.toList s.data.toList j with
    | false => rfl
    | true => exact absurd ((occ_rot s j (by omega)).1 hb) (a4 (j + 1) (by omega) (by omega))
end Go.Proofs.Yticfdjdmbcdbkaa
