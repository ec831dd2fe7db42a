/- Chapter 4, plain: order and codes of a list of lengths, the bits of symbols, the reading of symbols. No condition. -/
import Derived.Test.YtdeikdlbgjpooaaCan
import Derived.Test.YtdeikdlbgjpooaaC3
import Derived.Test.YtdeikdlbgjpooaaNats
import Derived.Test.YtdeikdlbgjpooaaC3Arr
import Derived.Test.YtdeikdlbgjpooaaMath2
namespace Go.Proofs.Ytdeikdlbgjpooaa
set_option linter.unusedVariables false
set_option linter.unusedSimpArgs false
open Go.RowKit

def lnF (ls : List Int) (s : Nat) : Nat := (ls.getD s 0).toNat
theorem lRange_ln {ls : List Int} (h : lRange ls) : ∀ s, s < ls.length → 1 ≤ lnF ls s ∧ lnF ls s ≤ 20 := fun s hs => by
  have := h.2.2 s hs
  unfold lnF; omega
theorem lnF_int {ls : List Int} (h : lRange ls) (s : Nat) (hs : s < ls.length) : ls.getD s 0 = (lnF ls s : Int) := by
  have := h.2.2 s hs
  unfold lnF; omega
/-- The order, the codes. -/
def ordF (ls : List Int) : List Nat := ordU ls.length (lnF ls) 20
def cdF (ls : List Int) (s : Nat) : Nat := codeN ls.length (lnF ls) s
def ordL (ls : List Int) : List Nat := if lOk ls = true then ordF ls else []
def cdL (ls : List Int) : List Nat := if lOk ls = true then (List.range ls.length).map (cdF ls) else []
theorem ordF_len {ls : List Int} (h : lRange ls) : (ordF ls).length = ls.length := ordU_len _ _ (lRange_ln h)
theorem ordF_mem {ls : List Int} (s : Nat) (h : s ∈ ordF ls) : s < ls.length := ((mem_ordU _ _ _ _).1 h).1
theorem cdL_len {ls : List Int} (h : lOk ls = true) : (cdL ls).length = ls.length := by unfold cdL; rw [if_pos h]; simp
theorem cdL_get {ls : List Int} (h : lOk ls = true) (s : Nat) (hs : s < ls.length) : (cdL ls).getD s 0 = cdF ls s := by
  unfold cdL; rw [if_pos h]; simp [List.getD_eq_getElem?_getD, hs]
theorem kraft_le {ls : List Int} (h : lOk ls = true) : rsum ls.length (fun t => 2 ^ (20 - lnF ls t)) ≤ 2 ^ 20 := by
  have hr := lOk_range h
  unfold lOk at h
  rw [kraftI_yes hr] at h
  simp only [decide_eq_true_eq] at h
  have : kSum ls ls.length = rsum ls.length (fun t => 2 ^ (20 - lnF ls t)) := rfl
  omega
theorem cdF_lt {ls : List Int} (h : lOk ls = true) (s : Nat) (hs : s < ls.length) : cdF ls s < 2 ^ lnF ls s :=
  codeN_lt _ _ s hs (lRange_ln (lOk_range h) s hs).2 (kraft_le h)
theorem cdF_lt20 {ls : List Int} (h : lOk ls = true) (s : Nat) (hs : s < ls.length) : cdF ls s < 1048576 :=
  Nat.lt_of_lt_of_le (cdF_lt h s hs) (Nat.pow_le_pow_right (by omega) (lRange_ln (lOk_range h) s hs).2)
/-- No code begins another. -/
theorem cdF_free {ls : List Int} (h : lOk ls = true) (i k : Nat) (hi : i < ls.length) (hk : k < ls.length) (hne : i ≠ k) (hle : lnF ls i ≤ lnF ls k) : cdF ls k / 2 ^ (lnF ls k - lnF ls i) ≠ cdF ls i :=
  codeN_free _ _ i k hi hk hne hle (lRange_ln (lOk_range h) k hk).2

theorem ord_perm {ls : List Int} (h : lRange ls) : (ordF ls).Perm (List.range ls.length) := ordU_perm _ _ (lRange_ln h)
theorem ord_bef (ls : List Int) : (ordF ls).Pairwise (fun a b => bef (lnF ls) a b = true) := ordU_bef _ _ _
theorem ord_nodup (ls : List Int) : (ordF ls).Nodup := ordU_nodup _ _ _
theorem ord_all {ls : List Int} (h : lRange ls) (s : Nat) (hs : s < ls.length) : s ∈ ordF ls := (ord_perm h).mem_iff.2 (List.mem_range.2 hs)
/-- The first has the code 0; each further one the next one. -/
theorem ord_codes {ls : List Int} (h : lRange ls) : ∃ O : List Nat, ordF ls = O ∧ O.length = ls.length ∧ O.Nodup ∧ (∀ s ∈ O, s < ls.length) ∧ (∀ s, s < ls.length → s ∈ O) ∧ (∀ x T, O = x :: T → cdF ls x = 0) ∧
    (∀ (k t s : Nat) (hk : k + 1 < O.length), O[k] = t → O[k + 1] = s → lnF ls t ≤ lnF ls s ∧ cdF ls s = (cdF ls t + 1) * 2 ^ (lnF ls s - lnF ls t)) := by
  have h1 := ordF_len h
  have h2 := ord_nodup ls
  have h3 := fun s hs => ordF_mem (ls := ls) s hs
  have h4 := fun s hs => ord_all h s hs
  have h5 := ord_perm h
  have h6 := ord_bef ls
  have h7 := lRange_ln h
  generalize ordF ls = O at *
  refine ⟨O, rfl, h1, h2, h3, h4, ?_, ?_⟩
  · rintro x T rfl
    have := kBef_list ls.length (lnF ls) (x :: T) h5 h6 0 (by simp)
    simp only [List.getElem_cons_zero, List.take_zero, List.map_nil, List.sum_nil] at this
    unfold cdF codeN
    rw [this, Nat.zero_div]
  · intro k t s hk ht hs
    exact code_step ls.length (lnF ls) O h5 h6 k hk t s ht hs (h7 s (h3 s (by rw [← hs]; exact List.getElem_mem _))).2

/-! ### symbols and their bits -/
def symsB (n : Nat) (ss : List Int) : Bool := decide (ss.length ≤ 2000 ∧ ∀ k, k < ss.length → 0 ≤ ss.getD k 0 ∧ ss.getD k 0 < (n : Int))
theorem symsB_iff (n : Nat) (ss : List Int) : symsB n ss = true ↔ ss.length ≤ 2000 ∧ ∀ k, k < ss.length → 0 ≤ ss.getD k 0 ∧ ss.getD k 0 < (n : Int) := by simp [symsB]
/-- Are they symbols of these lengths? -/
def putOk (ls ss : List Int) : Bool := lOk ls && symsB ls.length ss
theorem putOk_iff (ls ss : List Int) : putOk ls ss = true ↔ lOk ls = true ∧ symsB ls.length ss = true := by simp [putOk]
def symBits1 (ls : List Int) (s : Nat) : List Nat := nbits (cdF ls s) (lnF ls s)
/-- The bits of the first k symbols. -/
def putL (ls ss : List Int) (k : Nat) : List Nat := (List.range k).flatMap fun i => symBits1 ls (ss.getD i 0).toNat
theorem putL_zero (ls ss : List Int) : putL ls ss 0 = [] := rfl
theorem putL_succ (ls ss : List Int) (k : Nat) : putL ls ss (k + 1) = putL ls ss k ++ symBits1 ls (ss.getD k 0).toNat := by simp [putL, List.range_succ]
theorem putL_lt (ls ss : List Int) (k : Nat) : ∀ b ∈ putL ls ss k, b < 2 := by
  intro b hb
  simp only [putL, List.mem_flatMap] at hb
  obtain ⟨i, _, hb⟩ := hb
  exact nbits_lt _ _ b hb
def lenSum (ls ss : List Int) (k : Nat) : Nat := rsum k fun i => lnF ls (ss.getD i 0).toNat
theorem putL_len (ls ss : List Int) (k : Nat) : (putL ls ss k).length = lenSum ls ss k := by
  induction k with
  | zero => rfl
  | succ k ih => rw [putL_succ, List.length_append, ih]; unfold symBits1; rw [nbits_len]; rfl
theorem lenSum_le {ls ss : List Int} (h : lRange ls) (hs : ∀ k, k < ss.length → 0 ≤ ss.getD k 0 ∧ ss.getD k 0 < (ls.length : Int)) (k : Nat) (hk : k ≤ ss.length) : lenSum ls ss k ≤ 20 * k := by
  induction k with
  | zero => exact Nat.le_refl _
  | succ k ih =>
    have h1 := ih (by omega)
    have h2 := hs k (by omega)
    have h3 := (lRange_ln h (ss.getD k 0).toNat (by omega)).2
    show lenSum ls ss k + lnF ls (ss.getD k 0).toNat ≤ _
    omega

/-! ### reading symbols -/
/-- At bit a of s stands the code of symbol i, n bits. -/
def hit (ls : List Int) (s : ByteArray) (a n i : Nat) : Prop := i < ls.length ∧ lnF ls i = n ∧ a + n ≤ 8 * s.size ∧ num (row s a n) = cdF ls i
theorem num_row_div (s : ByteArray) (a n m : Nat) (h : n ≤ m) : num (row s a m) / 2 ^ (m - n) = num (row s a n) := by
  have e : row s a m = row s a n ++ row s (a + n) (m - n) := by rw [← row_add]; congr 1; omega
  have h2 := num_row_lt s (a + n) (m - n)
  rw [e, num_append, row_len, Nat.mul_comm, Nat.mul_add_div (Nat.two_pow_pos _), Nat.div_eq_of_lt h2, Nat.add_zero]
theorem hit_one {ls : List Int} (h : lOk ls = true) {s : ByteArray} {a n i m k : Nat} (h1 : hit ls s a n i) (h2 : hit ls s a m k) : n = m ∧ i = k := by
  have key : ∀ {n i m k : Nat}, hit ls s a n i → hit ls s a m k → n ≤ m → i = k := by
    intro n i m k h1 h2 hle
    apply Classical.byContradiction
    intro hne
    refine cdF_free h i k h1.1 h2.1 hne (by rw [h1.2.1, h2.2.1]; exact hle) ?_
    rw [h1.2.1, h2.2.1, ← h2.2.2.2, ← h1.2.2.2]
    exact num_row_div s a n m hle
  have e : i = k := by
    rcases Nat.le_total n m with hle | hle
    · exact key h1 h2 hle
    · exact (key h2 h1 hle).symm
  subst e
  exact ⟨h1.2.1.symm.trans h2.2.1, rfl⟩
/-- Symbols read one after the other, from bit a on to bit b. -/
inductive Reads (ls : List Int) (s : ByteArray) : Nat → List Nat → Nat → Prop
  | nil (a : Nat) : Reads ls s a [] a
  | cons (a n i : Nat) (xs : List Nat) (b : Nat) (h : hit ls s a n i) (hr : Reads ls s (a + n) xs b) : Reads ls s a (i :: xs) b
theorem Reads.snoc {ls : List Int} {s : ByteArray} {a b n i : Nat} {xs : List Nat} (h : Reads ls s a xs b) (hh : hit ls s b n i) : Reads ls s a (xs ++ [i]) (b + n) := by
  induction h with
  | nil a => exact .cons _ _ _ _ _ hh (.nil _)
  | cons a m j xs b h hr ih => exact .cons _ _ _ _ _ h (ih hh)
theorem Reads.one {ls : List Int} (h : lOk ls = true) {s : ByteArray} {a b : Nat} {xs : List Nat} (h1 : Reads ls s a xs b) : ∀ {c : Nat} {ys : List Nat}, Reads ls s a ys c → xs.length = ys.length → xs = ys ∧ b = c := by
  induction h1 with
  | nil a =>
    intro c ys h2 hl
    cases h2 with
    | nil => exact ⟨rfl, rfl⟩
    | cons => simp at hl
  | cons a n i xs b hh hr ih =>
    intro c ys h2 hl
    cases h2 with
    | nil => simp at hl
    | cons _ m j ys _ hh2 hr2 =>
      obtain ⟨rfl, rfl⟩ := hit_one h hh hh2
      obtain ⟨rfl, rfl⟩ := ih hr2 (by simpa using hl)
      exact ⟨rfl, rfl⟩
/-- What can be read so far can be read of more, too. -/
theorem Reads.split {ls : List Int} {s : ByteArray} {a b : Nat} {xs ys : List Nat} (h : Reads ls s a (xs ++ ys) b) : ∃ c, Reads ls s a xs c ∧ Reads ls s c ys b := by
  induction xs generalizing a with
  | nil => exact ⟨a, .nil a, h⟩
  | cons x xs ih =>
    cases h with
    | cons _ n _ _ _ hh hr =>
      obtain ⟨c, h1, h2⟩ := ih hr
      exact ⟨c, .cons _ _ _ _ _ hh h1, h2⟩
theorem Reads.le {ls : List Int} {s : ByteArray} {a b : Nat} {xs : List Nat} (h : Reads ls s a xs b) (ha : a ≤ 8 * s.size) : b ≤ 8 * s.size := by
  induction h with
  | nil a => exact ha
  | cons a n i xs b hh hr ih => exact ih hh.2.2.1
theorem Reads.mem {ls : List Int} {s : ByteArray} {a b : Nat} {xs : List Nat} (h : Reads ls s a xs b) : ∀ x ∈ xs, x < ls.length := by
  induction h with
  | nil a => intro x hx; simp at hx
  | cons a n i xs b hh hr ih =>
    intro x hx
    rcases List.mem_cons.1 hx with rfl | hx
    · exact hh.1
    · exact ih x hx
theorem row_three (s : ByteArray) (x y len : Nat) (h : x + y ≤ len) : row s 0 len = row s 0 x ++ row s x y ++ row s (x + y) (len - (x + y)) := by
  have h1 := row_add s 0 x y
  have h2 := row_add s 0 (x + y) (len - (x + y))
  rw [Nat.zero_add] at h1 h2
  rw [← h1, ← h2]
  congr 1; omega
/-- What was put is read. -/
theorem reads_put {ls ss : List Int} (h : putOk ls ss = true) {s : ByteArray} (m : Nat) (hrow : row s 0 (putL ls ss m).length = putL ls ss m) (hm : m = ss.length) (hs : (putL ls ss m).length ≤ 8 * s.size) :
    ∀ k, k ≤ m → Reads ls s 0 ((List.range k).map fun i => (ss.getD i 0).toNat) (lenSum ls ss k) := by
  obtain ⟨hok, hsy⟩ := (putOk_iff ls ss).1 h
  have hsy := (symsB_iff _ _).1 hsy
  have hpre : ∀ k, k ≤ m → ∃ T, putL ls ss m = putL ls ss k ++ T := by
    intro k hk
    refine ⟨(List.range (m - k)).flatMap fun i => symBits1 ls (ss.getD (k + i) 0).toNat, ?_⟩
    unfold putL
    rw [show m = k + (m - k) by omega, List.range_add, List.flatMap_append]
    congr 1
    rw [List.flatMap_map, show k + (m - k) - k = m - k by omega]
  intro k
  induction k with
  | zero => intro _; exact .nil 0
  | succ k ih =>
    intro hk
    rw [List.range_succ, List.map_append]
    suffices hh : hit ls s (lenSum ls ss k) (lnF ls (ss.getD k 0).toNat) (ss.getD k 0).toNat from Reads.snoc (ih (by omega)) hh
    have hx := hsy.2 k (by omega)
    obtain ⟨T, hT⟩ := hpre (k + 1) hk
    have hlen := congrArg List.length hT
    rw [List.length_append, putL_len ls ss (k + 1)] at hlen
    have hl2 : lenSum ls ss (k + 1) = lenSum ls ss k + lnF ls (ss.getD k 0).toNat := rfl
    refine ⟨by omega, rfl, by omega, ?_⟩
    have e := hrow.symm.trans (row_three s (lenSum ls ss k) (lnF ls (ss.getD k 0).toNat) (putL ls ss m).length (by omega))
    rw [putL_succ] at hT
    rw [e] at hT
    have hlr : (row s 0 (lenSum ls ss k)).length = (putL ls ss k).length := by rw [row_len, putL_len]
    rw [List.append_assoc, List.append_assoc] at hT
    have h3 := (List.append_inj hT hlr).2
    have h4 := (List.append_inj h3 (by rw [row_len]; unfold symBits1; rw [nbits_len])).1
    rw [h4]
    unfold symBits1
    exact num_nbits _ _ (cdF_lt hok _ (by omega))
end Go.Proofs.Ytdeikdlbgjpooaa
