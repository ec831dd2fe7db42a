/- Chapter 5, plain: the bits of a list of lengths, one symbol after the other; how many there are. No condition. -/
import Derived.Test.YtdeikdlbgjpooaaStp
import Derived.Test.YtdeikdlbgjpooaaC4P
namespace Go.Proofs.Ytdeikdlbgjpooaa
set_option linter.unusedVariables false
set_option linter.unusedSimpArgs false
open Go.RowKit

def upP : Nat → List Nat
  | 0 => []
  | k + 1 => upP k ++ [1, 0]
def dnP : Nat → List Nat
  | 0 => []
  | k + 1 => dnP k ++ [1, 1]
theorem upP_cons (k : Nat) : upP (k + 1) = 1 :: 0 :: upP k := by
  induction k with
  | zero => rfl
  | succ k ih =>
    have e : upP (k + 1) ++ [1, 0] = (1 :: 0 :: upP k) ++ [1, 0] := by rw [ih]
    exact e
theorem dnP_cons (k : Nat) : dnP (k + 1) = 1 :: 1 :: dnP k := by
  induction k with
  | zero => rfl
  | succ k ih =>
    have e : dnP (k + 1) ++ [1, 1] = (1 :: 1 :: dnP k) ++ [1, 1] := by rw [ih]
    exact e
theorem upB_P (k : Nat) : upB k = upP k ++ [0] := by
  induction k with
  | zero => rfl
  | succ k ih => rw [upB, ih, upP_cons]; rfl
theorem dnB_P (k : Nat) : dnB k = dnP k ++ [0] := by
  induction k with
  | zero => rfl
  | succ k ih => rw [dnB, ih, dnP_cons]; rfl
theorem upP_len (k : Nat) : (upP k).length = 2 * k := by
  induction k with
  | zero => rfl
  | succ k ih => simp only [upP, List.length_append, ih, List.length_cons, List.length_nil]; omega
theorem dnP_len (k : Nat) : (dnP k).length = 2 * k := by
  induction k with
  | zero => rfl
  | succ k ih => simp only [dnP, List.length_append, ih, List.length_cons, List.length_nil]; omega
theorem stepB_P (now x : Nat) : stepB now x = upP (x - now) ++ dnP (now - x) ++ [0] := by
  unfold stepB
  by_cases h : now ≤ x
  · rw [if_pos h, upB_P, show now - x = 0 by omega]; simp [dnP]
  · rw [if_neg h, dnB_P, show x - now = 0 by omega]; simp [upP]

/-- The lengths, as numbers. -/
def lnL (ls : List Int) : List Nat := (List.range ls.length).map (lnF ls)
theorem lnL_len (ls : List Int) : (lnL ls).length = ls.length := by simp [lnL]
theorem lnL_get (ls : List Int) (k : Nat) (h : k < ls.length) : (lnL ls)[k]? = some (lnF ls k) := by simp [lnL, h]
theorem lnL_take (ls : List Int) (k : Nat) (h : k < ls.length) : (lnL ls).take (k + 1) = (lnL ls).take k ++ [lnF ls k] := by
  rw [List.take_add_one, lnL_get ls k h]; rfl
theorem lnL_all (ls : List Int) : (lnL ls).take ls.length = lnL ls := List.take_of_length_le (by rw [lnL_len]; exact Nat.le_refl _)
theorem lnL_range {ls : List Int} (h : lRange ls) : ∀ x ∈ lnL ls, 1 ≤ x ∧ x ≤ 20 := by
  intro x hx
  simp only [lnL, List.mem_map, List.mem_range] at hx
  obtain ⟨i, hi, rfl⟩ := hx
  exact lRange_ln h i hi
theorem lnL_int {ls : List Int} (h : lRange ls) : (lnL ls).map (fun (x : Nat) => (x : Int)) = ls := by
  apply List.ext_getElem?
  intro k
  rcases Nat.lt_or_ge k ls.length with hk | hk
  · rw [List.getElem?_map, lnL_get ls k hk, List.getElem?_eq_getElem hk]
    have := lnF_int h k hk
    simp only [List.getD_eq_getElem?_getD, List.getElem?_eq_getElem hk, Option.getD_some] at this
    simp [this]
  · rw [List.getElem?_eq_none (by simp [lnL_len]; omega), List.getElem?_eq_none (by omega)]
/-- The bits up to symbol k; the length that stands then. -/
def putN (ls : List Int) (k : Nat) : List Nat := nbits (lnF ls 0) 5 ++ stepsL (lnF ls 0) ((lnL ls).take k)
def nowN (ls : List Int) (k : Nat) : Nat := lastN (lnF ls 0) ((lnL ls).take k)
def put5 (ls : List Int) : List Nat := putN ls ls.length
theorem putN_zero (ls : List Int) : putN ls 0 = nbits (lnF ls 0) 5 := by simp [putN, stepsL]
theorem nowN_zero (ls : List Int) : nowN ls 0 = lnF ls 0 := rfl
theorem nowN_succ (ls : List Int) (k : Nat) (h : k < ls.length) : nowN ls (k + 1) = lnF ls k := by
  unfold nowN; rw [lnL_take ls k h, lastN_snoc]
theorem putN_succ (ls : List Int) (k : Nat) (h : k < ls.length) : putN ls (k + 1) = putN ls k ++ stepB (nowN ls k) (lnF ls k) := by
  unfold putN nowN; rw [lnL_take ls k h, stepsL_snoc, List.append_assoc]
theorem nowN_range {ls : List Int} (h : lRange ls) (k : Nat) (hk : k ≤ ls.length) : 1 ≤ nowN ls k ∧ nowN ls k ≤ 20 := by
  cases k with
  | zero => exact lRange_ln h 0 (by have := h.1; omega)
  | succ k => rw [nowN_succ ls k (by omega)]; exact lRange_ln h k (by omega)
theorem putN_le {ls : List Int} (h : lRange ls) (k : Nat) (hk : k ≤ ls.length) : (putN ls k).length ≤ 5 + 39 * k := by
  induction k with
  | zero => rw [putN_zero, nbits_len]; exact Nat.le_refl _
  | succ k ih =>
    have h1 := ih (by omega)
    have h2 := nowN_range h k (by omega)
    have h3 := lRange_ln h k (by omega)
    rw [putN_succ ls k (by omega), List.length_append, stepB_len]
    unfold gap
    omega
theorem putN_lt (ls : List Int) (k : Nat) : ∀ b ∈ putN ls k, b < 2 := by
  intro b hb
  unfold putN at hb
  rcases List.mem_append.1 hb with hb | hb
  · exact nbits_lt _ _ b hb
  · exact stepsL_lt _ _ b hb
theorem put5_split (ls : List Int) : put5 ls = nbits (lnF ls 0) 5 ++ stepsL (lnF ls 0) (lnL ls) := by unfold put5 putN; rw [lnL_all]
/-- What the steps take, up to symbol k. -/
def gapS (ls : List Int) (k : Nat) : Nat := rsum k fun i => if i = 0 then 0 else gap (lnF ls (i - 1)) (lnF ls i)
theorem gapS_succ (ls : List Int) (k : Nat) : gapS ls (k + 1) = gapS ls k + if k = 0 then 0 else gap (lnF ls (k - 1)) (lnF ls k) := rfl
theorem putN_count (ls : List Int) (k : Nat) (hk : k ≤ ls.length) : (putN ls k).length = 5 + k + 2 * gapS ls k := by
  induction k with
  | zero => rw [putN_zero, nbits_len]; rfl
  | succ k ih =>
    rw [putN_succ ls k (by omega), List.length_append, stepB_len, ih (by omega), gapS_succ]
    cases k with
    | zero => rw [nowN_zero, if_pos rfl]; unfold gap; omega
    | succ k => rw [nowN_succ ls k (by omega), if_neg (by omega), Nat.add_sub_cancel]; omega
/-- How many bits the lengths have; -1 where they are none. -/
def costL (ls : List Int) : Int := if lOk ls = true then ((put5 ls).length : Int) else -1

/-! ### the reading -/
/-- n lengths stand at bit a of s, up to bit c. -/
def Lens5 (s : ByteArray) (a : Nat) (xs : List Nat) (c : Nat) : Prop := a + 5 ≤ 8 * s.size ∧ StpL s (a + 5) (num (row s a 5)) xs c
theorem Lens5.one {s : ByteArray} {a b c : Nat} {xs ys : List Nat} (h1 : Lens5 s a xs b) (h2 : Lens5 s a ys c) (hl : xs.length = ys.length) : xs = ys ∧ b = c := h1.2.one h2.2 hl
theorem Lens5.le {s : ByteArray} {a b : Nat} {xs : List Nat} (h : Lens5 s a xs b) : b ≤ 8 * s.size := (h.2.le h.1).2
theorem Lens5.range {s : ByteArray} {a b : Nat} {xs : List Nat} (h : Lens5 s a xs b) : ∀ x ∈ xs, 1 ≤ x ∧ x ≤ 20 := h.2.range
/-- What was put is read. -/
theorem lens5_put {ls : List Int} (h : lRange ls) {s : ByteArray} {a : Nat} (hs : a + (put5 ls).length ≤ 8 * s.size) (hr : row s a (put5 ls).length = put5 ls) : Lens5 s a (lnL ls) (a + (put5 ls).length) := by
  rw [put5_split] at hs hr ⊢
  rw [List.length_append, nbits_len] at hs hr ⊢
  rw [row_add] at hr
  obtain ⟨e1, e2⟩ := List.append_inj hr (by rw [row_len, nbits_len])
  have h0 := lRange_ln h 0 (by have := h.1; omega)
  refine ⟨by omega, ?_⟩
  rw [e1, num_nbits _ _ (by omega), ← Nat.add_assoc]
  exact steps_read (lnL ls) (a + 5) (lnF ls 0) h0 (lnL_range h) (by omega) e2

/-! ### step by step -/
theorem stp_range {s : ByteArray} {a now x b : Nat} (h : Stp s a now x b) : 1 ≤ now ∧ now ≤ 20 := by cases h <;> assumption
theorem stp_room {s : ByteArray} {a now x b : Nat} (h : Stp s a now x b) : a + 1 ≤ 8 * s.size := by cases h <;> omega
theorem stp_zero {s : ByteArray} {a now x b : Nat} (h : Stp s a now x b) (hb : bit s a = 0) : x = now ∧ b = a + 1 := by
  cases h with
  | stop => exact ⟨rfl, rfl⟩
  | up _ _ _ _ _ _ hb2 => omega
  | down _ _ _ _ _ _ hb2 => omega
theorem stp_room2 {s : ByteArray} {a now x b : Nat} (h : Stp s a now x b) (hb : bit s a = 1) : a + 2 ≤ 8 * s.size := by
  cases h with
  | stop _ _ _ _ hb2 => omega
  | up => assumption
  | down => assumption
theorem stp_up {s : ByteArray} {a now x b : Nat} (hn : 1 ≤ now ∧ now ≤ 20) (hs : a + 2 ≤ 8 * s.size) (hb : bit s a = 1) (hc : bit s (a + 1) = 0) : Stp s a now x b ↔ Stp s (a + 2) (now + 1) x b := by
  constructor
  · intro h
    cases h with
    | stop _ _ _ _ hb2 => omega
    | up _ _ _ _ _ _ _ _ hr => exact hr
    | down _ _ _ _ _ _ _ hc2 => omega
  · intro h; exact .up a now x b hn hs hb hc h
theorem stp_down {s : ByteArray} {a now x b : Nat} (hn : 1 ≤ now ∧ now ≤ 20) (hs : a + 2 ≤ 8 * s.size) (hb : bit s a = 1) (hc : bit s (a + 1) = 1) : Stp s a now x b ↔ Stp s (a + 2) (now - 1) x b := by
  constructor
  · intro h
    cases h with
    | stop _ _ _ _ hb2 => omega
    | up _ _ _ _ _ _ _ hc2 => omega
    | down _ _ _ _ _ _ _ _ hr => exact hr
  · intro h; exact .down a now x b hn hs hb hc h
theorem stpL_stop {s : ByteArray} {a now c n : Nat} {xs : List Nat} (h : StpL s a now xs c) (hn : xs.length < n) (hno : ∀ x d, ¬ Stp s c (lastN now xs) x d) : ¬ ∃ (ys : List Nat) (d : Nat), ys.length = n ∧ StpL s a now ys d := by
  rintro ⟨ys, d, hl, h2⟩
  rw [← List.take_append_drop xs.length ys] at h2
  obtain ⟨c3, h3, h4⟩ := h2.split
  obtain ⟨e, rfl⟩ := h.one h3 (by rw [List.length_take]; omega)
  rw [← e] at h4
  cases hd : ys.drop xs.length with
  | nil =>
    have := congrArg List.length hd
    rw [List.length_drop] at this
    simp at this; omega
  | cons x T =>
    rw [hd] at h4
    cases h4 with
    | cons _ _ _ b _ _ hh _ => exact hno _ _ hh
/-- The numbers as integers; what GetLens reads: n lengths that are a code. -/
def iL (xs : List Nat) : List Int := xs.map fun (x : Nat) => (x : Int)
theorem iL_len (xs : List Nat) : (iL xs).length = xs.length := by simp [iL]
theorem iL_lnL {ls : List Int} (h : lRange ls) : iL (lnL ls) = ls := lnL_int h
def reads5 (s : ByteArray) (a n : Nat) (xs : List Nat) (c : Nat) : Prop := xs.length = n ∧ Lens5 s a xs c ∧ lOk (iL xs) = true
theorem reads5_one {s : ByteArray} {a n b c : Nat} {xs ys : List Nat} (h1 : reads5 s a n xs b) (h2 : reads5 s a n ys c) : xs = ys ∧ b = c := h1.2.1.one h2.2.1 (by rw [h1.1, h2.1])
end Go.Proofs.Ytdeikdlbgjpooaa
