/- Chapter 5, plain: lengths by their steps: the bits, the reading. No condition. -/
import Derived.Test.YtdeikdlbgjpooaaMath2
namespace Go.Proofs.Ytdeikdlbgjpooaa
set_option linter.unusedVariables false
set_option linter.unusedSimpArgs false

/-! ### the bits -/
/-- From 'now' to 'x', one step after the other, and a zero. -/
def upB : Nat → List Nat
  | 0 => [0]
  | k + 1 => 1 :: 0 :: upB k
def dnB : Nat → List Nat
  | 0 => [0]
  | k + 1 => 1 :: 1 :: dnB k
def stepB (now x : Nat) : List Nat := if now ≤ x then upB (x - now) else dnB (now - x)
def stepsL : Nat → List Nat → List Nat
  | _, [] => []
  | now, x :: xs => stepB now x ++ stepsL x xs
theorem upB_len (k : Nat) : (upB k).length = 2 * k + 1 := by
  induction k with
  | zero => rfl
  | succ k ih => simp only [upB, List.length_cons, ih]; omega
theorem dnB_len (k : Nat) : (dnB k).length = 2 * k + 1 := by
  induction k with
  | zero => rfl
  | succ k ih => simp only [dnB, List.length_cons, ih]; omega
/-- How far two lengths lie apart. -/
def gap (a b : Nat) : Nat := (a - b) + (b - a)
theorem stepB_len (now x : Nat) : (stepB now x).length = 2 * gap now x + 1 := by
  unfold stepB gap
  by_cases h : now ≤ x
  · rw [if_pos h, upB_len]; omega
  · rw [if_neg h, dnB_len]; omega
def stepsN : Nat → List Nat → Nat
  | _, [] => 0
  | now, x :: xs => 2 * gap now x + 1 + stepsN x xs
theorem stepsL_len (xs : List Nat) : ∀ now, (stepsL now xs).length = stepsN now xs := by
  induction xs with
  | nil => intro now; rfl
  | cons x xs ih => intro now; simp only [stepsL, stepsN, List.length_append, stepB_len, ih]
def lastN : Nat → List Nat → Nat
  | now, [] => now
  | _, x :: xs => lastN x xs
theorem lastN_snoc (xs : List Nat) (x : Nat) : ∀ now, lastN now (xs ++ [x]) = x := by
  induction xs with
  | nil => intro now; rfl
  | cons y xs ih => intro now; exact ih y
theorem stepsL_snoc (xs : List Nat) (x : Nat) : ∀ now, stepsL now (xs ++ [x]) = stepsL now xs ++ stepB (lastN now xs) x := by
  induction xs with
  | nil => intro now; simp [stepsL, lastN]
  | cons y xs ih =>
    intro now
    simp only [List.cons_append, stepsL, ih, List.append_assoc, lastN]
theorem upB_lt (k : Nat) : ∀ b ∈ upB k, b < 2 := by
  induction k with
  | zero => intro b hb; simp [upB] at hb; omega
  | succ k ih =>
    intro b hb
    simp only [upB, List.mem_cons] at hb
    rcases hb with rfl | rfl | hb
    · omega
    · omega
    · exact ih b hb
theorem dnB_lt (k : Nat) : ∀ b ∈ dnB k, b < 2 := by
  induction k with
  | zero => intro b hb; simp [dnB] at hb; omega
  | succ k ih =>
    intro b hb
    simp only [dnB, List.mem_cons] at hb
    rcases hb with rfl | rfl | hb
    · omega
    · omega
    · exact ih b hb
theorem stepB_lt (now x : Nat) : ∀ b ∈ stepB now x, b < 2 := by
  unfold stepB
  by_cases h : now ≤ x
  · rw [if_pos h]; exact upB_lt _
  · rw [if_neg h]; exact dnB_lt _
theorem stepsL_lt (xs : List Nat) : ∀ now, ∀ b ∈ stepsL now xs, b < 2 := by
  induction xs with
  | nil => intro now b hb; simp [stepsL] at hb
  | cons x xs ih =>
    intro now b hb
    simp only [stepsL, List.mem_append] at hb
    rcases hb with hb | hb
    · exact stepB_lt _ _ b hb
    · exact ih x b hb
theorem gap_le {a b m : Nat} (ha : 1 ≤ a ∧ a ≤ m) (hb : 1 ≤ b ∧ b ≤ m) : gap a b ≤ m - 1 := by unfold gap; omega
theorem stepsN_le (xs : List Nat) : ∀ now, 1 ≤ now ∧ now ≤ 20 → (∀ x ∈ xs, 1 ≤ x ∧ x ≤ 20) → stepsN now xs ≤ 39 * xs.length := by
  induction xs with
  | nil => intro now _ _; exact Nat.le_refl _
  | cons x xs ih =>
    intro now hn hx
    have h1 := hx x (List.mem_cons_self ..)
    have h2 := ih x h1 fun y hy => hx y (List.mem_cons_of_mem _ hy)
    have h3 := gap_le hn h1
    simp only [stepsN, List.length_cons]
    omega

/-! ### the reading -/
/-- From bit a on, the length being 'now', the steps lead to the length x, and the zero ends ahead of bit b. -/
inductive Stp (s : ByteArray) : Nat → Nat → Nat → Nat → Prop
  | stop (a now : Nat) (h : 1 ≤ now ∧ now ≤ 20) (hs : a + 1 ≤ 8 * s.size) (hb : bit s a = 0) : Stp s a now now (a + 1)
  | up (a now x b : Nat) (h : 1 ≤ now ∧ now ≤ 20) (hs : a + 2 ≤ 8 * s.size) (hb : bit s a = 1) (hc : bit s (a + 1) = 0) (hr : Stp s (a + 2) (now + 1) x b) : Stp s a now x b
  | down (a now x b : Nat) (h : 1 ≤ now ∧ now ≤ 20) (hs : a + 2 ≤ 8 * s.size) (hb : bit s a = 1) (hc : bit s (a + 1) = 1) (hr : Stp s (a + 2) (now - 1) x b) : Stp s a now x b
theorem Stp.one {s : ByteArray} {a now x b : Nat} (h1 : Stp s a now x b) : ∀ {y c : Nat}, Stp s a now y c → x = y ∧ b = c := by
  induction h1 with
  | stop a now h hs hb =>
    intro y c h2
    cases h2 with
    | stop => exact ⟨rfl, rfl⟩
    | up _ _ _ _ _ _ hb2 => omega
    | down _ _ _ _ _ _ hb2 => omega
  | up a now x b h hs hb hc hr ih =>
    intro y c h2
    cases h2 with
    | stop _ _ _ _ hb2 => omega
    | up _ _ _ _ _ _ _ _ hr2 => exact ih hr2
    | down _ _ _ _ _ _ _ hc2 => omega
  | down a now x b h hs hb hc hr ih =>
    intro y c h2
    cases h2 with
    | stop _ _ _ _ hb2 => omega
    | up _ _ _ _ _ _ _ hc2 => omega
    | down _ _ _ _ _ _ _ _ hr2 => exact ih hr2
theorem Stp.range {s : ByteArray} {a now x b : Nat} (h : Stp s a now x b) : 1 ≤ x ∧ x ≤ 20 := by
  induction h with
  | stop a now h => exact h
  | up _ _ _ _ _ _ _ _ _ ih => exact ih
  | down _ _ _ _ _ _ _ _ _ ih => exact ih
theorem Stp.le {s : ByteArray} {a now x b : Nat} (h : Stp s a now x b) : a < b ∧ b ≤ 8 * s.size := by
  induction h with
  | stop a now h hs => exact ⟨by omega, hs⟩
  | up _ _ _ _ _ _ _ _ _ ih => exact ⟨by omega, ih.2⟩
  | down _ _ _ _ _ _ _ _ _ ih => exact ⟨by omega, ih.2⟩
/-- Lengths one after the other. -/
inductive StpL (s : ByteArray) : Nat → Nat → List Nat → Nat → Prop
  | nil (a now : Nat) : StpL s a now [] a
  | cons (a now x b c : Nat) (xs : List Nat) (h : Stp s a now x b) (hr : StpL s b x xs c) : StpL s a now (x :: xs) c
theorem StpL.one {s : ByteArray} {a now b : Nat} {xs : List Nat} (h1 : StpL s a now xs b) : ∀ {ys : List Nat} {c : Nat}, StpL s a now ys c → xs.length = ys.length → xs = ys ∧ b = c := by
  induction h1 with
  | nil a now =>
    intro ys c h2 hl
    cases h2 with
    | nil => exact ⟨rfl, rfl⟩
    | cons => simp at hl
  | cons a now x b c xs h hr ih =>
    intro ys c2 h2 hl
    cases h2 with
    | nil => simp at hl
    | cons _ _ y b2 _ ys h2 hr2 =>
      obtain ⟨rfl, rfl⟩ := h.one h2
      obtain ⟨rfl, rfl⟩ := ih hr2 (by simpa using hl)
      exact ⟨rfl, rfl⟩
theorem StpL.range {s : ByteArray} {a now b : Nat} {xs : List Nat} (h : StpL s a now xs b) : ∀ x ∈ xs, 1 ≤ x ∧ x ≤ 20 := by
  induction h with
  | nil => intro x hx; simp at hx
  | cons a now x b c xs h hr ih =>
    intro y hy
    rcases List.mem_cons.1 hy with rfl | hy
    · exact h.range
    · exact ih y hy
theorem StpL.le {s : ByteArray} {a now b : Nat} {xs : List Nat} (h : StpL s a now xs b) (ha : a ≤ 8 * s.size) : a ≤ b ∧ b ≤ 8 * s.size := by
  induction h with
  | nil a now => exact ⟨Nat.le_refl _, ha⟩
  | cons a now x b c xs h hr ih =>
    have := h.le
    have := ih this.2
    omega
theorem StpL.snoc {s : ByteArray} {a now b c x : Nat} {xs : List Nat} (h : StpL s a now xs b) (hx : Stp s b (lastN now xs) x c) : StpL s a now (xs ++ [x]) c := by
  induction h with
  | nil a now => exact .cons _ _ _ _ _ _ hx (.nil _ _)
  | cons a now y b c2 xs h hr ih =>
    exact .cons _ _ _ _ _ _ h (ih hx)
theorem StpL.split {s : ByteArray} {a now c : Nat} {xs ys : List Nat} (h : StpL s a now (xs ++ ys) c) : ∃ b, StpL s a now xs b ∧ StpL s b (lastN now xs) ys c := by
  induction xs generalizing a now with
  | nil => exact ⟨a, .nil _ _, h⟩
  | cons x xs ih =>
    cases h with
    | cons _ _ _ b _ _ h hr =>
      obtain ⟨d, h1, h2⟩ := ih hr
      exact ⟨d, .cons _ _ _ _ _ _ h h1, h2⟩

/-! ### what was written is read -/
theorem row_cons5 (s : ByteArray) (a n : Nat) : row s a (n + 1) = bit s a :: row s (a + 1) n := by
  have := row_add s a 1 n
  rw [Nat.add_comm n 1, this]
  simp [row]
theorem up_read {s : ByteArray} (k : Nat) : ∀ (a now : Nat), 1 ≤ now → now + k ≤ 20 → a + (2 * k + 1) ≤ 8 * s.size → row s a (2 * k + 1) = upB k → Stp s a now (now + k) (a + (2 * k + 1)) := by
  induction k with
  | zero =>
    intro a now h1 h2 hs hr
    rw [show 2 * 0 + 1 = 0 + 1 by omega, row_cons5] at hr
    simp only [upB, List.cons.injEq] at hr
    exact .stop a now ⟨h1, by omega⟩ (by omega) hr.1
  | succ k ih =>
    intro a now h1 h2 hs hr
    rw [show 2 * (k + 1) + 1 = (2 * k + 1) + 1 + 1 by omega, row_cons5, row_cons5] at hr
    simp only [upB, List.cons.injEq] at hr
    have := ih (a + 2) (now + 1) (by omega) (by omega) (by omega) hr.2.2
    rw [show now + 1 + k = now + (k + 1) by omega, show a + 2 + (2 * k + 1) = a + (2 * (k + 1) + 1) by omega] at this
    exact .up a now _ _ ⟨h1, by omega⟩ (by omega) hr.1 hr.2.1 this
theorem dn_read {s : ByteArray} (k : Nat) : ∀ (a now : Nat), k + 1 ≤ now → now ≤ 20 → a + (2 * k + 1) ≤ 8 * s.size → row s a (2 * k + 1) = dnB k → Stp s a now (now - k) (a + (2 * k + 1)) := by
  induction k with
  | zero =>
    intro a now h1 h2 hs hr
    rw [show 2 * 0 + 1 = 0 + 1 by omega, row_cons5] at hr
    simp only [dnB, List.cons.injEq] at hr
    exact .stop a now ⟨by omega, h2⟩ (by omega) hr.1
  | succ k ih =>
    intro a now h1 h2 hs hr
    rw [show 2 * (k + 1) + 1 = (2 * k + 1) + 1 + 1 by omega, row_cons5, row_cons5] at hr
    simp only [dnB, List.cons.injEq] at hr
    have := ih (a + 2) (now - 1) (by omega) (by omega) (by omega) hr.2.2
    rw [show now - 1 - k = now - (k + 1) by omega, show a + 2 + (2 * k + 1) = a + (2 * (k + 1) + 1) by omega] at this
    exact .down a now _ _ ⟨by omega, h2⟩ (by omega) hr.1 hr.2.1 this
theorem step_read {s : ByteArray} {a now x : Nat} (hn : 1 ≤ now ∧ now ≤ 20) (hx : 1 ≤ x ∧ x ≤ 20) (hs : a + (stepB now x).length ≤ 8 * s.size) (hr : row s a (stepB now x).length = stepB now x) : Stp s a now x (a + (stepB now x).length) := by
  unfold stepB at hs hr ⊢
  by_cases h : now ≤ x
  · rw [if_pos h] at hs hr ⊢
    rw [upB_len] at hs hr ⊢
    have := up_read (x - now) a now hn.1 (by omega) hs hr
    rwa [show now + (x - now) = x by omega] at this
  · rw [if_neg h] at hs hr ⊢
    rw [dnB_len] at hs hr ⊢
    have := dn_read (now - x) a now (by omega) hn.2 hs hr
    rwa [show now - (now - x) = x by omega] at this
theorem steps_read {s : ByteArray} (xs : List Nat) : ∀ (a now : Nat), 1 ≤ now ∧ now ≤ 20 → (∀ x ∈ xs, 1 ≤ x ∧ x ≤ 20) → a + (stepsL now xs).length ≤ 8 * s.size → row s a (stepsL now xs).length = stepsL now xs → StpL s a now xs (a + (stepsL now xs).length) := by
  induction xs with
  | nil => intro a now _ _ _ _; exact .nil _ _
  | cons x xs ih =>
    intro a now hn hx hs hr
    have h1 := hx x (List.mem_cons_self ..)
    simp only [stepsL, List.length_append] at hs hr ⊢
    rw [row_add] at hr
    have h2 := List.append_inj hr (by rw [row_len])
    have h3 := step_read hn h1 (by omega) h2.1
    have h4 := ih _ x h1 (fun y hy => hx y (List.mem_cons_of_mem _ hy)) (by omega) h2.2
    rw [Nat.add_assoc] at h4
    exact .cons _ _ _ _ _ _ h3 h4
end Go.Proofs.Ytdeikdlbgjpooaa
