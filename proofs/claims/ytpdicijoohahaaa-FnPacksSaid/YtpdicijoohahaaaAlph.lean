/- Chapter 7: sets of bytes, orders, counts, as plain lists of numbers. No condition. -/
import Derived.Test.YtpdicijoohahaaaMath2
import Derived.Test.YtpdicijoohahaaaMem
namespace Go.Proofs.Ytpdicijoohahaaa
set_option linter.unusedVariables false
set_option linter.unusedSimpArgs false

/-- All of the list are bytes. -/
def Byt (l : List Nat) : Prop := ∀ b ∈ l, b < 256
theorem byt_bytesOf (s : ByteArray) : Byt (bytesOf s) := by
  intro b hb
  simp only [bytesOf, List.mem_map] at hb
  obtain ⟨x, _, rfl⟩ := hb
  exact UInt8.toNat_lt _

/-- Two rows in one strict order with the same members are one. -/
theorem pw_unique {R : Nat → Nat → Prop} (irr : ∀ a, ¬ R a a) (asym : ∀ a b, R a b → ¬ R b a) : ∀ (l m : List Nat), l.Pairwise R → m.Pairwise R → (∀ b, b ∈ l ↔ b ∈ m) → l = m := by
  intro l
  induction l with
  | nil =>
    intro m _ _ h
    cases m with
    | nil => rfl
    | cons b m => exact absurd ((h b).2 (List.mem_cons_self ..)) (by simp)
  | cons a l ih =>
    intro m hl hm h
    cases m with
    | nil => exact absurd ((h a).1 (List.mem_cons_self ..)) (by simp)
    | cons b m =>
      rw [List.pairwise_cons] at hl hm
      have hab : a = b := by
        rcases List.mem_cons.1 ((h a).1 (List.mem_cons_self ..)) with e | e
        · exact e
        · rcases List.mem_cons.1 ((h b).2 (List.mem_cons_self ..)) with e2 | e2
          · exact e2.symm
          · exact absurd (hm.1 a e) (asym _ _ (hl.1 b e2))
      subst hab
      rw [ih m hl.2 hm.2]
      intro x
      constructor
      · intro hx
        rcases List.mem_cons.1 ((h x).1 (List.mem_cons_of_mem _ hx)) with e | e
        · subst e; exact absurd (hl.1 x hx) (irr _)
        · exact e
      · intro hx
        rcases List.mem_cons.1 ((h x).2 (List.mem_cons_of_mem _ hx)) with e | e
        · subst e; exact absurd (hm.1 x hx) (irr _)
        · exact e
theorem asc_unique {l m : List Nat} (h1 : l.Pairwise (· < ·)) (h2 : m.Pairwise (· < ·)) (h : ∀ b, b ∈ l ↔ b ∈ m) : l = m :=
  pw_unique (fun a => Nat.lt_irrefl a) (fun a b h => by omega) l m h1 h2 h

/-- The numbers of the list, each once, ascending, below k. -/
def usedTo (l : List Nat) (k : Nat) : List Nat := (List.range k).filter (fun b => decide (0 < l.count b))
def usedL (l : List Nat) : List Nat := usedTo l 256
theorem usedTo_succ (l : List Nat) (k : Nat) : usedTo l (k + 1) = if 0 < l.count k then usedTo l k ++ [k] else usedTo l k := by
  unfold usedTo
  rw [List.range_succ, List.filter_append]
  split <;> simp_all
theorem mem_usedTo {l : List Nat} {k b : Nat} : b ∈ usedTo l k ↔ b < k ∧ b ∈ l := by
  simp [usedTo, List.count_pos_iff]
theorem mem_usedL {l : List Nat} (h : Byt l) {b : Nat} : b ∈ usedL l ↔ b ∈ l := by
  unfold usedL
  rw [mem_usedTo]
  exact ⟨fun x => x.2, fun x => ⟨h b x, x⟩⟩
theorem usedL_asc (l : List Nat) : (usedL l).Pairwise (· < ·) := List.pairwise_lt_range.sublist List.filter_sublist
theorem usedTo_len (l : List Nat) (k : Nat) : (usedTo l k).length ≤ k := by
  unfold usedTo
  have := List.length_filter_le (fun b => decide (0 < l.count b)) (List.range k)
  simpa using this
theorem byt_usedL (l : List Nat) : Byt (usedL l) := fun b hb => (mem_usedTo.1 hb).1
theorem asc_nodup {l : List Nat} (h : l.Pairwise (· < ·)) : l.Nodup := h.imp (fun h => by omega)
theorem usedL_nodup (l : List Nat) : (usedL l).Nodup := asc_nodup (usedL_asc l)
theorem usedL_count (l : List Nat) (h : Byt l) (b : Nat) : (usedL l).count b = if b ∈ l then 1 else 0 := by
  rw [(usedL_nodup l).count]
  simp [mem_usedL h]
theorem usedL_self {u : List Nat} (hb : Byt u) : usedL u = u ↔ u.Pairwise (· < ·) := by
  constructor
  · intro h; rw [← h]; exact usedL_asc u
  · intro h; exact asc_unique (usedL_asc u) h (fun b => mem_usedL hb)
theorem nodup_len_le : ∀ {l m : List Nat}, l.Nodup → (∀ b ∈ l, b ∈ m) → l.length ≤ m.length := by
  intro l
  induction l with
  | nil => intro m _ _; simp
  | cons a l ih =>
    intro m hl h
    rw [List.nodup_cons] at hl
    have ha := h a (List.mem_cons_self ..)
    have h2 := ih (m := m.erase a) hl.2 (fun b hb => (List.mem_erase_of_ne (fun e => hl.1 (by rw [← e]; exact hb))).2 (h b (List.mem_cons_of_mem _ hb)))
    rw [List.length_erase_of_mem ha] at h2
    have := List.length_pos_of_mem ha
    simp only [List.length_cons]
    omega
theorem used_len_le {l : List Nat} (hb : Byt l) : (usedL l).length ≤ l.length := nodup_len_le (usedL_nodup l) (fun b h => (mem_usedL hb).1 h)
theorem used_len_eq {l : List Nat} (hb : Byt l) : (usedL l).length = l.length ↔ l.Nodup := by
  constructor
  · intro h
    rw [List.nodup_iff_count]
    intro a
    apply Decidable.byContradiction
    intro hc
    have h2 : 2 ≤ l.count a := by omega
    have ha : a ∈ l := List.count_pos_iff.1 (by omega)
    have hb2 : Byt (l.erase a) := fun b hx => hb b (List.mem_of_mem_erase hx)
    have he : usedL l = usedL (l.erase a) := asc_unique (usedL_asc _) (usedL_asc _) (fun b => by
      rw [mem_usedL hb, mem_usedL hb2, ← List.count_pos_iff, ← List.count_pos_iff, List.count_erase]
      by_cases e : b = a
      · subst e; rw [beq_self_eq_true, if_pos rfl]; omega
      · rw [if_neg (by simpa using Ne.symm e)]; rfl)
    have h3 := used_len_le hb2
    rw [← he, List.length_erase_of_mem ha] at h3
    have := List.length_pos_of_mem ha
    omega
  · intro h
    have := nodup_len_le h (fun b hx => (mem_usedL hb).2 hx)
    have := used_len_le hb
    omega
theorem nodup_256 {l : List Nat} (hb : Byt l) (h : l.Nodup) : l.length ≤ 256 := by
  have := (used_len_eq hb).2 h
  have := usedTo_len l 256
  unfold usedL at *
  omega
theorem used_perm {l : List Nat} (hb : Byt l) (h : l.Nodup) : (usedL l).Perm l := by
  rw [List.perm_iff_count]
  intro a
  rw [usedL_count l hb a, h.count]

/-- An order: something, and nothing twice. -/
def ordOk (l : List Nat) : Bool := decide (l ≠ [] ∧ l.Nodup)
theorem ordOk_iff (l : List Nat) : ordOk l = true ↔ l ≠ [] ∧ l.Nodup := by simp [ordOk]
/-- A set: something, and ascending. -/
def setOk (u : List Nat) : Bool := decide (u ≠ [] ∧ usedL u = u)
theorem setOk_iff (u : List Nat) : setOk u = true ↔ u ≠ [] ∧ usedL u = u := by simp [setOk]

/-- By count: what comes more often comes first; else by value. -/
def befC (l : List Nat) (a b : Nat) : Prop := l.count b < l.count a ∨ (l.count a = l.count b ∧ a < b)
theorem befC_irr (l : List Nat) (a : Nat) : ¬ befC l a a := by unfold befC; omega
theorem befC_asym (l : List Nat) (a b : Nat) (h : befC l a b) : ¬ befC l b a := by unfold befC at *; omega
theorem befC_trans (l : List Nat) {a b c : Nat} (h : befC l a b) (h2 : befC l b c) : befC l a c := by unfold befC at *; omega
theorem befC_total (l : List Nat) {a b : Nat} (h : a ≠ b) : befC l a b ∨ befC l b a := by unfold befC; omega
/-- The bytes of l by count. -/
def Ranked (l R : List Nat) : Prop := R.Pairwise (befC l) ∧ ∀ b, b ∈ R ↔ b ∈ l
theorem ranked_unique {l R R2 : List Nat} (h : Ranked l R) (h2 : Ranked l R2) : R = R2 :=
  pw_unique (befC_irr l) (befC_asym l) R R2 h.1 h2.1 (fun b => (h.2 b).trans (h2.2 b).symm)
theorem ranked_nodup {l R : List Nat} (h : Ranked l R) : R.Nodup := h.1.imp (fun {a b} h e => by subst e; exact befC_irr l a h)
theorem ranked_byt {l R : List Nat} (hb : Byt l) (h : Ranked l R) : Byt R := fun b hx => hb b ((h.2 b).1 hx)
theorem ranked_used {l R : List Nat} (hb : Byt l) (h : Ranked l R) : usedL R = usedL l :=
  asc_unique (usedL_asc _) (usedL_asc _) (fun b => by rw [mem_usedL (ranked_byt hb h), mem_usedL hb]; exact h.2 b)
theorem ranked_len {l R : List Nat} (hb : Byt l) (h : Ranked l R) : R.length = (usedL l).length := by
  rw [← ranked_used hb h]; exact ((used_len_eq (ranked_byt hb h)).2 (ranked_nodup h)).symm

/-- What is still to be picked, and how often it occurs. -/
def remF (L R : List Nat) (b : Nat) : Nat := if b ∈ R then 0 else L.count b
/-- R has been picked from L, in order. -/
def Sel (L R : List Nat) : Prop := R.Pairwise (befC L) ∧ (∀ x ∈ R, x ∈ L) ∧ ∀ x ∈ R, ∀ y ∈ L, y ∉ R → befC L x y
theorem sel_nil (L : List Nat) : Sel L [] := ⟨List.Pairwise.nil, by simp, by simp⟩
theorem sel_nodup {L R : List Nat} (h : Sel L R) : R.Nodup := h.1.imp (fun {a b} h e => by subst e; exact befC_irr L a h)
theorem sel_step {L R : List Nat} (hB : Byt L) (h : Sel L R) {m : Nat} (hmax : ∀ x, x < 256 → remF L R x ≤ remF L R m ∧ (remF L R x = remF L R m → m ≤ x)) (hp : 0 < remF L R m) : Sel L (R ++ [m]) ∧ R.length + 1 ≤ 256 := by
  have hm : m ∉ R := fun e => by unfold remF at hp; rw [if_pos e] at hp; omega
  have hr : remF L R m = L.count m := by unfold remF; rw [if_neg hm]
  have hmL : m ∈ L := List.count_pos_iff.1 (by omega)
  have h2 : Sel L (R ++ [m]) := by
    refine ⟨?_, ?_, ?_⟩
    · rw [List.pairwise_append]
      refine ⟨h.1, by simp, fun a ha b hb => ?_⟩
      simp at hb; subst hb
      exact h.2.2 a ha b hmL hm
    · intro x hx
      rcases List.mem_append.1 hx with hx | hx
      · exact h.2.1 x hx
      · simp at hx; subst hx; exact hmL
    · intro x hx y hy hn
      have hy1 : y ∉ R := fun e => hn (List.mem_append_left _ e)
      have hy2 : y ≠ m := fun e => hn (by simp [e])
      rcases List.mem_append.1 hx with hx | hx
      · exact h.2.2 x hx y hy hy1
      · simp at hx; subst hx
        have hq := hmax y (hB y hy)
        have hry : remF L R y = L.count y := by unfold remF; rw [if_neg hy1]
        rw [hry, hr] at hq
        unfold befC; omega
  refine ⟨h2, ?_⟩
  have := nodup_256 (fun b hb => hB b (h2.2.1 b hb)) (sel_nodup h2)
  simpa using this
theorem sel_end {L R : List Nat} (hB : Byt L) (h : Sel L R) {m : Nat} (hmax : ∀ x, x < 256 → remF L R x ≤ remF L R m ∧ (remF L R x = remF L R m → m ≤ x)) (hp : remF L R m = 0) : Ranked L R := by
  refine ⟨h.1, fun b => ⟨h.2.1 b, fun hb => ?_⟩⟩
  apply Decidable.byContradiction
  intro hn
  have h1 := (hmax b (hB b hb)).1
  have h2 : remF L R b = L.count b := by unfold remF; rw [if_neg hn]
  have h3 := List.count_pos_iff.2 hb
  omega
theorem remF_snoc (L R : List Nat) (m t : Nat) : remF L (R ++ [m]) t = if t = m then 0 else remF L R t := by
  unfold remF
  by_cases e : t = m
  · subst e; simp
  · simp [e]
theorem remF_nil (L : List Nat) : remF L [] = fun b => L.count b := by funext b; simp [remF]
end Go.Proofs.Ytpdicijoohahaaa
