/- Chapter 8, plain: sort-by-rank. -/
import Derived.Test.YteaohgipndmciaaRec
namespace Go.Proofs.Yteaohgipndmciaa
set_option linter.unusedVariables false
set_option linter.unusedSimpArgs false

/-- x stands ahead of y: its sum is greater, or the sums are equal and it is the less number. -/
def bfS (f : Nat → Nat) (x y : Nat) : Prop := f y < f x ∨ (f x = f y ∧ x < y)
theorem bfS_irr (f : Nat → Nat) (x : Nat) : ¬ bfS f x x := by unfold bfS; omega
theorem bfS_asym (f : Nat → Nat) {x y : Nat} (h : bfS f x y) : ¬ bfS f y x := by unfold bfS at *; omega
theorem bfS_trans (f : Nat → Nat) {x y z : Nat} (h : bfS f x y) (h2 : bfS f y z) : bfS f x z := by unfold bfS at *; omega
theorem bfS_total (f : Nat → Nat) {x y : Nat} (h : x ≠ y) : bfS f x y ∨ bfS f y x := by unfold bfS; omega
/-- The numbers below n, sorted so. -/
def ByS (f : Nat → Nat) (n : Nat) (S : List Nat) : Prop := PermN n S ∧ S.Pairwise (bfS f)
theorem byS_unique {f : Nat → Nat} {n : Nat} {S S2 : List Nat} (h : ByS f n S) (h2 : ByS f n S2) : S = S2 := by
  refine List.Perm.eq_of_pairwise ?_ h.2 h2.2 (h.1.trans h2.1.symm)
  intro a b _ _ h3 h4
  exact absurd h4 (bfS_asym f h3)
theorem ins_pair {R : Nat → Nat → Prop} {P Q : List Nat} {x : Nat} (h : (P ++ Q).Pairwise R) (h1 : ∀ y ∈ P, R y x) (h2 : ∀ y ∈ Q, R x y) : (P ++ x :: Q).Pairwise R := by
  obtain ⟨a, b, c⟩ := List.pairwise_append.1 h
  refine List.pairwise_append.2 ⟨a, List.pairwise_cons.2 ⟨h2, b⟩, ?_⟩
  intro y hy z hz
  rcases List.mem_cons.1 hz with e | e
  · rw [e]; exact h1 y hy
  · exact c y hy z e
/-- Where there is one: the numbers below n in their order. -/
def insS (f : Nat → Nat) (x : Nat) : List Nat → List Nat
  | [] => [x]
  | y :: ys => if f y < f x ∨ (f x = f y ∧ x < y) then x :: y :: ys else y :: insS f x ys
def byL (f : Nat → Nat) : Nat → List Nat
  | 0 => []
  | n + 1 => insS f n (byL f n)
theorem insS_perm (f : Nat → Nat) (x : Nat) : ∀ (S : List Nat), (insS f x S).Perm (x :: S)
  | [] => List.Perm.refl _
  | y :: ys => by
    unfold insS
    split
    · exact List.Perm.refl _
    · exact ((insS_perm f x ys).cons y).trans (List.Perm.swap x y ys)
theorem insS_pair (f : Nat → Nat) (x : Nat) : ∀ (S : List Nat), S.Pairwise (bfS f) → x ∉ S → (insS f x S).Pairwise (bfS f)
  | [], _, _ => by simp [insS]
  | y :: ys, h, hx => by
    obtain ⟨h1, h2⟩ := List.pairwise_cons.1 h
    have hxy : x ≠ y := fun e => hx (e ▸ List.mem_cons_self ..)
    unfold insS
    split
    · next hb =>
      refine List.pairwise_cons.2 ⟨?_, h⟩
      intro z hz
      rcases List.mem_cons.1 hz with e | e
      · rw [e]; exact hb
      · exact bfS_trans f hb (h1 z e)
    · next hb =>
      refine List.pairwise_cons.2 ⟨?_, insS_pair f x ys h2 (fun hm => hx (List.mem_cons_of_mem _ hm))⟩
      intro z hz
      rcases List.mem_cons.1 ((insS_perm f x ys).mem_iff.1 hz) with e | e
      · rw [e]
        rcases bfS_total f hxy with h3 | h3
        · exact absurd h3 hb
        · exact h3
      · exact h1 z e
theorem byL_by (f : Nat → Nat) : ∀ (n : Nat), ByS f n (byL f n)
  | 0 => ⟨List.Perm.refl _, List.Pairwise.nil⟩
  | n + 1 => by
    obtain ⟨h1, h2⟩ := byL_by f n
    refine ⟨?_, insS_pair f n _ h2 (fun hm => by have := (h1.mem n).1 hm; omega)⟩
    show (insS f n (byL f n)).Perm (List.range (n + 1))
    rw [List.range_succ]
    exact ((insS_perm f n _).trans (h1.cons n)).trans (List.perm_append_comm (l₁ := [n]))
/-- The times of the symbols, and how many have come. -/
structure SB where
  a : Nat → Nat
  b : Nat → Nat
  t : Nat
def SB.sm (s : SB) (x : Nat) : Nat := s.a x + s.b x
def SB.up (s : SB) (x : Nat) : SB := ⟨fun y => if y = x then s.t + 1 else s.a y, fun y => if y = x then s.a x else s.b y, s.t + 1⟩
def sb0 : SB := ⟨fun _ => 0, fun _ => 0, 0⟩
def sbrF (n : Nat) (s : SB) (x : Nat) : Nat × SB := ((byL s.sm n).idxOf x, s.up x)
def usbF (n : Nat) (s : SB) (k : Nat) : Nat × SB := ((byL s.sm n).getD k 0, s.up ((byL s.sm n).getD k 0))
/-- No time is later than now. -/
def SB.ok (s : SB) : Prop := ∀ x, s.a x ≤ s.t ∧ s.b x ≤ s.t
theorem sb0_ok : sb0.ok := fun _ => ⟨Nat.le_refl _, Nat.le_refl _⟩
theorem SB.ok.up {s : SB} (h : s.ok) (x : Nat) : (s.up x).ok := fun y => by
  have := h y
  have := h x
  show (if y = x then s.t + 1 else s.a y) ≤ s.t + 1 ∧ (if y = x then s.a x else s.b y) ≤ s.t + 1
  split <;> omega
theorem sm_up (s : SB) (x y : Nat) : (s.up x).sm y = if y = x then s.t + 1 + s.a x else s.sm y := by
  show (if y = x then s.t + 1 else s.a y) + (if y = x then s.a x else s.b y) = _
  split <;> rfl
theorem sm_range0 : byL sb0.sm = byL fun _ => 0 := rfl
theorem by_zero (n : Nat) : ByS (fun _ => 0) n (List.range n) := ⟨PermN.start n, by
  refine List.pairwise_lt_range.imp ?_
  intro a b h
  exact .inr ⟨rfl, h⟩⟩
/-- An insertion that stands behind all that are ahead of x, ahead of all that are behind it, is the order by the new sums. -/
theorem by_move {s : SB} {n x : Nat} {P Q : List Nat} (h : ByS s.sm n (P ++ x :: Q)) (hok : s.ok) (p : Nat) (hp : p ≤ P.length) (h1 : ∀ y ∈ P.drop p, bfS (s.up x).sm x y) (h2 : ∀ y ∈ P.take p, bfS (s.up x).sm y x) :
    ByS (s.up x).sm n (P.take p ++ x :: (P.drop p ++ Q)) := by
  obtain ⟨hP, hS⟩ := h
  have hnd := hP.nodup
  have hd := (List.perm_middle (a := x) (l₁ := P) (l₂ := Q)).nodup_iff.1 hnd
  have hxn : x ∉ P ++ Q := (List.nodup_cons.1 hd).1
  obtain ⟨a, b, c⟩ := List.pairwise_append.1 hS
  obtain ⟨b1, b2⟩ := List.pairwise_cons.1 b
  have hgrow : s.sm x < (s.up x).sm x := by
    rw [sm_up, if_pos rfl]
    have := hok x
    show s.a x + s.b x < _
    omega
  have same : ∀ y ∈ P ++ Q, (s.up x).sm y = s.sm y := fun y hy => by
    rw [sm_up, if_neg]
    intro e
    rw [e] at hy
    exact hxn hy
  have hPQ : (P ++ Q).Pairwise (bfS (s.up x).sm) := by
    have : (P ++ Q).Pairwise (bfS s.sm) := List.pairwise_append.2 ⟨a, b2, fun y hy z hz => c y hy z (List.mem_cons_of_mem _ hz)⟩
    refine List.Pairwise.imp_of_mem ?_ this
    intro y z hy hz hb
    unfold bfS at hb ⊢
    rw [same y hy, same z hz]
    exact hb
  refine ⟨?_, ?_⟩
  · refine List.Perm.trans ?_ hP
    refine (List.perm_middle).trans (List.Perm.trans ?_ List.perm_middle.symm)
    rw [← List.append_assoc, List.take_append_drop]
  · refine ins_pair (by rw [← List.append_assoc, List.take_append_drop]; exact hPQ) h2 ?_
    intro y hy
    rcases List.mem_append.1 hy with hy | hy
    · exact h1 y hy
    · have := b1 y hy
      unfold bfS at this ⊢
      rw [same y (List.mem_append_right _ hy)]
      omega
def sbrZ (z : List Int) (n : Int) : List Int := if rOk z n = true then ints (runF (sbrF n.toNat) sb0 (z.map Int.toNat)) else []
def usbZ (z : List Int) (n : Int) : List Int := if rOk z n = true then ints (runF (usbF n.toNat) sb0 (z.map Int.toNat)) else []
theorem sbrZ_yes {L : List Nat} {m : Nat} (h : rOk (ints L) m = true) : sbrZ (ints L) m = ints (runF (sbrF m) sb0 L) := by unfold sbrZ; rw [if_pos h, ints_toNat]; rfl
theorem usbZ_yes {L : List Nat} {m : Nat} (h : rOk (ints L) m = true) : usbZ (ints L) m = ints (runF (usbF m) sb0 L) := by unfold usbZ; rw [if_pos h, ints_toNat]; rfl
theorem sbrZ_no {z : List Int} {n : Int} (h : rOk z n = false) : sbrZ z n = [] := by unfold sbrZ; rw [h]; rfl
theorem usbZ_no {z : List Int} {n : Int} (h : rOk z n = false) : usbZ z n = [] := by unfold usbZ; rw [h]; rfl
theorem sbr_lt {n : Nat} {L : List Nat} (hL : ∀ x ∈ L, x < n) : ∀ y ∈ runF (sbrF n) sb0 L, y < n :=
  runF_all (fun _ => True) (· < n) (· < n) (fun s x _ hx => ⟨(byL_by s.sm n).1.idx hx, trivial⟩) L _ trivial hL
theorem usb_lt {n : Nat} {L : List Nat} (hL : ∀ x ∈ L, x < n) : ∀ y ∈ runF (usbF n) sb0 L, y < n :=
  runF_all (fun _ => True) (· < n) (· < n) (fun s x _ hx => ⟨(byL_by s.sm n).1.at hx, trivial⟩) L _ trivial hL
/-- A row with a hole at p, whose other places hold S. -/
def Sh (X S : List Nat) (p : Nat) : Prop := X.length = S.length + 1 ∧ X.take p = S.take p ∧ X.drop (p + 1) = S.drop p
theorem Sh.start (S : List Nat) (x : Nat) : Sh (S ++ [x]) S S.length := ⟨by simp, by simp, by simp⟩
theorem Sh.mid (P Q : List Nat) (x : Nat) : Sh (P ++ x :: Q) (P ++ Q) P.length := ⟨by simp; omega, by simp, by simp [List.drop_append]⟩
theorem getD_take (L : List Nat) (p q : Nat) (h : q < p) : (L.take p).getD q 0 = L.getD q 0 := by simp [List.getD_eq_getElem?_getD, List.getElem?_take, h]
theorem Sh.get {X S : List Nat} {q : Nat} (h : Sh X S (q + 1)) : X.getD q 0 = S.getD q 0 := by
  have := congrArg (fun (l : List Nat) => l.getD q 0) h.2.1
  rwa [getD_take _ _ _ (by omega), getD_take _ _ _ (by omega)] at this
theorem Sh.step {X S : List Nat} {q : Nat} (h : Sh X S (q + 1)) (hq : q < S.length) : Sh (X.set (q + 1) (S.getD q 0)) S q := by
  obtain ⟨h1, h2, h3⟩ := h
  refine ⟨by rw [List.length_set, h1], ?_, ?_⟩
  · have := congrArg (List.take q) h2
    rw [List.take_take, List.take_take, Nat.min_eq_left (by omega)] at this
    rw [List.take_set_of_le (by omega)]
    exact this
  · have e : (X.set (q + 1) (S.getD q 0)).drop (q + 1) = S.getD q 0 :: X.drop (q + 1 + 1) := by
      rw [List.drop_eq_getElem_cons (by rw [List.length_set]; omega)]
      congr 1
      · simp
      · rw [List.drop_set]; simp
    rw [e, h3, ← drop_cons S q hq]
theorem Sh.put {X S : List Nat} {p : Nat} (h : Sh X S p) (hp : p ≤ S.length) (x : Nat) : X.set p x = S.take p ++ x :: S.drop p := by
  obtain ⟨h1, h2, h3⟩ := h
  rw [List.set_eq_take_append_cons_drop, if_pos (by omega), h2, h3]
theorem not_take {f : Nat → Nat} {S : List Nat} {x q : Nat} (hS : S.Pairwise (bfS f)) (hq : q < S.length) (h : ¬ bfS f x (S.getD q 0)) : ∀ y ∈ S.take (q + 1), ¬ bfS f x y := by
  intro y hy hb
  obtain ⟨j, hj, rfl⟩ := List.getElem_of_mem hy
  rw [List.length_take] at hj
  rw [List.getElem_take] at hb
  have e : S.getD q 0 = S[q] := by simp [List.getD_eq_getElem?_getD, hq]
  rw [e] at h
  by_cases hjq : j = q
  · subst hjq; exact h hb
  · exact h (bfS_trans f hb (List.pairwise_iff_getElem.1 hS j q (by omega) hq (by omega)))
/-- One number more, put where the sums say. -/
theorem byL_put {f : Nat → Nat} {i p : Nat} (h1 : ∀ y ∈ (byL f i).drop p, bfS f i y) (h2 : ∀ y ∈ (byL f i).take p, bfS f y i) : (byL f i).take p ++ i :: (byL f i).drop p = byL f (i + 1) := by
  refine byS_unique (f := f) (n := i + 1) ⟨?_, ins_pair (by rw [List.take_append_drop]; exact (byL_by f i).2) h2 h1⟩ (byL_by f (i + 1))
  show List.Perm _ (List.range (i + 1))
  rw [List.range_succ]
  refine List.perm_middle.trans ?_
  rw [List.take_append_drop]
  exact ((byL_by f i).1.cons i).trans (List.perm_append_comm (l₁ := [i]))
theorem byL_len (f : Nat → Nat) (n : Nat) : (byL f n).length = n := (byL_by f n).1.len
end Go.Proofs.Yteaohgipndmciaa
