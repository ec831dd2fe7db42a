/- Chapter 9, plain: the runs of a list, one by one (as the program goes). -/
import Derived.Test.YtpdicijoohahaaaZr2
namespace Go.Proofs.Ytpdicijoohahaaa
set_option linter.unusedVariables false
set_option linter.unusedSimpArgs false

/-- With how many elements below b it begins. -/
def frZ (b : Int) : List Int → Nat
  | [] => 0
  | x :: l => if x < b then frZ b l + 1 else 0
theorem frZ_le (b : Int) : ∀ l, frZ b l ≤ l.length
  | [] => Nat.le_refl _
  | x :: l => by
    unfold frZ
    have := frZ_le b l
    split
    · simp only [List.length_cons]; omega
    · omega
theorem frZ_in (b : Int) : ∀ (l : List Int), ∀ x ∈ l.take (frZ b l), x < b
  | [], x, h => by simp at h
  | y :: l, x, h => by
    unfold frZ at h
    by_cases hy : y < b
    · rw [if_pos hy, List.take_succ_cons] at h
      rcases List.mem_cons.1 h with rfl | h
      · exact hy
      · exact frZ_in b l x h
    · rw [if_neg hy] at h; simp at h
theorem frZ_out (b : Int) : ∀ (l : List Int) (y : Int) (r : List Int), l.drop (frZ b l) = y :: r → b ≤ y
  | [], y, r, h => by simp [frZ] at h
  | x :: l, y, r, h => by
    unfold frZ at h
    by_cases hx : x < b
    · rw [if_pos hx, List.drop_succ_cons] at h
      exact frZ_out b l y r h
    · rw [if_neg hx, List.drop_zero] at h
      injection h with h _
      omega
/-- The runs from place s on: where each begins, how long it is. -/
def chG (b : Int) (z : List Int) : Nat → Nat → List (Nat × Nat)
  | 0, _ => []
  | f + 1, s => if s < z.length then (s, max 1 (frZ b (z.drop s))) :: chG b z f (s + max 1 (frZ b (z.drop s))) else []
def chR (b : Int) (z : List Int) (s : Nat) : List (Nat × Nat) := chG b z (z.length - s) s
theorem chG_more (b : Int) (z : List Int) : ∀ (f g s : Nat), z.length - s ≤ f → z.length - s ≤ g → chG b z f s = chG b z g s
  | 0, 0, _, _, _ => rfl
  | 0, g + 1, s, h, _ => by rw [chG, chG, if_neg (by omega)]
  | f + 1, 0, s, _, h => by rw [chG, chG, if_neg (by omega)]
  | f + 1, g + 1, s, h1, h2 => by
    rw [chG, chG]
    by_cases h : s < z.length
    · rw [if_pos h, if_pos h, chG_more b z f g _ (by omega) (by omega)]
    · rw [if_neg h, if_neg h]
theorem chR_end {b : Int} {z : List Int} {s : Nat} (h : z.length ≤ s) : chR b z s = [] := by
  unfold chR
  rw [show z.length - s = 0 by omega, chG]
theorem chR_step {b : Int} {z : List Int} {s : Nat} (h : s < z.length) : chR b z s = (s, max 1 (frZ b (z.drop s))) :: chR b z (s + max 1 (frZ b (z.drop s))) := by
  unfold chR
  obtain ⟨f, hf⟩ : ∃ f, z.length - s = f + 1 := ⟨z.length - s - 1, by omega⟩
  rw [hf, chG, if_pos h, chG_more b z f (z.length - (s + max 1 (frZ b (z.drop s)))) _ (by omega) (by omega)]
theorem chR_fit {b : Int} {z : List Int} {s : Nat} (h : s < z.length) : s + max 1 (frZ b (z.drop s)) ≤ z.length := by
  have := frZ_le b (z.drop s)
  rw [List.length_drop] at this
  omega

/-- What a run of numbers packs to. -/
def pkC (z : List Int) (p : Nat × Nat) : List Nat := if 0 < z.getD p.1 0 then [(z.getD p.1 0).toNat + 1] else rsF p.2
theorem zeros_split : ∀ (L : List Nat), L = List.replicate (frZ 1 (ints L)) 0 ++ L.drop (frZ 1 (ints L)) ∧ (∀ y r, L.drop (frZ 1 (ints L)) = y :: r → 0 < y)
  | [] => by simp [ints, frZ]
  | x :: l => by
    have hs : ints (x :: l) = (x : Int) :: ints l := rfl
    rw [hs]
    unfold frZ
    by_cases hx : (x : Int) < 1
    · rw [if_pos hx]
      have hx0 : x = 0 := by omega
      subst hx0
      obtain ⟨h1, h2⟩ := zeros_split l
      refine ⟨?_, ?_⟩
      · rw [List.replicate_succ, List.cons_append, List.drop_succ_cons, ← h1]
      · rw [List.drop_succ_cons]; exact h2
    · rw [if_neg hx]
      refine ⟨by simp, fun y r h => ?_⟩
      rw [List.drop_zero] at h
      injection h with h _
      omega
theorem ints_drop (L : List Nat) (s : Nat) : (ints L).drop s = ints (L.drop s) := by unfold ints; rw [List.map_drop]
theorem pack_chunks (L : List Nat) : ∀ (k s : Nat), L.length - s ≤ k → (chR 1 (ints L) s).flatMap (pkC (ints L)) = packF 0 (L.drop s)
  | 0, s, h => by
    rw [chR_end (by rw [ints_len]; omega), List.drop_eq_nil_of_le (by omega), packF_nil]; rfl
  | k + 1, s, h => by
    by_cases hs : s < L.length
    · rw [chR_step (by rw [ints_len]; exact hs), List.flatMap_cons]
      have hd := drop_cons L s hs
      have hpos : s + max 1 (frZ 1 ((ints L).drop s)) ≤ L.length := by have := chR_fit (b := 1) (z := ints L) (s := s) (by rw [ints_len]; exact hs); rwa [ints_len] at this
      rw [pack_chunks L k _ (by omega)]
      unfold pkC
      simp only
      rw [ints_get, ints_drop]
      rw [ints_drop] at hpos
      obtain ⟨x, hx⟩ : ∃ x, L.getD s 0 = x := ⟨_, rfl⟩
      rw [hx] at hd ⊢
      by_cases h0 : 0 < x
      · have hfr : frZ 1 (ints (L.drop s)) = 0 := by
          rw [hd]
          show frZ 1 ((x : Int) :: ints (L.drop (s + 1))) = 0
          unfold frZ
          rw [if_neg (by omega)]
        rw [hfr, if_pos (by omega), hd, packF_pos 0 h0, rsF_zero]
        simp
      · have hx0 : x = 0 := by omega
        subst hx0
        obtain ⟨h1, h2⟩ := zeros_split (L.drop s)
        have hfr : 1 ≤ frZ 1 (ints (L.drop s)) := by
          rw [hd]
          show 1 ≤ frZ 1 ((0 : Int) :: ints (L.drop (s + 1)))
          unfold frZ
          rw [if_pos (by omega)]
          omega
        rw [if_neg (by omega)]
        obtain ⟨e, he⟩ : ∃ e, frZ 1 (ints (L.drop s)) = e := ⟨_, rfl⟩
        rw [he] at h1 h2 hfr ⊢
        rw [show max 1 e = e by omega]
        rw [List.drop_drop] at h1 h2
        conv => rhs; rw [h1, packF_reps, Nat.zero_add]
        cases hR : L.drop (s + e) with
        | nil => rw [packF_nil, packF_nil, rsF_zero, List.append_nil]
        | cons y r =>
          have hy := h2 y r hR
          rw [packF_pos 0 hy, packF_pos e hy, rsF_zero, List.nil_append]
    · rw [chR_end (by rw [ints_len]; omega), List.drop_eq_nil_of_le (by omega), packF_nil]; rfl

/-- What a run of symbols unpacks to; none where it is no such. -/
def upC (n : Int) (z : List Int) (p : Nat × Nat) : Option (List Nat) :=
  if 0 < rlZ ((z.drop p.1).take p.2) then some (List.replicate (rlZ ((z.drop p.1).take p.2)).toNat 0)
  else if 2 ≤ z.getD p.1 0 ∧ z.getD p.1 0 ≤ n then some [(z.getD p.1 0 - 1).toNat] else none
def upS (n : Int) (z : List Int) : List (Nat × Nat) → Option (List Nat)
  | [] => some []
  | p :: ps => (upC n z p).bind fun a => (upS n z ps).map (a ++ ·)
theorem upS_append (n : Int) (z : List Int) : ∀ (ps qs : List (Nat × Nat)), upS n z (ps ++ qs) = (upS n z ps).bind fun a => (upS n z qs).map (a ++ ·)
  | [], qs => by
    rw [List.nil_append, upS, Option.bind_some]
    cases upS n z qs <;> simp
  | p :: ps, qs => by
    rw [List.cons_append, upS, upS, upS_append n z ps qs]
    cases upC n z p with
    | none => rfl
    | some a =>
      cases upS n z ps with
      | none => rfl
      | some b =>
        simp only [Option.bind_some, Option.map_some]
        cases upS n z qs <;> simp
theorem upS_snoc (n : Int) (z : List Int) (ps : List (Nat × Nat)) (p : Nat × Nat) : upS n z (ps ++ [p]) = (upS n z ps).bind fun a => (upC n z p).map (a ++ ·) := by
  rw [upS_append]
  have : upS n z [p] = upC n z p := by
    unfold upS upS
    cases upC n z p <;> simp
  rw [this]
theorem unF_more {n : Int} {d : List Int} {a : List Nat} {y : Int} (R : List Int) (hy : ¬ (y = 0 ∨ y = 1)) (ha : zerF d = some a) : unF n d (y :: R) = (unF n [] (y :: R)).map (a ++ ·) := by
  by_cases hn : 2 ≤ y ∧ y ≤ n
  · rw [unF_yes R hn ha, unF_yes R hn zerF_nil]
    cases unF n [] R <;> simp
  · rw [unF_no R hy hn, unF_no R hy hn]; rfl
theorem unF_neg {n : Int} : ∀ (c d R : List Int), (∀ x ∈ c, x < 2) → (¬ ∀ x ∈ c, x = 0 ∨ x = 1) → unF n d (c ++ R) = none
  | [], d, R, _, h => absurd (fun x hx => by cases hx) h
  | x :: c, d, R, h, h2 => by
    rw [List.cons_append]
    by_cases hx : x = 0 ∨ x = 1
    · rw [unF_digit _ hx]
      refine unF_neg c _ R (fun y hy => h y (List.mem_cons_of_mem _ hy)) (fun h3 => h2 (fun y hy => ?_))
      rcases List.mem_cons.1 hy with rfl | hy
      · exact hx
      · exact h3 y hy
    · have := h x (List.mem_cons_self ..)
      exact unF_no _ hx (by omega)
theorem un_chunks (n : Int) (z : List Int) : ∀ (k s : Nat), z.length - s ≤ k → unF n [] (z.drop s) = upS n z (chR 2 z s)
  | 0, s, h => by rw [chR_end (by omega), List.drop_eq_nil_of_le (by omega), unF, zerF_nil, upS]
  | k + 1, s, h => by
    by_cases hs : s < z.length
    · rw [chR_step hs, upS]
      have hd := dropZ_cons z s hs
      have hfit := chR_fit (b := 2) hs
      rw [← un_chunks n z k (s + max 1 (frZ 2 (z.drop s))) (by omega)]
      obtain ⟨x, hx⟩ : ∃ x, z.getD s 0 = x := ⟨_, rfl⟩
      unfold upC
      simp only
      rw [hx]
      rw [hx] at hd
      by_cases h2 : 2 ≤ x
      · have hfr : frZ 2 (z.drop s) = 0 := by rw [hd]; unfold frZ; rw [if_neg (by omega)]
        rw [hfr]
        have hc : (z.drop s).take (max 1 0) = [x] := by rw [hd]; rfl
        have hrl : rlZ [x] = -1 := rlZ_no (fun h3 => by have := ((rlOk_iff [x]).1 h3).2.1 x (by simp); omega)
        rw [hc, hrl, if_neg (by omega), hd]
        by_cases hn : x ≤ n
        · rw [if_pos ⟨h2, hn⟩, unF_yes _ ⟨h2, hn⟩ zerF_nil]
          simp only [Option.bind_some]
          rfl
        · rw [if_neg (by omega), unF_no _ (by omega) (by omega)]; rfl
      · have hfr : 1 ≤ frZ 2 (z.drop s) := by rw [hd]; unfold frZ; rw [if_pos (by omega)]; omega
        obtain ⟨e, he⟩ : ∃ e, frZ 2 (z.drop s) = e := ⟨_, rfl⟩
        have hin := frZ_in 2 (z.drop s)
        have hout := frZ_out 2 (z.drop s)
        rw [he] at hfr hin hout hfit ⊢
        rw [show max 1 e = e by omega]
        have hsp : z.drop s = (z.drop s).take e ++ z.drop (s + e) := by rw [← List.drop_drop, List.take_append_drop]
        rw [List.drop_drop] at hout
        obtain ⟨c, hc⟩ : ∃ c, (z.drop s).take e = c := ⟨_, rfl⟩
        rw [hc] at hin hsp ⊢
        have hne : c ≠ [] := by
          rw [← hc, hd]
          obtain ⟨q, rfl⟩ : ∃ q, e = q + 1 := ⟨e - 1, by omega⟩
          simp
        rw [hsp, if_neg (show ¬ (2 ≤ x ∧ x ≤ n) by omega)]
        by_cases hdg : ∀ y ∈ c, y = 0 ∨ y = 1
        · rw [unF_digits c [] _ hdg, List.nil_append]
          have hz := zerF_cons hne
          cases hR : z.drop (s + e) with
          | nil =>
            rw [unF, unF, hz, zerF_nil]
            split
            · simp
            · rfl
          | cons y R =>
            have hy := hout y R hR
            by_cases hp : 0 < rlZ c
            · rw [if_pos hp] at hz ⊢
              rw [unF_more R (by omega) hz]; rfl
            · rw [if_neg hp] at hz ⊢
              rw [unF_bad R (by omega) hz]; rfl
        · rw [unF_neg c [] _ hin hdg]
          have hrl : rlZ c = -1 := rlZ_no (fun h3 => hdg ((rlOk_iff c).1 h3).2.1)
          rw [hrl, if_neg (by omega)]
          rfl
    · rw [chR_end (by omega), List.drop_eq_nil_of_le (by omega), unF, zerF_nil, upS]
/-- A part of the runs that is bad: so is the whole. -/
theorem up_prefix_none {n most : Int} {z : List Int} {pre : List (Nat × Nat)} (hp : pre <+: chR 2 z.dropLast 0) (h : upS n z.dropLast pre = none) : upA z n most = none := by
  obtain ⟨q, hq⟩ := hp
  refine upA_none ?_
  have := un_chunks n z.dropLast z.dropLast.length 0 (by omega)
  rw [List.drop_zero] at this
  rw [this, ← hq, upS_append, h]; rfl
theorem up_prefix_long {n most : Int} {z : List Int} {pre : List (Nat × Nat)} {a : List Nat} (hp : pre <+: chR 2 z.dropLast 0) (h : upS n z.dropLast pre = some a) (h2 : ¬ ((a.length : Int) ≤ most ∧ a.length ≤ 600)) : upA z n most = none := by
  obtain ⟨q, hq⟩ := hp
  have := un_chunks n z.dropLast z.dropLast.length 0 (by omega)
  rw [List.drop_zero, ← hq, upS_append, h, Option.bind_some] at this
  cases hr : upS n z.dropLast q with
  | none => rw [hr] at this; exact upA_none this
  | some r =>
    rw [hr] at this
    refine upA_long (y := a ++ r) this ?_
    rw [List.length_append]
    omega
theorem up_done {n most : Int} {z : List Int} {a : List Nat} (h0 : 1 ≤ n ∧ n ≤ 256 ∧ z ≠ [] ∧ z.getD (z.length - 1) 0 = n + 1) (h : upS n z.dropLast (chR 2 z.dropLast 0) = some a) (h2 : (a.length : Int) ≤ most ∧ a.length ≤ 600) : upA z n most = some a := by
  have := un_chunks n z.dropLast z.dropLast.length 0 (by omega)
  rw [List.drop_zero, h] at this
  exact upA_yes h0 this h2
end Go.Proofs.Ytpdicijoohahaaa
