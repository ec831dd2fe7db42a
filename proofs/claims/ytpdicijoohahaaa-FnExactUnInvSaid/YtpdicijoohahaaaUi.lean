/- Chapter 8, plain: a list from its inversion frequencies. -/
import Derived.Test.YtpdicijoohahaaaIvp
namespace Go.Proofs.Ytpdicijoohahaaa
set_option linter.unusedVariables false
set_option linter.unusedSimpArgs false

/-- The sum of counts from n on; none where one is below 0 or the sum goes beyond 600. -/
def totF : List Int → Nat → Option Nat
  | [], n => some n
  | x :: l, n => if x < 0 ∨ 600 - (n : Int) < x then none else totF l (n + x.toNat)
def totI (o : Option Nat) : Int := match o with | some n => (n : Int) | none => -1
theorem totF_drop (z : List Int) (k n : Nat) (hk : k < z.length) : totF (z.drop k) n = if z.getD k 0 < 0 ∨ 600 - (n : Int) < z.getD k 0 then none else totF (z.drop (k + 1)) (n + (z.getD k 0).toNat) := by
  rw [List.drop_eq_getElem_cons hk]
  have : z.getD k 0 = z[k] := by simp [List.getD_eq_getElem?_getD, hk]
  rw [this]
  rfl
/-- Are these counts those of a list over n symbols, with g gaps? -/
def szOk (z : List Int) (g : Nat) (n : Int) : Bool :=
  decide (1 ≤ n ∧ n ≤ 256 ∧ (z.length : Int) = n ∧ 0 ≤ totI (totF z 0) ∧ (g : Int) = totI (totF z 0) - z.getD (z.length - 1) 0)
theorem szOk_iff (z : List Int) (g : Nat) (n : Int) : szOk z g n = true ↔ 1 ≤ n ∧ n ≤ 256 ∧ (z.length : Int) = n ∧ 0 ≤ totI (totF z 0) ∧ (g : Int) = totI (totF z 0) - z.getD (z.length - 1) 0 := by simp [szOk]
theorem totF_some {z : List Int} : ∀ {n t : Nat}, totF z n = some t → ∀ x ∈ z, 0 ≤ x ∧ x ≤ 600 := by
  induction z with
  | nil => intro n t _ x hx; cases hx
  | cons y l ih =>
    intro n t h x hx
    unfold totF at h
    by_cases hc : y < 0 ∨ 600 - (n : Int) < y
    · rw [if_pos hc] at h; cases h
    · rw [if_neg hc] at h
      rcases List.mem_cons.1 hx with rfl | hx
      · omega
      · exact ih h x hx
theorem totF_sum {z : List Int} : ∀ {n t : Nat}, n ≤ 600 → totF z n = some t → t = n + (z.map Int.toNat).sum ∧ t ≤ 600 ∧ z = ints (z.map Int.toNat) := by
  induction z with
  | nil => intro n t hn h; simp [totF] at h; subst h; exact ⟨by simp, hn, rfl⟩
  | cons y l ih =>
    intro n t hn h
    unfold totF at h
    by_cases hc : y < 0 ∨ 600 - (n : Int) < y
    · rw [if_pos hc] at h; cases h
    · rw [if_neg hc] at h
      obtain ⟨h1, h2, h3⟩ := ih (by omega) h
      refine ⟨by simp only [List.map_cons, List.sum_cons]; omega, h2, ?_⟩
      simp only [List.map_cons]
      unfold ints at h3 ⊢
      rw [List.map_cons, ← h3]
      congr 1
      omega
theorem totF_of : ∀ (L : List Nat) (n : Nat), n + L.sum ≤ 600 → totF (ints L) n = some (n + L.sum)
  | [], n, _ => by simp [ints, totF]
  | x :: l, n, h => by
    simp only [List.sum_cons] at h
    show totF ((x : Int) :: ints l) n = _
    unfold totF
    rw [if_neg (by omega), Int.toNat_natCast, totF_of l (n + x) (by omega)]
    simp only [List.sum_cons, Nat.add_assoc]

/-- x's put into l by their gaps. -/
def insF (x : Nat) : List Nat → List Int → Option (List Nat)
  | l, [] => some l
  | l, g :: gs => if 0 ≤ g ∧ g ≤ (l.length : Int) then (insF x (l.drop g.toNat) gs).map (fun r => l.take g.toNat ++ x :: r) else none
theorem insF_no {x : Nat} {l : List Nat} {g : Int} (gs : List Int) (h : ¬ (0 ≤ g ∧ g ≤ (l.length : Int))) : insF x l (g :: gs) = none := by rw [insF, if_neg h]
theorem insF_yes {x : Nat} {l : List Nat} {g : Nat} (gs : List Int) (h : g ≤ l.length) : insF x l ((g : Int) :: gs) = (insF x (l.drop g) gs).map (fun r => l.take g ++ x :: r) := by
  rw [insF, if_pos (by omega), Int.toNat_natCast]
theorem insF_iff (x : Nat) : ∀ (gs : List Int) (l : List Nat), (∃ r, insF x l gs = some r) ↔ (∀ g ∈ gs, 0 ≤ g) ∧ gs.sum ≤ (l.length : Int)
  | [], l => by simp [insF]
  | g :: gs, l => by
    by_cases h : 0 ≤ g ∧ g ≤ (l.length : Int)
    · obtain ⟨q, rfl⟩ : ∃ q : Nat, g = q := ⟨g.toNat, by omega⟩
      have ih := insF_iff x gs (l.drop q)
      rw [List.length_drop] at ih
      rw [insF_yes gs (by omega)]
      constructor
      · rintro ⟨r, hr⟩
        cases hu : insF x (l.drop q) gs with
        | none => rw [hu] at hr; cases hr
        | some v =>
          obtain ⟨h1, h2⟩ := ih.1 ⟨v, hu⟩
          refine ⟨fun y hy => ?_, by simp only [List.sum_cons]; omega⟩
          rcases List.mem_cons.1 hy with rfl | hy
          · omega
          · exact h1 y hy
      · rintro ⟨h1, h2⟩
        simp only [List.sum_cons] at h2
        obtain ⟨v, hv⟩ := ih.2 ⟨fun y hy => h1 y (List.mem_cons_of_mem _ hy), by omega⟩
        rw [hv]
        exact ⟨_, rfl⟩
    · rw [insF_no gs h]
      constructor
      · rintro ⟨r, hr⟩; cases hr
      · rintro ⟨h1, h2⟩
        have h3 := h1 g (List.mem_cons_self ..)
        have h4 : 0 ≤ gs.sum := by
          have : ∀ (l : List Int), (∀ y ∈ l, 0 ≤ y) → 0 ≤ l.sum := by
            intro l
            induction l with
            | nil => intro _; simp
            | cons a l ih => intro hl; have := hl a (List.mem_cons_self ..); have := ih (fun y hy => hl y (List.mem_cons_of_mem _ hy)); simp only [List.sum_cons]; omega
          exact this gs (fun y hy => h1 y (List.mem_cons_of_mem _ hy))
        simp only [List.sum_cons] at h2
        omega
theorem insF_len {x : Nat} : ∀ {gs : List Int} {l r : List Nat}, insF x l gs = some r → r.length = l.length + gs.length
  | [], l, r, h => by rw [insF] at h; obtain rfl := Option.some.inj h; simp
  | g :: gs, l, r, h => by
    by_cases hg : 0 ≤ g ∧ g ≤ (l.length : Int)
    · obtain ⟨q, rfl⟩ : ∃ q : Nat, g = q := ⟨g.toNat, by omega⟩
      rw [insF_yes gs (by omega)] at h
      cases hu : insF x (l.drop q) gs with
      | none => rw [hu] at h; cases h
      | some v =>
        rw [hu] at h
        obtain rfl := (Option.some.inj h).symm
        have := insF_len hu
        rw [List.length_drop] at this
        simp only [List.length_append, List.length_take, List.length_cons]
        omega
    · rw [insF_no gs hg] at h; cases h

/-- The lists of the symbols from x on: cs are their counts, gs their gaps (of the last one none). -/
def decR : Nat → List Nat → List Int → Option (List Nat)
  | _, [], _ => some []
  | x, [c], _ => some (List.replicate c x)
  | x, c :: c' :: cs, gs => (decR (x + 1) (c' :: cs) (gs.drop c)).bind (fun L => insF x L (gs.take c))
theorem decR_one (x c : Nat) (gs : List Int) : decR x [c] gs = some (List.replicate c x) := by rw [decR]
theorem decR_more (x c : Nat) {cs : List Nat} (gs : List Int) (h : cs ≠ []) : decR x (c :: cs) gs = (decR (x + 1) cs (gs.drop c)).bind (fun L => insF x L (gs.take c)) := by
  cases cs with
  | nil => exact absurd rfl h
  | cons c' cs => rw [decR]
theorem mem_le_sum8 : ∀ (l : List Nat) (a : Nat), a ∈ l → a ≤ l.sum
  | [], a, h => by cases h
  | b :: l, a, h => by
    rw [List.sum_cons]
    rcases List.mem_cons.1 h with rfl | h
    · omega
    · have := mem_le_sum8 l a h; omega
/-- How many gaps there are ahead of the k-th symbol's. -/
def off8 (cs : List Nat) (k : Nat) : Nat := (cs.take k).sum
theorem off8_succ (cs : List Nat) (k : Nat) (h : k < cs.length) : off8 cs (k + 1) = off8 cs k + cs.getD k 0 := by
  unfold off8
  rw [List.take_succ_eq_append_getElem h, List.sum_append]
  simp [List.getD_eq_getElem?_getD, h]
/-- The list of the symbols from the k-th on. -/
def dk (cs : List Nat) (gs : List Int) (k : Nat) : Option (List Nat) := decR k (cs.drop k) (gs.drop (off8 cs k))
theorem dk_zero (cs : List Nat) (gs : List Int) : dk cs gs 0 = decR 0 cs gs := by unfold dk off8; simp
theorem dk_last (cs : List Nat) (gs : List Int) (h : 0 < cs.length) : dk cs gs (cs.length - 1) = some (List.replicate (cs.getD (cs.length - 1) 0) (cs.length - 1)) := by
  unfold dk
  rw [drop_cons cs (cs.length - 1) (by omega), List.drop_eq_nil_of_le (by omega), decR_one]
theorem dk_step (cs : List Nat) (gs : List Int) (k : Nat) (h : k + 1 < cs.length) : dk cs gs k = (dk cs gs (k + 1)).bind (fun L => insF k L ((gs.drop (off8 cs k)).take (cs.getD k 0))) := by
  unfold dk
  rw [drop_cons cs k (by omega), decR_more _ _ _ (by
    intro e
    have := congrArg List.length e
    rw [List.length_drop] at this
    simp at this; omega), List.drop_drop, off8_succ cs k (by omega)]
theorem dk_none (cs : List Nat) (gs : List Int) : ∀ (k : Nat), k < cs.length → dk cs gs k = none → dk cs gs 0 = none
  | 0, _, h => h
  | k + 1, hk, h => dk_none cs gs k (by omega) (by rw [dk_step cs gs k hk, h]; rfl)

/-- x's put at their places among those that are free (not below x). -/
def plc (x : Nat) : List Nat → List Int → Option (List Nat)
  | out, [] => some out
  | [], _ :: _ => none
  | o :: os, g :: gs => if o < x then (plc x os (g :: gs)).map (o :: ·) else if 0 < g then (plc x os ((g - 1) :: gs)).map (o :: ·) else if g = 0 then (plc x os gs).map (x :: ·) else none
theorem plc_nil (x : Nat) (out : List Nat) : plc x out [] = some out := by cases out <;> rw [plc]
theorem plc_end (x : Nat) (g : Int) (gs : List Int) : plc x [] (g :: gs) = none := by rw [plc]
theorem plc_pass {x o : Nat} (os : List Nat) (g : Int) (gs : List Int) (h : o < x) : plc x (o :: os) (g :: gs) = (plc x os (g :: gs)).map (o :: ·) := by rw [plc, if_pos h]
theorem plc_skip {x o : Nat} (os : List Nat) {g : Int} (gs : List Int) (h : x ≤ o) (hg : 0 < g) : plc x (o :: os) (g :: gs) = (plc x os ((g - 1) :: gs)).map (o :: ·) := by rw [plc, if_neg (by omega), if_pos hg]
theorem plc_here {x o : Nat} (os : List Nat) (gs : List Int) (h : x ≤ o) : plc x (o :: os) (0 :: gs) = (plc x os gs).map (x :: ·) := by rw [plc, if_neg (by omega), if_neg (by omega), if_pos rfl]
theorem plc_bad {x o : Nat} (os : List Nat) {g : Int} (gs : List Int) (h : x ≤ o) (hg : g < 0) : plc x (o :: os) (g :: gs) = none := by rw [plc, if_neg (by omega), if_neg (by omega), if_neg (by omega)]
/-- How many places are free. -/
def free8 (x : Nat) : List Nat → Nat
  | [] => 0
  | o :: os => (if o < x then 0 else 1) + free8 x os
theorem map_some_iff {α β : Type} (f : α → β) (o : Option α) : (∃ r, o.map f = some r) ↔ ∃ r, o = some r := by
  cases o <;> simp
theorem sum_nonneg8 : ∀ (l : List Int), (∀ y ∈ l, 0 ≤ y) → 0 ≤ l.sum
  | [], _ => by simp
  | a :: l, hl => by have := hl a (List.mem_cons_self ..); have := sum_nonneg8 l (fun y hy => hl y (List.mem_cons_of_mem _ hy)); simp only [List.sum_cons]; omega
theorem plc_iff (x : Nat) : ∀ (out : List Nat) (gs : List Int), (∃ r, plc x out gs = some r) ↔ (∀ g ∈ gs, 0 ≤ g) ∧ gs.sum + (gs.length : Int) ≤ (free8 x out : Int)
  | out, [] => by rw [plc_nil]; simp
  | [], g :: gs => by
    rw [plc_end]
    constructor
    · rintro ⟨r, hr⟩; cases hr
    · rintro ⟨h1, h2⟩
      have := sum_nonneg8 _ h1
      simp only [List.length_cons, free8] at h2
      omega
  | o :: os, g :: gs => by
    by_cases ho : o < x
    · rw [plc_pass _ _ _ ho, map_some_iff, plc_iff x os (g :: gs)]
      simp only [free8, if_pos ho, Nat.zero_add]
    · have hx : x ≤ o := by omega
      have hf : free8 x (o :: os) = 1 + free8 x os := by simp only [free8, if_neg ho]
      rcases Int.lt_trichotomy g 0 with hg | rfl | hg
      · rw [plc_bad _ _ hx hg]
        constructor
        · rintro ⟨r, hr⟩; cases hr
        · rintro ⟨h1, _⟩; have := h1 g (List.mem_cons_self ..); omega
      · rw [plc_here _ _ hx, map_some_iff, plc_iff x os gs, hf]
        simp only [List.mem_cons, forall_eq_or_imp, List.sum_cons, List.length_cons]
        constructor
        · rintro ⟨h1, h2⟩; exact ⟨⟨by omega, h1⟩, by omega⟩
        · rintro ⟨⟨_, h1⟩, h2⟩; exact ⟨h1, by omega⟩
      · rw [plc_skip _ _ hx hg, map_some_iff, plc_iff x os ((g - 1) :: gs), hf]
        simp only [List.mem_cons, forall_eq_or_imp, List.sum_cons, List.length_cons]
        constructor
        · rintro ⟨⟨_, h1⟩, h2⟩; exact ⟨⟨by omega, h1⟩, by omega⟩
        · rintro ⟨⟨_, h1⟩, h2⟩; exact ⟨⟨by omega, h1⟩, by omega⟩
theorem plc_out {x : Nat} : ∀ {out : List Nat} {gs : List Int} {r : List Nat}, plc x out gs = some r → (∀ o ∈ out, o < x ∨ x + 1 ≤ o) → r.length = out.length ∧ free8 (x + 1) r + gs.length = free8 x out ∧ ∀ o ∈ r, o ∈ out ∨ o = x
  | out, [], r, h, ha => by
    rw [plc_nil] at h
    obtain rfl := Option.some.inj h
    refine ⟨rfl, ?_, fun o ho => .inl ho⟩
    have : ∀ l : List Nat, (∀ o ∈ l, o < x ∨ x + 1 ≤ o) → free8 (x + 1) l = free8 x l := by
      intro l
      induction l with
      | nil => intro _; rfl
      | cons o l ih =>
        intro hl
        have h1 := hl o (List.mem_cons_self ..)
        rw [free8, free8, ih (fun q hq => hl q (List.mem_cons_of_mem _ hq))]
        congr 1
        by_cases h2 : o < x
        · rw [if_pos h2, if_pos (by omega)]
        · rw [if_neg h2, if_neg (by omega)]
    simpa using this out ha
  | [], g :: gs, r, h, _ => by rw [plc_end] at h; cases h
  | o :: os, g :: gs, r, h, ha => by
    have ha' : ∀ q ∈ os, q < x ∨ x + 1 ≤ q := fun q hq => ha q (List.mem_cons_of_mem _ hq)
    have h1 := ha o (List.mem_cons_self ..)
    by_cases ho : o < x
    · rw [plc_pass _ _ _ ho] at h
      cases hu : plc x os (g :: gs) with
      | none => rw [hu] at h; cases h
      | some v =>
        rw [hu] at h
        obtain rfl := (Option.some.inj h).symm
        obtain ⟨l1, l2, l3⟩ := plc_out hu ha'
        refine ⟨by simp [l1], ?_, fun q hq => ?_⟩
        · simp only [free8, if_pos ho, if_pos (show o < x + 1 by omega)]
          omega
        · rcases List.mem_cons.1 hq with rfl | hq
          · exact .inl (List.mem_cons_self ..)
          · rcases l3 q hq with e | e
            · exact .inl (List.mem_cons_of_mem _ e)
            · exact .inr e
    · have hx : x ≤ o := by omega
      rcases Int.lt_trichotomy g 0 with hg | rfl | hg
      · rw [plc_bad _ _ hx hg] at h; cases h
      · rw [plc_here _ _ hx] at h
        cases hu : plc x os gs with
        | none => rw [hu] at h; cases h
        | some v =>
          rw [hu] at h
          obtain rfl := (Option.some.inj h).symm
          obtain ⟨l1, l2, l3⟩ := plc_out hu ha'
          refine ⟨by simp [l1], ?_, fun q hq => ?_⟩
          · simp only [free8, if_neg ho, if_pos (show x < x + 1 by omega), List.length_cons]
            omega
          · rcases List.mem_cons.1 hq with rfl | hq
            · exact .inr rfl
            · rcases l3 q hq with e | e
              · exact .inl (List.mem_cons_of_mem _ e)
              · exact .inr e
      · rw [plc_skip _ _ hx hg] at h
        cases hu : plc x os ((g - 1) :: gs) with
        | none => rw [hu] at h; cases h
        | some v =>
          rw [hu] at h
          obtain rfl := (Option.some.inj h).symm
          obtain ⟨l1, l2, l3⟩ := plc_out hu ha'
          refine ⟨by simp [l1], ?_, fun q hq => ?_⟩
          · simp only [free8, if_neg ho, if_neg (show ¬ o < x + 1 by omega), List.length_cons] at l2 ⊢
            omega
          · rcases List.mem_cons.1 hq with rfl | hq
            · exact .inl (List.mem_cons_self ..)
            · rcases l3 q hq with e | e
              · exact .inl (List.mem_cons_of_mem _ e)
              · exact .inr e
/-- The free places filled. -/
def fill8 (x : Nat) : List Nat → List Nat → List Nat
  | [], _ => []
  | o :: os, [] => o :: fill8 x os []
  | o :: os, h :: t => if o < x then o :: fill8 x os (h :: t) else h :: fill8 x os t
theorem fill8_pass {x o : Nat} (os L : List Nat) (h : o < x) : fill8 x (o :: os) L = o :: fill8 x os L := by
  cases L with
  | nil => rw [fill8]
  | cons a t => rw [fill8, if_pos h]
theorem fill8_free {x o : Nat} (os : List Nat) (a : Nat) (t : List Nat) (h : ¬ o < x) : fill8 x (o :: os) (a :: t) = a :: fill8 x os t := by rw [fill8, if_neg h]
theorem fill8_succ {x : Nat} : ∀ (out L : List Nat), (∀ o ∈ out, o < x ∨ x + 1 ≤ o) → fill8 (x + 1) out L = fill8 x out L
  | [], _, _ => by rw [fill8, fill8]
  | o :: os, [], ha => by rw [fill8, fill8, fill8_succ os [] (fun q hq => ha q (List.mem_cons_of_mem _ hq))]
  | o :: os, a :: t, ha => by
    have h1 := ha o (List.mem_cons_self ..)
    have ha' : ∀ q ∈ os, q < x ∨ x + 1 ≤ q := fun q hq => ha q (List.mem_cons_of_mem _ hq)
    by_cases ho : o < x
    · rw [fill8_pass _ _ ho, fill8_pass _ _ (by omega), fill8_succ os _ ha']
    · rw [fill8_free _ _ _ ho, fill8_free _ _ _ (by omega), fill8_succ os _ ha']
theorem plc_fill {x : Nat} : ∀ {out : List Nat} {gs : List Int} {L r R : List Nat}, plc x out gs = some r → insF x L gs = some R → (∀ o ∈ out, o < x ∨ x + 1 ≤ o) → fill8 (x + 1) r L = fill8 x out R
  | out, [], L, r, R, h, hi, ha => by
    rw [plc_nil] at h
    rw [insF] at hi
    obtain rfl := Option.some.inj h
    obtain rfl := Option.some.inj hi
    exact fill8_succ _ _ ha
  | [], g :: gs, L, r, R, h, _, _ => by rw [plc_end] at h; cases h
  | o :: os, g :: gs, L, r, R, h, hi, ha => by
    have ha' : ∀ q ∈ os, q < x ∨ x + 1 ≤ q := fun q hq => ha q (List.mem_cons_of_mem _ hq)
    have h1 := ha o (List.mem_cons_self ..)
    by_cases ho : o < x
    · rw [plc_pass _ _ _ ho] at h
      cases hu : plc x os (g :: gs) with
      | none => rw [hu] at h; cases h
      | some v =>
        rw [hu] at h
        obtain rfl := (Option.some.inj h).symm
        rw [fill8_pass _ _ (show o < x + 1 by omega), fill8_pass _ _ ho, plc_fill hu hi ha']
    · have hx : x ≤ o := by omega
      rcases Int.lt_trichotomy g 0 with hg | rfl | hg
      · rw [plc_bad _ _ hx hg] at h; cases h
      · rw [plc_here _ _ hx] at h
        have hi2 := insF_yes (x := x) (l := L) (g := 0) gs (Nat.zero_le _)
        rw [Int.natCast_zero] at hi2
        rw [hi2] at hi
        cases hu : plc x os gs with
        | none => rw [hu] at h; cases h
        | some v =>
          rw [hu] at h
          obtain rfl := (Option.some.inj h).symm
          cases hv : insF x (L.drop 0) gs with
          | none => rw [hv] at hi; cases hi
          | some q =>
            rw [hv] at hi
            obtain rfl := (Option.some.inj hi).symm
            rw [List.drop_zero] at hv
            simp only [List.take_zero, List.nil_append]
            rw [fill8_pass _ _ (show x < x + 1 by omega), fill8_free _ _ _ ho, plc_fill hu hv ha']
      · rw [plc_skip _ _ hx hg] at h
        cases hu : plc x os ((g - 1) :: gs) with
        | none => rw [hu] at h; cases h
        | some v =>
          rw [hu] at h
          obtain rfl := (Option.some.inj h).symm
          obtain ⟨q, rfl⟩ : ∃ q : Nat, g = ((q + 1 : Nat) : Int) := ⟨(g - 1).toNat, by omega⟩
          have e : ((q + 1 : Nat) : Int) - 1 = (q : Int) := by omega
          rw [e] at hu
          by_cases hl : q + 1 ≤ L.length
          · cases L with
            | nil => simp at hl
            | cons a t =>
              rw [insF_yes gs hl, List.drop_succ_cons, List.take_succ_cons] at hi
              have hi3 := insF_yes (x := x) (l := t) (g := q) gs (by simpa using hl)
              cases hv : insF x (t.drop q) gs with
              | none => rw [hv] at hi; cases hi
              | some s =>
                rw [hv] at hi hi3
                obtain rfl := (Option.some.inj hi).symm
                simp only [List.cons_append]
                rw [fill8_free _ _ _ (show ¬ o < x + 1 by omega), fill8_free _ _ _ ho, plc_fill hu hi3 ha']
          · rw [insF_no gs (by omega)] at hi; cases hi
/-- The model: symbol by symbol from the least. -/
def modR : Nat → List Nat → List Int → List Nat → Option (List Nat)
  | _, [], _, out => some out
  | _, [_], _, out => some out
  | x, c :: c' :: cs, gs, out => (plc x out (gs.take c)).bind (modR (x + 1) (c' :: cs) (gs.drop c))
theorem modR_one (x c : Nat) (gs : List Int) (out : List Nat) : modR x [c] gs out = some out := by rw [modR]
theorem modR_more (x c : Nat) {cs : List Nat} (gs : List Int) (out : List Nat) (h : cs ≠ []) : modR x (c :: cs) gs out = (plc x out (gs.take c)).bind (modR (x + 1) cs (gs.drop c)) := by
  cases cs with
  | nil => exact absurd rfl h
  | cons c' cs => rw [modR]
def last8 (cs : List Nat) : Nat := cs.getD (cs.length - 1) 0
theorem last8_cons (c : Nat) {cs : List Nat} (h : cs ≠ []) : last8 (c :: cs) = last8 cs := by
  unfold last8
  cases cs with
  | nil => exact absurd rfl h
  | cons a t => simp [List.getD_eq_getElem?_getD]
theorem decR_len : ∀ {cs : List Nat} {x : Nat} {gs : List Int} {L : List Nat}, cs ≠ [] → gs.length + last8 cs = cs.sum → decR x cs gs = some L → L.length = cs.sum
  | [], _, _, _, h, _, _ => absurd rfl h
  | [c], x, gs, L, _, _, h => by rw [decR_one] at h; obtain rfl := (Option.some.inj h).symm; simp
  | c :: c' :: cs, x, gs, L, _, hs, h => by
    rw [decR_more x c gs (by simp)] at h
    rw [last8_cons c (by simp), List.sum_cons] at hs
    have hle : last8 (c' :: cs) ≤ (c' :: cs).sum := by
      unfold last8
      have hm : (c' :: cs).getD ((c' :: cs).length - 1) 0 ∈ (c' :: cs) := getD_mem7 _ _ (by simp)
      exact mem_le_sum8 _ _ hm
    cases hu : decR (x + 1) (c' :: cs) (gs.drop c) with
    | none => rw [hu] at h; cases h
    | some v =>
      rw [hu] at h
      have h2 : insF x v (gs.take c) = some L := h
      have l1 := decR_len (by simp) (by rw [List.length_drop]; omega) hu
      have e0 : (c :: c' :: cs).sum = c + (c' :: cs).sum := List.sum_cons
      rw [insF_len h2, l1, List.length_take, e0]
      omega
theorem last8_le (cs : List Nat) (h : cs ≠ []) : last8 cs ≤ cs.sum := by
  unfold last8
  have : 0 < cs.length := List.length_pos_iff.2 h
  exact mem_le_sum8 _ _ (getD_mem7 _ _ (by omega))
theorem fill8_all {x : Nat} : ∀ (out : List Nat) (c : Nat), (∀ o ∈ out, o < x ∨ o = x) → free8 x out = c → fill8 x out (List.replicate c x) = out
  | [], c, _, _ => by rw [fill8]
  | o :: os, c, ha, hf => by
    have ha' : ∀ q ∈ os, q < x ∨ q = x := fun q hq => ha q (List.mem_cons_of_mem _ hq)
    by_cases ho : o < x
    · rw [fill8_pass _ _ ho, fill8_all os c ha' (by simpa only [free8, if_pos ho, Nat.zero_add] using hf)]
    · have h1 := ha o (List.mem_cons_self ..)
      simp only [free8, if_neg ho] at hf
      obtain ⟨q, rfl⟩ : ∃ q, c = q + 1 := ⟨c - 1, by omega⟩
      rw [List.replicate_succ, fill8_free _ _ _ ho, fill8_all os q ha' (by omega)]
      congr 1
      omega
/-- Both ways accept the same and answer the same. -/
theorem modR_eq {n : Nat} : ∀ (cs : List Nat) (x : Nat) (gs : List Int) (out : List Nat), cs ≠ [] → x + cs.length = n → (∀ o ∈ out, o < x ∨ o = n - 1) → free8 x out = cs.sum → gs.length + last8 cs = cs.sum → modR x cs gs out = (decR x cs gs).map (fill8 x out)
  | [], _, _, _, h, _, _, _, _ => absurd rfl h
  | [c], x, gs, out, _, hn, ha, hf, _ => by
    rw [modR_one, decR_one, Option.map_some, fill8_all out c (fun o ho => by have := ha o ho; simp at hn; omega) (by simpa using hf)]
  | c :: c' :: cs, x, gs, out, _, hn, ha, hf, hs => by
    have hne : (c' :: cs) ≠ [] := by simp
    rw [modR_more x c gs out hne, decR_more x c gs hne]
    rw [last8_cons c hne, List.sum_cons] at hs
    rw [List.sum_cons] at hf
    have hle := last8_le (c' :: cs) hne
    rw [List.length_cons] at hn
    have hpos : 0 < (c' :: cs).length := by simp
    have ha2 : ∀ o ∈ out, o < x ∨ x + 1 ≤ o := fun o ho => by have := ha o ho; omega
    have htl : (gs.take c).length = c := by rw [List.length_take]; omega
    have hiff := plc_iff x out (gs.take c)
    rw [htl, hf] at hiff
    cases hp : plc x out (gs.take c) with
    | none =>
      rw [Option.bind_none]
      cases hu : decR (x + 1) (c' :: cs) (gs.drop c) with
      | none => rfl
      | some L =>
        have l1 := decR_len hne (by rw [List.length_drop]; omega) hu
        rw [Option.bind_some]
        cases hi : insF x L (gs.take c) with
        | none => rfl
        | some R =>
          exfalso
          have h1 := (insF_iff x (gs.take c) L).1 ⟨R, hi⟩
          rw [l1] at h1
          obtain ⟨r, hr⟩ := hiff.2 ⟨h1.1, by omega⟩
          rw [hr] at hp; cases hp
    | some out2 =>
      rw [Option.bind_some]
      obtain ⟨l1, l2, l3⟩ := plc_out hp ha2
      rw [htl] at l2
      rw [modR_eq (n := n) (c' :: cs) (x + 1) (gs.drop c) out2 hne (by omega) (fun o ho => by
        rcases l3 o ho with e | e
        · have := ha o e; omega
        · omega) (by omega) (by rw [List.length_drop]; omega)]
      cases hu : decR (x + 1) (c' :: cs) (gs.drop c) with
      | none => rfl
      | some L =>
        have l4 := decR_len hne (by rw [List.length_drop]; omega) hu
        have h1 := hiff.1 ⟨out2, hp⟩
        obtain ⟨R, hR⟩ := (insF_iff x (gs.take c) L).2 ⟨h1.1, by rw [l4]; omega⟩
        rw [Option.bind_some, hR, Option.map_some, Option.map_some, plc_fill hp hR ha2]
theorem free8_all (v : Nat) : ∀ t : Nat, free8 0 (List.replicate t v) = t
  | 0 => rfl
  | t + 1 => by rw [List.replicate_succ, free8, free8_all v t]; simp; omega
theorem fill8_zero (v : Nat) : ∀ (t : Nat) (L : List Nat), L.length = t → fill8 0 (List.replicate t v) L = L
  | 0, L, h => by rw [List.length_eq_zero_iff.1 h]; rfl
  | t + 1, [], h => by simp at h
  | t + 1, a :: L, h => by rw [List.replicate_succ, fill8_free _ _ _ (by omega), fill8_zero v t L (by simpa using h)]
theorem modR_zero {cs : List Nat} {gs : List Int} (hne : cs ≠ []) (hs : gs.length + last8 cs = cs.sum) : modR 0 cs gs (List.replicate cs.sum (cs.length - 1)) = decR 0 cs gs := by
  rw [modR_eq (n := cs.length) cs 0 gs _ hne (by omega) (fun o ho => .inr (List.eq_of_mem_replicate ho)) (free8_all _ _) hs]
  cases hd : decR 0 cs gs with
  | none => rfl
  | some L => rw [Option.map_some, fill8_zero _ _ _ (decR_len hne hs hd)]
/-- The list of inversion frequencies; none where they are those of no list. -/
def uiA (z g : List Int) (n : Int) : Option (List Nat) := if szOk z g.length n = true then decR 0 (z.map Int.toNat) g else none
def uiL (z g : List Int) (n : Int) : List Int := ints ((uiA z g n).getD [])
def uiOk (z g : List Int) (n : Int) : Bool := (uiA z g n).isSome
/-- What sizes that are right say. -/
theorem szOk_nats {z g : List Int} {n : Int} (h : szOk z g.length n = true) : ∃ (cs : List Nat) (m : Nat), z = ints cs ∧ n = m ∧ cs.length = m ∧ 1 ≤ m ∧ m ≤ 256 ∧ cs.sum ≤ 600 ∧ g.length + last8 cs = cs.sum ∧ totF z 0 = some cs.sum := by
  obtain ⟨h1, h2, h3, h4, h5⟩ := (szOk_iff z g.length n).1 h
  cases ht : totF z 0 with
  | none => rw [ht] at h4; simp [totI] at h4
  | some t =>
    obtain ⟨e1, e2, e3⟩ := totF_sum (by omega) ht
    rw [ht] at h5
    have h6 : z.getD (z.length - 1) 0 = (last8 (z.map Int.toNat) : Int) := by
      conv => lhs; rw [e3]
      rw [ints_get, ints_len]
      rfl
    rw [h6] at h5
    simp only [totI] at h5
    refine ⟨z.map Int.toNat, n.toNat, e3, by omega, by simp only [List.length_map]; omega, by omega, by omega, by omega, by omega, by rw [e1, Nat.zero_add]⟩
theorem uiA_yes {cs : List Nat} {g : List Int} {m : Nat} (h : szOk (ints cs) g.length m = true) : uiA (ints cs) g m = decR 0 cs g := by unfold uiA; rw [if_pos h, ints_toNat]
theorem uiA_no {z g : List Int} {n : Int} (h : szOk z g.length n = false) : uiA z g n = none := by unfold uiA; rw [h]; rfl
theorem szOk_of {cs : List Nat} {g : List Int} {m : Nat} (h1 : 1 ≤ m) (h2 : m ≤ 256) (h3 : cs.length = m) (h4 : cs.sum ≤ 600) (h5 : g.length + last8 cs = cs.sum) : szOk (ints cs) g.length m = true := by
  have ht := totF_of cs 0 (by omega)
  rw [Nat.zero_add] at ht
  rw [szOk_iff, ht, ints_len, ints_get]
  simp only [totI]
  refine ⟨by omega, by omega, by omega, by omega, ?_⟩
  have : cs.getD (cs.length - 1) 0 = last8 cs := rfl
  omega
theorem decR_mem {n : Nat} : ∀ {cs : List Nat} {x : Nat} {gs : List Int} {L : List Nat}, x + cs.length = n → decR x cs gs = some L → ∀ y ∈ L, x ≤ y ∧ y < n
  | [], _, _, L, _, h => by rw [decR] at h; obtain rfl := (Option.some.inj h).symm; simp
  | [c], x, gs, L, hn, h => by
    rw [decR_one] at h
    obtain rfl := (Option.some.inj h).symm
    intro y hy
    have := List.eq_of_mem_replicate hy
    simp at hn
    omega
  | c :: c' :: cs, x, gs, L, hn, h => by
    rw [decR_more x c gs (by simp)] at h
    rw [List.length_cons] at hn
    cases hu : decR (x + 1) (c' :: cs) (gs.drop c) with
    | none => rw [hu] at h; cases h
    | some v =>
      rw [hu] at h
      have ih := decR_mem (n := n) (by omega) hu
      have hpos : 0 < (c' :: cs).length := by simp
      have key : ∀ (gs : List Int) (l r : List Nat), insF x l gs = some r → (∀ y ∈ l, x ≤ y ∧ y < n) → ∀ y ∈ r, x ≤ y ∧ y < n := by
        intro gs
        induction gs with
        | nil => intro l r h hl; rw [insF] at h; obtain rfl := Option.some.inj h; exact hl
        | cons g gs ihg =>
          intro l r h hl
          by_cases hg : 0 ≤ g ∧ g ≤ (l.length : Int)
          · obtain ⟨q, rfl⟩ : ∃ q : Nat, g = q := ⟨g.toNat, by omega⟩
            rw [insF_yes gs (by omega)] at h
            cases hw : insF x (l.drop q) gs with
            | none => rw [hw] at h; cases h
            | some s =>
              rw [hw] at h
              obtain rfl := (Option.some.inj h).symm
              intro y hy
              rcases List.mem_append.1 hy with hy | hy
              · exact hl y (List.mem_of_mem_take hy)
              · rcases List.mem_cons.1 hy with rfl | hy
                · omega
                · exact ihg _ _ hw (fun y hy => hl y (List.mem_of_mem_drop hy)) y hy
          · rw [insF_no gs hg] at h; cases h
      exact key _ _ _ h (fun y hy => by have := ih y hy; omega)
theorem uiA_len {z g : List Int} {n : Int} {L : List Nat} (h : uiA z g n = some L) : L.length ≤ 600 ∧ ∀ x ∈ L, x < 256 ∧ (x : Int) < n := by
  by_cases hz : szOk z g.length n = true
  · obtain ⟨cs, m, rfl, rfl, e1, e2, e3, e4, e5, _⟩ := szOk_nats hz
    rw [uiA_yes hz] at h
    have hne : cs ≠ [] := fun e => by subst e; simp at e1; omega
    refine ⟨by rw [decR_len hne e5 h]; exact e4, fun x hx => ?_⟩
    have := decR_mem (n := m) (by omega) h x hx
    omega
  · rw [uiA_no (by simpa using hz)] at h; cases h
end Go.Proofs.Ytpdicijoohahaaa
