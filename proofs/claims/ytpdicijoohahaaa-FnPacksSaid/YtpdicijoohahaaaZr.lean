/- Chapter 9, plain: digits of runs; runs packed and unpacked. -/
import Derived.Test.YtpdicijoohahaaaRec
namespace Go.Proofs.Ytpdicijoohahaaa
set_option linter.unusedVariables false
set_option linter.unusedSimpArgs false

/-- The digits of a run of k, each less one (f: at least as many steps as there are digits). -/
def rsG : Nat → Nat → List Nat
  | 0, _ => []
  | f + 1, k => if k = 0 then [] else ((k - 1) % 2) :: rsG f ((k - 1) / 2)
def rsF (k : Nat) : List Nat := rsG k k
theorem rsG_more : ∀ (f g k : Nat), k ≤ f → k ≤ g → rsG f k = rsG g k
  | 0, 0, _, _, _ => rfl
  | 0, g + 1, k, h, _ => by
    have : k = 0 := by omega
    subst this; simp [rsG]
  | f + 1, 0, k, _, h => by
    have : k = 0 := by omega
    subst this; simp [rsG]
  | f + 1, g + 1, k, h1, h2 => by
    unfold rsG
    by_cases hk : k = 0
    · rw [if_pos hk, if_pos hk]
    · rw [if_neg hk, if_neg hk, rsG_more f g ((k - 1) / 2) (by omega) (by omega)]
theorem rsF_zero : rsF 0 = [] := rfl
theorem rsF_pos {k : Nat} (h : 0 < k) : rsF k = ((k - 1) % 2) :: rsF ((k - 1) / 2) := by
  obtain ⟨q, rfl⟩ : ∃ q, k = q + 1 := ⟨k - 1, by omega⟩
  show rsG (q + 1) (q + 1) = _
  unfold rsG
  rw [if_neg (by omega)]
  unfold rsF
  rw [rsG_more q ((q + 1 - 1) / 2) ((q + 1 - 1) / 2) (by omega) (Nat.le_refl _)]
theorem rsF_lt (k : Nat) : ∀ d ∈ rsF k, d < 2 := by
  induction k using Nat.strongRecOn with
  | ind k ih =>
    rcases Nat.eq_zero_or_pos k with rfl | h
    · simp [rsF_zero]
    · rw [rsF_pos h]
      intro d hd
      rcases List.mem_cons.1 hd with rfl | hd
      · omega
      · exact ih _ (by omega) d hd
theorem rsF_len (k : Nat) : (rsF k).length ≤ k := by
  induction k using Nat.strongRecOn with
  | ind k ih =>
    rcases Nat.eq_zero_or_pos k with rfl | h
    · simp [rsF_zero]
    · rw [rsF_pos h, List.length_cons]
      have := ih ((k - 1) / 2) (by omega)
      omega
theorem rsF_ne {k : Nat} (h : 0 < k) : rsF k ≠ [] := by rw [rsF_pos h]; simp

/-- How long a run of such digits is. -/
def vF : List Nat → Nat
  | [] => 0
  | d :: ds => d + 1 + 2 * vF ds
theorem vF_rsF (k : Nat) : vF (rsF k) = k := by
  induction k using Nat.strongRecOn with
  | ind k ih =>
    rcases Nat.eq_zero_or_pos k with rfl | h
    · rfl
    · rw [rsF_pos h, vF, ih _ (by omega)]; omega
theorem rsF_vF : ∀ (ds : List Nat), (∀ d ∈ ds, d < 2) → rsF (vF ds) = ds
  | [], _ => rfl
  | d :: ds, h => by
    have hd := h d (List.mem_cons_self ..)
    have e0 : vF (d :: ds) = d + 1 + 2 * vF ds := rfl
    rw [rsF_pos (by omega)]
    have e1 : (vF (d :: ds) - 1) % 2 = d := by omega
    have e2 : (vF (d :: ds) - 1) / 2 = vF ds := by omega
    rw [e1, e2, rsF_vF ds (fun q hq => h q (List.mem_cons_of_mem _ hq))]
theorem vF_append : ∀ (ds es : List Nat), vF (ds ++ es) = vF ds + 2 ^ ds.length * vF es
  | [], es => by simp [vF]
  | d :: ds, es => by
    rw [List.cons_append, vF, vF, vF_append ds es, List.length_cons, Nat.pow_succ, Nat.mul_add, Nat.mul_comm (2 ^ ds.length) 2, Nat.mul_assoc]
    omega
theorem vF_snoc (ds : List Nat) (d : Nat) : vF (ds ++ [d]) = vF ds + (d + 1) * 2 ^ ds.length := by
  rw [vF_append]; simp [vF, Nat.mul_comm]
theorem vF_pow : ∀ (ds : List Nat), 2 ^ ds.length ≤ vF ds + 1
  | [] => by simp [vF]
  | d :: ds => by
    have h1 := vF_pow ds
    have e0 : vF (d :: ds) = d + 1 + 2 * vF ds := rfl
    rw [List.length_cons, Nat.pow_succ]; omega
theorem vF_take (ds : List Nat) (k : Nat) : vF (ds.take k) ≤ vF ds := by
  conv => rhs; rw [← List.take_append_drop k ds, vF_append]
  exact Nat.le_add_right _ _
theorem vF_zero {ds : List Nat} (h : vF ds = 0) : ds = [] := by
  cases ds with
  | nil => rfl
  | cons d ds => unfold vF at h; omega
theorem vF_small {ds : List Nat} (h : vF ds ≤ 600) : ds.length ≤ 9 := by
  rcases Nat.lt_or_ge ds.length 10 with h1 | h1
  · omega
  · have h2 := vF_pow ds
    have h3 : 2 ^ 10 ≤ 2 ^ ds.length := Nat.pow_le_pow_right (by omega) h1
    have : (2 : Nat) ^ 10 = 1024 := rfl
    omega

/-- Are these the digits of a run? -/
def rlOk (z : List Int) : Bool := decide (z ≠ [] ∧ (∀ x ∈ z, x = 0 ∨ x = 1) ∧ vF (z.map Int.toNat) ≤ 600)
theorem rlOk_iff (z : List Int) : rlOk z = true ↔ z ≠ [] ∧ (∀ x ∈ z, x = 0 ∨ x = 1) ∧ vF (z.map Int.toNat) ≤ 600 := by simp [rlOk]
/-- How long it is; -1: it is none. -/
def rlZ (z : List Int) : Int := if rlOk z = true then (vF (z.map Int.toNat) : Int) else -1
theorem rlZ_yes {z : List Int} (h : rlOk z = true) : rlZ z = (vF (z.map Int.toNat) : Int) := by unfold rlZ; rw [if_pos h]
theorem rlZ_no {z : List Int} (h : ¬ rlOk z = true) : rlZ z = -1 := by unfold rlZ; rw [if_neg h]
theorem rlOk_pos {z : List Int} (h : rlOk z = true) : 0 < vF (z.map Int.toNat) := by
  have h1 := ((rlOk_iff z).1 h).1
  rcases Nat.eq_zero_or_pos (vF (z.map Int.toNat)) with h0 | h0
  · exact absurd (List.map_eq_nil_iff.1 (vF_zero h0)) h1
  · exact h0
theorem rlZ_pos {z : List Int} : 0 < rlZ z ↔ rlOk z = true := by
  by_cases h : rlOk z = true
  · rw [rlZ_yes h]; have := rlOk_pos h; exact ⟨fun _ => h, fun _ => by omega⟩
  · rw [rlZ_no h]; exact ⟨fun h2 => by omega, fun h2 => absurd h2 h⟩
theorem rlZ_le (z : List Int) : -1 ≤ rlZ z ∧ rlZ z ≤ 600 := by
  by_cases h : rlOk z = true
  · rw [rlZ_yes h]; have := ((rlOk_iff z).1 h).2.2; omega
  · rw [rlZ_no h]; omega
/-- What RunSyms answers. -/
def rsZ (k : Int) : List Int := if 1 ≤ k ∧ k ≤ 600 then ints (rsF k.toNat) else []
theorem rsZ_yes {k : Nat} (h1 : 1 ≤ k) (h2 : k ≤ 600) : rsZ k = ints (rsF k) := by unfold rsZ; rw [if_pos (by omega), Int.toNat_natCast]
theorem rsZ_no {k : Int} (h : ¬ (1 ≤ k ∧ k ≤ 600)) : rsZ k = [] := by unfold rsZ; rw [if_neg h]
theorem digits_ints {z : List Int} (h : ∀ x ∈ z, x = 0 ∨ x = 1) : z = ints (z.map Int.toNat) ∧ ∀ d ∈ z.map Int.toNat, d < 2 := by
  constructor
  · unfold ints
    rw [List.map_map]
    conv => lhs; rw [← List.map_id z]
    apply List.map_congr_left
    intro x hx
    have := h x hx
    simp only [id, Function.comp]
    omega
  · intro d hd
    obtain ⟨x, hx, rfl⟩ := List.mem_map.1 hd
    have := h x hx
    omega
theorem rs_rl {k : Nat} (h1 : 1 ≤ k) (h2 : k ≤ 600) : rlOk (ints (rsF k)) = true ∧ rlZ (ints (rsF k)) = k := by
  have hok : rlOk (ints (rsF k)) = true := by
    rw [rlOk_iff, ints_toNat, vF_rsF]
    refine ⟨fun e => rsF_ne h1 (List.map_eq_nil_iff.1 e), fun x hx => ?_, h2⟩
    obtain ⟨d, hd, rfl⟩ := List.mem_map.1 hx
    have := rsF_lt k d hd
    omega
  exact ⟨hok, by rw [rlZ_yes hok, ints_toNat, vF_rsF]⟩
theorem rl_rs {z : List Int} (h : rlOk z = true) : rsZ (rlZ z) = z := by
  have h1 := (rlOk_iff z).1 h
  have h2 := digits_ints h1.2.1
  have h3 := rlOk_pos h
  rw [rlZ_yes h, rsZ_yes h3 h1.2.2, rsF_vF _ h2.2]
  exact h2.1.symm

/-- Zeros by their digits, the others one more; r zeros stand ahead. -/
def packF : Nat → List Nat → List Nat
  | r, [] => rsF r
  | r, 0 :: l => packF (r + 1) l
  | r, (x + 1) :: l => rsF r ++ (x + 2) :: packF 0 l
theorem packF_nil (r : Nat) : packF r [] = rsF r := by rw [packF]
theorem packF_zero (r : Nat) (l : List Nat) : packF r (0 :: l) = packF (r + 1) l := by rw [packF]
theorem packF_pos (r : Nat) {x : Nat} (h : 0 < x) (l : List Nat) : packF r (x :: l) = rsF r ++ (x + 1) :: packF 0 l := by
  obtain ⟨q, rfl⟩ : ∃ q, x = q + 1 := ⟨x - 1, by omega⟩
  rw [packF]
theorem packF_len : ∀ (l : List Nat) (r : Nat), (packF r l).length ≤ r + l.length
  | [], r => by rw [packF_nil]; have := rsF_len r; simpa using this
  | 0 :: l, r => by rw [packF_zero, List.length_cons]; have := packF_len l (r + 1); omega
  | (x + 1) :: l, r => by
    rw [packF_pos r (by omega), List.length_append, List.length_cons, List.length_cons]
    have := packF_len l 0
    have := rsF_len r
    omega
theorem packF_le (m : Nat) : ∀ (l : List Nat) (r : Nat), (∀ x ∈ l, x < m) → ∀ y ∈ packF r l, y ≤ m + 1
  | [], r, _, y, hy => by rw [packF_nil] at hy; have := rsF_lt r y hy; omega
  | 0 :: l, r, h, y, hy => by rw [packF_zero] at hy; exact packF_le m l (r + 1) (fun x hx => h x (List.mem_cons_of_mem _ hx)) y hy
  | (x + 1) :: l, r, h, y, hy => by
    rw [packF_pos r (by omega)] at hy
    rcases List.mem_append.1 hy with hy | hy
    · have := rsF_lt r y hy; omega
    · rcases List.mem_cons.1 hy with rfl | hy
      · have := h (x + 1) (List.mem_cons_self ..); omega
      · exact packF_le m l 0 (fun x hx => h x (List.mem_cons_of_mem _ hx)) y hy
/-- What PackRuns answers. -/
def packZ (z : List Int) (n : Int) : List Int := if rOk z n = true then ints (packF 0 (z.map Int.toNat) ++ [n.toNat + 1]) else []
theorem packZ_yes {L : List Nat} {m : Nat} (h : rOk (ints L) m = true) : packZ (ints L) m = ints (packF 0 L ++ [m + 1]) := by
  unfold packZ; rw [if_pos h, ints_toNat]; rfl
theorem packZ_no {z : List Int} {n : Int} (h : rOk z n = false) : packZ z n = [] := by unfold packZ; rw [h]; rfl

/-- What digits stand for: zeros; none where they are no run (no digit: no zero). -/
def zerF (d : List Int) : Option (List Nat) := if d = [] then some [] else if rlOk d = true then some (List.replicate (vF (d.map Int.toNat)) 0) else none
/-- Symbols unpacked, the digits d standing ahead. -/
def unF (n : Int) : List Int → List Int → Option (List Nat)
  | d, [] => zerF d
  | d, x :: xs => if x = 0 ∨ x = 1 then unF n (d ++ [x]) xs else
    match zerF d with
    | none => none
    | some a => if 2 ≤ x ∧ x ≤ n then (unF n [] xs).map (fun y => a ++ (x - 1).toNat :: y) else none
theorem unF_digit {n : Int} {d : List Int} {x : Int} (xs : List Int) (h : x = 0 ∨ x = 1) : unF n d (x :: xs) = unF n (d ++ [x]) xs := by rw [unF, if_pos h]
theorem unF_no {n : Int} {d : List Int} {x : Int} (xs : List Int) (h : ¬ (x = 0 ∨ x = 1)) (h2 : ¬ (2 ≤ x ∧ x ≤ n)) : unF n d (x :: xs) = none := by
  rw [unF, if_neg h]
  cases zerF d with
  | none => rfl
  | some a => simp only; rw [if_neg h2]
theorem unF_bad {n : Int} {d : List Int} {x : Int} (xs : List Int) (h : ¬ (x = 0 ∨ x = 1)) (h2 : zerF d = none) : unF n d (x :: xs) = none := by
  rw [unF, if_neg h, h2]
theorem unF_yes {n : Int} {d : List Int} {x : Int} {a : List Nat} (xs : List Int) (h : 2 ≤ x ∧ x ≤ n) (h2 : zerF d = some a) : unF n d (x :: xs) = (unF n [] xs).map (fun y => a ++ (x - 1).toNat :: y) := by
  rw [unF, if_neg (by omega), h2]
  simp only
  rw [if_pos h]
theorem unF_digits {n : Int} : ∀ (c d xs : List Int), (∀ x ∈ c, x = 0 ∨ x = 1) → unF n d (c ++ xs) = unF n (d ++ c) xs
  | [], d, xs, _ => by simp
  | x :: c, d, xs, h => by
    rw [List.cons_append, unF_digit _ (h x (List.mem_cons_self ..)), unF_digits c (d ++ [x]) xs (fun y hy => h y (List.mem_cons_of_mem _ hy))]
    simp
theorem zerF_nil : zerF [] = some [] := by simp [zerF]
theorem zerF_rs {k : Nat} (h : k ≤ 600) : zerF (ints (rsF k)) = some (List.replicate k 0) := by
  rcases Nat.eq_zero_or_pos k with rfl | h0
  · simp [rsF_zero, ints, zerF]
  · have := rs_rl h0 h
    unfold zerF
    have hne : ¬ ints (rsF k) = [] := fun e => rsF_ne h0 (List.map_eq_nil_iff.1 e)
    rw [if_neg hne, if_pos this.1, ints_toNat, vF_rsF]
theorem zerF_some {d : List Int} {a : List Nat} (h : zerF d = some a) : (∀ x ∈ d, x = 0 ∨ x = 1) ∧ a = List.replicate (vF (d.map Int.toNat)) 0 ∧ vF (d.map Int.toNat) ≤ 600 := by
  unfold zerF at h
  by_cases h0 : d = []
  · subst h0
    simp at h
    subst h
    simp [vF]
  · rw [if_neg h0] at h
    by_cases h1 : rlOk d = true
    · rw [if_pos h1] at h
      have := (rlOk_iff d).1 h1
      exact ⟨this.2.1, (Option.some.inj h).symm, this.2.2⟩
    · rw [if_neg h1] at h; cases h
theorem zerF_cons {d : List Int} (h : d ≠ []) : zerF d = if 0 < rlZ d then some (List.replicate (rlZ d).toNat 0) else none := by
  unfold zerF
  rw [if_neg h]
  by_cases h1 : rlOk d = true
  · rw [if_pos h1, if_pos (rlZ_pos.2 h1), rlZ_yes h1, Int.toNat_natCast]
  · rw [if_neg h1, if_neg (fun h2 => h1 (rlZ_pos.1 h2))]
/-- Unpacking inverts packing. -/
theorem un_pack {n : Int} : ∀ (L : List Nat) (r : Nat), r + L.length ≤ 600 → (∀ x ∈ L, (x : Int) < n) → unF n [] (ints (packF r L)) = some (List.replicate r 0 ++ L)
  | [], r, h, _ => by
    rw [packF_nil]
    have := unF_digits (n := n) (ints (rsF r)) [] [] (fun x hx => by
      obtain ⟨d, hd, rfl⟩ := List.mem_map.1 hx
      have := rsF_lt r d hd
      omega)
    rw [List.append_nil, List.nil_append] at this
    rw [this, unF, zerF_rs (by simpa using h), List.append_nil]
  | 0 :: l, r, h, hl => by
    rw [packF_zero, un_pack l (r + 1) (by simp only [List.length_cons] at h; omega) (fun x hx => hl x (List.mem_cons_of_mem _ hx)), List.replicate_succ']
    simp
  | (x + 1) :: l, r, h, hl => by
    have hx := hl (x + 1) (List.mem_cons_self ..)
    simp only [List.length_cons] at h
    rw [packF_pos r (by omega)]
    have e : ints (rsF r ++ (x + 1 + 1) :: packF 0 l) = ints (rsF r) ++ ((x : Int) + 2) :: ints (packF 0 l) := by
      simp [ints]; omega
    rw [e, unF_digits (ints (rsF r)) [] _ (fun y hy => by
      obtain ⟨d, hd, rfl⟩ := List.mem_map.1 hy
      have := rsF_lt r d hd
      omega), List.nil_append, unF_yes _ (by omega) (zerF_rs (by omega)), un_pack l 0 (by omega) (fun x hx => hl x (List.mem_cons_of_mem _ hx))]
    have e3 : ((x : Int) + 2 - 1).toNat = x + 1 := by omega
    simp [e3]
theorem packF_reps : ∀ (k r : Nat) (l : List Nat), packF r (List.replicate k 0 ++ l) = packF (r + k) l
  | 0, r, l => by simp
  | k + 1, r, l => by
    rw [List.replicate_succ, List.cons_append, packF_zero, packF_reps k (r + 1) l]
    congr 1; omega
/-- Only packed forms are accepted. -/
theorem pack_un {n : Int} : ∀ (z d : List Int) (y : List Nat), unF n d z = some y → (∀ x ∈ d, x = 0 ∨ x = 1) → ints (packF 0 y) = d ++ z ∧ ∀ x ∈ y, (x : Int) < n ∨ x = 0
  | [], d, y, h, hd => by
    rw [unF] at h
    obtain ⟨_, rfl, _⟩ := zerF_some h
    have h2 := digits_ints hd
    have := packF_reps (vF (d.map Int.toNat)) 0 []
    rw [List.append_nil, Nat.zero_add, packF_nil, rsF_vF _ h2.2] at this
    rw [this, List.append_nil]
    exact ⟨h2.1.symm, fun x hx => .inr (List.eq_of_mem_replicate hx)⟩
  | x :: xs, d, y, h, hd => by
    by_cases hx : x = 0 ∨ x = 1
    · rw [unF_digit _ hx] at h
      have := pack_un xs (d ++ [x]) y h (fun q hq => by
        rcases List.mem_append.1 hq with hq | hq
        · exact hd q hq
        · rw [List.mem_singleton.1 hq]; exact hx)
      simpa using this
    · cases hz : zerF d with
      | none => rw [unF_bad _ hx hz] at h; cases h
      | some a =>
        by_cases hn : 2 ≤ x ∧ x ≤ n
        · rw [unF_yes _ hn hz] at h
          cases hu : unF n [] xs with
          | none => rw [hu] at h; cases h
          | some v =>
            rw [hu] at h
            obtain rfl := (Option.some.inj h).symm
            obtain ⟨_, rfl, _⟩ := zerF_some hz
            have h2 := digits_ints hd
            obtain ⟨e, hv⟩ := pack_un xs [] v hu (fun q hq => by cases hq)
            rw [packF_reps, Nat.zero_add, packF_pos _ (by omega), rsF_vF _ h2.2]
            constructor
            · have e2 : ints (d.map Int.toNat ++ ((x - 1).toNat + 1) :: packF 0 v) = ints (d.map Int.toNat) ++ (((x - 1).toNat + 1 : Nat) : Int) :: ints (packF 0 v) := by simp [ints]
              rw [e2, e, ← h2.1]
              congr 2
              omega
            · intro q hq
              rcases List.mem_append.1 hq with hq | hq
              · exact .inr (List.eq_of_mem_replicate hq)
              · rcases List.mem_cons.1 hq with rfl | hq
                · exact .inl (by omega)
                · exact hv q hq
        · rw [unF_no _ hx hn] at h; cases h
/-- Is it a packed form, and no longer than it may be? What of. -/
def upA (z : List Int) (n most : Int) : Option (List Nat) :=
  if 1 ≤ n ∧ n ≤ 256 ∧ z ≠ [] ∧ z.getD (z.length - 1) 0 = n + 1 then
    match unF n [] z.dropLast with
    | none => none
    | some y => if (y.length : Int) ≤ most ∧ y.length ≤ 600 then some y else none
  else none
def upL (z : List Int) (n most : Int) : List Int := ints ((upA z n most).getD [])
def upOk (z : List Int) (n most : Int) : Bool := (upA z n most).isSome
theorem upA_no {z : List Int} {n most : Int} (h : ¬ (1 ≤ n ∧ n ≤ 256 ∧ z ≠ [] ∧ z.getD (z.length - 1) 0 = n + 1)) : upA z n most = none := by unfold upA; rw [if_neg h]
theorem upA_none {z : List Int} {n most : Int} (h : unF n [] z.dropLast = none) : upA z n most = none := by unfold upA; rw [h]; split <;> rfl
theorem upA_long {z : List Int} {n most : Int} {y : List Nat} (h : unF n [] z.dropLast = some y) (h2 : ¬ ((y.length : Int) ≤ most ∧ y.length ≤ 600)) : upA z n most = none := by
  unfold upA; rw [h]; simp only; rw [if_neg h2]; split <;> rfl
theorem upA_yes {z : List Int} {n most : Int} {y : List Nat} (h0 : 1 ≤ n ∧ n ≤ 256 ∧ z ≠ [] ∧ z.getD (z.length - 1) 0 = n + 1) (h : unF n [] z.dropLast = some y) (h2 : (y.length : Int) ≤ most ∧ y.length ≤ 600) : upA z n most = some y := by
  unfold upA; rw [if_pos h0, h]; simp only; rw [if_pos h2]
theorem upA_some {z : List Int} {n most : Int} {y : List Nat} (h : upA z n most = some y) : (1 ≤ n ∧ n ≤ 256 ∧ z ≠ [] ∧ z.getD (z.length - 1) 0 = n + 1) ∧ unF n [] z.dropLast = some y ∧ (y.length : Int) ≤ most ∧ y.length ≤ 600 := by
  by_cases h0 : 1 ≤ n ∧ n ≤ 256 ∧ z ≠ [] ∧ z.getD (z.length - 1) 0 = n + 1
  · cases hu : unF n [] z.dropLast with
    | none => rw [upA_none hu] at h; cases h
    | some v =>
      by_cases h2 : (v.length : Int) ≤ most ∧ v.length ≤ 600
      · rw [upA_yes h0 hu h2] at h
        obtain rfl := Option.some.inj h
        exact ⟨h0, rfl, h2⟩
      · rw [upA_long hu h2] at h; cases h
  · rw [upA_no h0] at h; cases h
theorem dropLast_last {z : List Int} (h : z ≠ []) : z.dropLast ++ [z.getD (z.length - 1) 0] = z := by
  have h2 : z.getD (z.length - 1) 0 = z.getLast h := by
    have : z.length - 1 < z.length := by
      have := List.length_pos_iff.2 h
      omega
    simp [List.getD_eq_getElem?_getD, List.getLast_eq_getElem, this]
  rw [h2, List.dropLast_concat_getLast]
/-- What law FnPacks asks, of lists. -/
theorem up_pack {L : List Nat} {m : Nat} (h : rOk (ints L) m = true) (hl : L.length ≤ 600) (hm1 : 1 ≤ m) (hm2 : m ≤ 256) (hL : ∀ x ∈ L, x < m) : upA (packZ (ints L) m) m L.length = some L := by
  rw [packZ_yes h]
  have hne : ints (packF 0 L ++ [m + 1]) ≠ [] := by simp [ints]
  have hd : (ints (packF 0 L ++ [m + 1])).dropLast = ints (packF 0 L) := by rw [ints_snoc]; simp
  have hu := un_pack (n := (m : Int)) L 0 (by omega) (fun x hx => by have := hL x hx; omega)
  refine upA_yes ⟨by omega, by omega, hne, ?_⟩ (by rw [hd, hu]; rfl) ⟨by omega, hl⟩
  rw [ints_len, ints_get]
  simp
theorem pack_up {z : List Int} {n most : Int} {y : List Nat} (h : upA z n most = some y) : rOk (ints y) n = true ∧ packZ (ints y) n = z := by
  obtain ⟨⟨h1, h2, h3, h4⟩, hu, h5, h6⟩ := upA_some h
  obtain ⟨e, hv⟩ := pack_un _ _ _ hu (fun q hq => by cases hq)
  have hok : rOk (ints y) n = true := by
    rw [rOk_iff]
    refine ⟨h1, h2, by rw [ints_len]; exact h6, fun x hx => ?_⟩
    obtain ⟨q, hq, rfl⟩ := List.mem_map.1 hx
    have := hv q hq
    omega
  refine ⟨hok, ?_⟩
  obtain ⟨m, rfl⟩ : ∃ m : Nat, n = m := ⟨n.toNat, by omega⟩
  rw [packZ_yes hok, ints_snoc, e, List.nil_append]
  conv => rhs; rw [← dropLast_last h3, h4]
  congr 1
end Go.Proofs.Ytpdicijoohahaaa
