/- Chapter 8, plain: symbols of an alphabet; a machine run over a list; move-to-front. -/
import Derived.Test.YtpdicijoohahaaaInts
namespace Go.Proofs.Ytpdicijoohahaaa
set_option linter.unusedVariables false
set_option linter.unusedSimpArgs false

/-- Are they symbols of an alphabet of n? -/
def rOk (z : List Int) (n : Int) : Bool := decide (1 ≤ n ∧ n ≤ 256 ∧ z.length ≤ 600 ∧ ∀ x ∈ z, 0 ≤ x ∧ x < n)
theorem rOk_iff (z : List Int) (n : Int) : rOk z n = true ↔ 1 ≤ n ∧ n ≤ 256 ∧ z.length ≤ 600 ∧ ∀ x ∈ z, 0 ≤ x ∧ x < n := by simp [rOk]
/-- Numbers as integers. -/
def ints (L : List Nat) : List Int := L.map fun (x : Nat) => (x : Int)
theorem ints_len (L : List Nat) : (ints L).length = L.length := by simp [ints]
theorem ints_get (L : List Nat) (k : Nat) : (ints L).getD k 0 = ((L.getD k 0 : Nat) : Int) := by
  unfold ints
  simp only [List.getD_eq_getElem?_getD, List.getElem?_map]
  cases L[k]? <;> rfl
theorem ints_snoc (L : List Nat) (x : Nat) : ints (L ++ [x]) = ints L ++ [(x : Int)] := by simp [ints]
/-- A valid list is one of numbers. -/
theorem rOk_nats {z : List Int} {n : Int} (h : rOk z n = true) : ∃ (L : List Nat) (m : Nat), z = ints L ∧ n = m ∧ 1 ≤ m ∧ m ≤ 256 ∧ L.length ≤ 600 ∧ ∀ x ∈ L, x < m := by
  obtain ⟨h1, h2, h3, h4⟩ := (rOk_iff z n).1 h
  have hz : z = ints (z.map Int.toNat) := by
    unfold ints
    rw [List.map_map]
    conv => lhs; rw [← List.map_id z]
    apply List.map_congr_left
    intro x hx
    have := h4 x hx
    simp only [id, Function.comp]
    omega
  refine ⟨z.map Int.toNat, n.toNat, hz, by omega, by omega, by omega, by simpa using h3, ?_⟩
  intro x hx
  obtain ⟨y, hy, rfl⟩ := List.mem_map.1 hx
  have := h4 y hy
  omega
theorem rOk_of {L : List Nat} {m : Nat} (h1 : 1 ≤ m) (h2 : m ≤ 256) (h3 : L.length ≤ 600) (h4 : ∀ x ∈ L, x < m) : rOk (ints L) m = true := by
  rw [rOk_iff]
  refine ⟨by omega, by omega, by rw [ints_len]; exact h3, ?_⟩
  intro x hx
  obtain ⟨y, hy, rfl⟩ := List.mem_map.1 hx
  have := h4 y hy
  omega

/-- A machine's answers, one for each number of a list. -/
def runF {σ : Type} (f : σ → Nat → Nat × σ) : σ → List Nat → List Nat
  | _, [] => []
  | s, x :: xs => (f s x).1 :: runF f (f s x).2 xs
/-- What state the machine is in behind a list. -/
def endF {σ : Type} (f : σ → Nat → Nat × σ) : σ → List Nat → σ
  | s, [] => s
  | s, x :: xs => endF f (f s x).2 xs
theorem runF_len {σ : Type} (f : σ → Nat → Nat × σ) : ∀ (L : List Nat) (s : σ), (runF f s L).length = L.length
  | [], _ => rfl
  | x :: xs, s => by simp [runF, runF_len f xs]
theorem drop_cons (L : List Nat) (k : Nat) (h : k < L.length) : L.drop k = L.getD k 0 :: L.drop (k + 1) := by
  rw [List.drop_eq_getElem_cons h]
  congr 1
  simp [List.getD_eq_getElem?_getD, h]
theorem getD_mem7 (L : List Nat) (k : Nat) (h : k < L.length) : L.getD k 0 ∈ L := by
  have e : L.getD k 0 = L[k] := by simp [List.getD_eq_getElem?_getD, h]
  rw [e]; exact List.getElem_mem h

/-- The one at place k comes to the front. -/
def frontL (r : List Nat) (k : Nat) : List Nat := r.getD k 0 :: r.eraseIdx k
theorem eraseIdx_td (r : List Nat) (k : Nat) : r.eraseIdx k = r.take k ++ r.drop (k + 1) := List.eraseIdx_eq_take_drop_succ r k
theorem frontL_len (r : List Nat) (k : Nat) (h : k < r.length) : (frontL r k).length = r.length := by
  unfold frontL
  rw [List.length_cons, List.length_eraseIdx]
  split <;> omega
theorem split_at (r : List Nat) (k : Nat) (h : k < r.length) : r = r.take k ++ r.getD k 0 :: r.drop (k + 1) := by
  rw [← drop_cons r k h, List.take_append_drop]
theorem frontL_perm (r : List Nat) (k : Nat) (h : k < r.length) : (frontL r k).Perm r := by
  unfold frontL
  rw [eraseIdx_td]
  conv => rhs; rw [split_at r k h]
  exact List.perm_middle.symm
/-- One step of move-to-front, one of its inverse. -/
def mtfF (r : List Nat) (x : Nat) : Nat × List Nat := (r.idxOf x, frontL r (r.idxOf x))
def umtF (r : List Nat) (k : Nat) : Nat × List Nat := (r.getD k 0, frontL r k)
/-- A row of the numbers below n, in some order. -/
def PermN (n : Nat) (r : List Nat) : Prop := r.Perm (List.range n)
theorem PermN.len {n : Nat} {r : List Nat} (h : PermN n r) : r.length = n := by rw [h.length_eq, List.length_range]
theorem PermN.mem {n : Nat} {r : List Nat} (h : PermN n r) (x : Nat) : x ∈ r ↔ x < n := by rw [h.mem_iff, List.mem_range]
theorem PermN.nodup {n : Nat} {r : List Nat} (h : PermN n r) : r.Nodup := h.nodup_iff.2 List.nodup_range
theorem PermN.idx {n : Nat} {r : List Nat} (h : PermN n r) {x : Nat} (hx : x < n) : r.idxOf x < n := by
  have := List.idxOf_lt_length_of_mem ((h.mem x).2 hx)
  rwa [h.len] at this
theorem PermN.at {n : Nat} {r : List Nat} (h : PermN n r) {k : Nat} (hk : k < n) : r.getD k 0 < n := (h.mem _).1 (getD_mem7 r k (by rw [h.len]; exact hk))
theorem PermN.front {n : Nat} {r : List Nat} (h : PermN n r) {k : Nat} (hk : k < n) : PermN n (frontL r k) := (frontL_perm r k (by rw [h.len]; exact hk)).trans h
theorem PermN.start (n : Nat) : PermN n (List.range n) := List.Perm.refl _
theorem idx_at (r : List Nat) {x : Nat} (h : x ∈ r) : r.getD (r.idxOf x) 0 = x := by
  have h2 := List.idxOf_lt_length_of_mem h
  simp [List.getD_eq_getElem?_getD, h2]
theorem idx_first (r : List Nat) (x j : Nat) (h : j < r.idxOf x) : r.getD j 0 ≠ x := by
  intro e
  have hle := List.idxOf_le_length (a := x) (l := r)
  have hj : j < r.length := by omega
  have e2 : r[j] = x := by simpa [List.getD_eq_getElem?_getD, hj] using e
  have h3 : (r.take (j + 1)).idxOf x ≤ j := by
    have hm : x ∈ r.take (j + 1) := by
      rw [List.mem_take_iff_getElem]
      exact ⟨j, by omega, e2⟩
    have := List.idxOf_lt_length_of_mem hm
    rw [List.length_take] at this
    omega
  have h4 : r.idxOf x ≤ j := by
    have hm : x ∈ r.take (j + 1) := by
      rw [List.mem_take_iff_getElem]
      exact ⟨j, by omega, e2⟩
    conv => lhs; rw [← List.take_append_drop (j + 1) r]
    rw [List.idxOf_append, if_pos hm]
    exact h3
  omega
/-- The answers of move-to-front, as integers; none where the list is not valid. -/
def mtfZ (z : List Int) (n : Int) : List Int := if rOk z n = true then ints (runF mtfF (List.range n.toNat) (z.map Int.toNat)) else []
def umtZ (z : List Int) (n : Int) : List Int := if rOk z n = true then ints (runF umtF (List.range n.toNat) (z.map Int.toNat)) else []
theorem ints_toNat (L : List Nat) : (ints L).map Int.toNat = L := by
  unfold ints
  rw [List.map_map]
  conv => rhs; rw [← List.map_id L]
  apply List.map_congr_left
  intro x _
  rfl
theorem mtfZ_yes {L : List Nat} {m : Nat} (h : rOk (ints L) m = true) : mtfZ (ints L) m = ints (runF mtfF (List.range m) L) := by
  unfold mtfZ; rw [if_pos h, ints_toNat]; rfl
theorem umtZ_yes {L : List Nat} {m : Nat} (h : rOk (ints L) m = true) : umtZ (ints L) m = ints (runF umtF (List.range m) L) := by
  unfold umtZ; rw [if_pos h, ints_toNat]; rfl
theorem mtfZ_no {z : List Int} {n : Int} (h : rOk z n = false) : mtfZ z n = [] := by unfold mtfZ; rw [h]; rfl
theorem umtZ_no {z : List Int} {n : Int} (h : rOk z n = false) : umtZ z n = [] := by unfold umtZ; rw [h]; rfl
/-- What a machine's answers are bounded by, where every step keeps a relation on its states. -/
theorem runF_all {σ : Type} {f : σ → Nat → Nat × σ} (R : σ → Prop) (X Y : Nat → Prop) (h : ∀ s x, R s → X x → Y (f s x).1 ∧ R (f s x).2) : ∀ (L : List Nat) (s : σ), R s → (∀ x ∈ L, X x) → ∀ y ∈ runF f s L, Y y
  | [], _, _, _, y, hy => by cases hy
  | x :: xs, s, hR, hX, y, hy => by
    have h1 := h s x hR (hX x (List.mem_cons_self ..))
    rcases List.mem_cons.1 hy with e | e
    · rw [e]; exact h1.1
    · exact runF_all R X Y h xs _ h1.2 (fun q hq => hX q (List.mem_cons_of_mem _ hq)) y e
theorem mtf_lt {n : Nat} {L : List Nat} (hL : ∀ x ∈ L, x < n) : ∀ y ∈ runF mtfF (List.range n) L, y < n :=
  runF_all (PermN n) (· < n) (· < n) (fun s x hs hx => ⟨hs.idx hx, hs.front (hs.idx hx)⟩) L _ (PermN.start n) hL
theorem umt_lt {n : Nat} {L : List Nat} (hL : ∀ x ∈ L, x < n) : ∀ y ∈ runF umtF (List.range n) L, y < n :=
  runF_all (PermN n) (· < n) (· < n) (fun s k hs hk => ⟨hs.at hk, hs.front hk⟩) L _ (PermN.start n) hL
end Go.Proofs.Ytpdicijoohahaaa
