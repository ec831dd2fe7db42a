/- Merged: ExT, WExGetSels. -/
import Derived.Test.YtaaahmfkdiogkaaQM13
import Derived.Test.YtaaahmfkdiogkaaQM26
namespace Go.Proofs.Ytaaahmfkdiogkaa
set_option linter.unusedVariables false
set_option linter.unusedSimpArgs false
open Go.RowKit Go.ChangeShapes Go.WideShapes Go.ChangeAt

/-- Nothing but the rows V has turned. -/
structure ByRows (V : List Value) (w w' : World) : Prop where
  os : w'.os = w.os
  tape : w'.tape = w.tape
  output : w'.output = w.output
  size : w.heap.size ≤ w'.heap.size
  block : ∀ i, i < w.heap.size → (∀ v ∈ V, v.ownBlock ≠ some i) → w'.heap[i]? = w.heap[i]?
theorem ByRows.refl (V : List Value) (w : World) : ByRows V w w := ⟨rfl, rfl, rfl, Nat.le_refl _, fun _ _ _ => rfl⟩
theorem ByRows.grown {V : List Value} {a b c : World} {v : Value} (h : ByRows V a b) (hg : b.grownBy c v.ownBlock) (hv : v ∈ V) : ByRows V a c :=
  ⟨hg.os.trans h.os, hg.tape.trans h.tape, hg.output.trans h.output, Nat.le_trans h.size hg.size, fun i hi hn => (hg.block i (Nat.lt_of_lt_of_le hi h.size) (fun e => hn v hv e.symm)).trans (h.block i hi hn)⟩
theorem own_byrows {w w' : World} {base size n : Nat} {e : TypeId} {v : Value} {xs : List Value} {V : List Value} (h : w.ownsRow base e size v n xs) (hb : ByRows V w w') (hne : ∀ u ∈ V, v.ownBlock = none ∨ v.ownBlock ≠ u.ownBlock) : w'.ownsRow base e size v n xs := by
  refine ⟨h.1, h.2.imp id ?_⟩
  rintro ⟨g, cap, cur, rfl, hg, hc, hr⟩
  refine ⟨g, cap, cur, rfl, hg, (hb.block g (Array.getElem?_eq_some_iff.1 hc).1 fun u hu e => ?_).trans hc, hr⟩
  rcases hne u hu with h1 | h1
  · cases h1
  · exact h1 e.symm
theorem has_byrows {w w' : World} {g : Nat} {t : TypeId} {cs : Array Value} {V : List Value} (h : Has w g t cs) (hb : ByRows V w w') (hne : ∀ u ∈ V, u.ownBlock ≠ some g) : Has w' g t cs := (hb.block g h.lt hne).trans h
theorem bel_byrows {w W W' : World} {V : List Value} (B : Below w.heap.size w W) (hb : ByRows V W W') (hlo : ∀ u ∈ V, ∀ k, u.ownBlock = some k → w.heap.size ≤ k) : Below w.heap.size w W' :=
  ⟨hb.os.trans B.os, hb.tape.trans B.tape, hb.output.trans B.output, Nat.le_trans B.size hb.size, fun i hi => (hb.block i (Nat.lt_of_lt_of_le hi B.size) (fun u hu e => by have := hlo u hu i e; omega)).trans (B.block i hi)⟩
/-- Tables of one's own, which lie in blocks from lo on, below hi, apart from one another. -/
structure OwnT (w : World) (lo hi : Nat) (v : Value) (V : List Value) (T : List (List Int)) : Prop where
  own : w.ownsRow lo 65 1 v T.length V
  rows : RowsAt w lo V T
  top : Ranged v lo hi
  rng : ∀ u ∈ V, Ranged u lo hi
  apart : ∀ i j, i < j → j < T.length → (V.getD i undef).ownBlock = none ∨ (V.getD i undef).ownBlock ≠ (V.getD j undef).ownBlock
theorem getD_memV {V : List Value} {j : Nat} (h : j < V.length) : V.getD j undef ∈ V := by
  have e : V.getD j undef = V[j] := by simp [List.getD_eq_getElem?_getD, h]
  rw [e]; exact List.getElem_mem h
theorem memV_getD {V : List Value} {x : Value} (h : x ∈ V) : ∃ k, k < V.length ∧ V.getD k undef = x := by
  obtain ⟨k, hk, e⟩ := List.getElem_of_mem h
  exact ⟨k, hk, by simp [List.getD_eq_getElem?_getD, hk, e]⟩
theorem OwnT.below {w w' : World} {lo hi : Nat} {v : Value} {V : List Value} {T : List (List Int)} (h : OwnT w lo hi v V T) (hb : Below w.heap.size w w') : OwnT w' lo hi v V T :=
  ⟨own_bel h.own hb, h.rows.below hb, h.top, h.rng, h.apart⟩
theorem OwnT.nil (w : World) (lo hi : Nat) : OwnT w lo hi (.slice none 0 0) [] [] :=
  ⟨World.ownsRow_nil _ _ _ _, RowsAt.nil _ _, (fun k hk => by simp [Value.ownBlock] at hk), (fun u hu => by cases hu), fun i j _ hj => by cases hj⟩
/-- A slice whose block is another. -/
theorem ranged_ne2 {v1 v2 : Value} {l1 h1 l2 h2 : Nat} (r1 : Ranged v1 l1 h1) (r2 : Ranged v2 l2 h2) (h : h1 ≤ l2 ∨ h2 ≤ l1) : v1.ownBlock = none ∨ v1.ownBlock ≠ v2.ownBlock := ranged_ne r1 r2 h
theorem OwnT.kept {w w' : World} {lo hi : Nat} {v u : Value} {V : List Value} {T : List (List Int)} (h : OwnT w lo hi v V T) (hg : w.grownBy w' u.ownBlock) (h1 : v.ownBlock = none ∨ v.ownBlock ≠ u.ownBlock) (h2 : ∀ x ∈ V, x.ownBlock = none ∨ x.ownBlock ≠ u.ownBlock) : OwnT w' lo hi v V T := by
  have one : ∀ {x : Value} {n size : Nat} {e : TypeId} {xs : List Value}, w.ownsRow lo e size x n xs → (x.ownBlock = none ∨ x.ownBlock ≠ u.ownBlock) → w'.ownsRow lo e size x n xs := fun hx hne => hx.kept hg hne
  exact ⟨one h.own h1, ⟨h.rows.1, fun j hj => one (h.rows.2 j hj) (h2 _ (getD_memV (by rw [h.rows.1]; exact hj)))⟩, h.top, h.rng, h.apart⟩
theorem OwnT.keptR {w w' : World} {lo hi l2 h2 : Nat} {v u : Value} {V : List Value} {T : List (List Int)} (h : OwnT w lo hi v V T) (hg : w.grownBy w' u.ownBlock) (r : Ranged u l2 h2) (hr : hi ≤ l2 ∨ h2 ≤ lo) : OwnT w' lo hi v V T :=
  h.kept hg (ranged_ne h.top r hr) (fun x hx => ranged_ne (h.rng x hx) r hr)
theorem OwnT.byRows {w w' : World} {lo hi l2 h2 : Nat} {v : Value} {U V : List Value} {T : List (List Int)} (h : OwnT w lo hi v V T) (hb : ByRows U w w') (r : ∀ u ∈ U, Ranged u l2 h2) (hr : hi ≤ l2 ∨ h2 ≤ lo) : OwnT w' lo hi v V T :=
  ⟨own_byrows h.own hb (fun u hu => ranged_ne h.top (r u hu) hr), ⟨h.rows.1, fun j hj => own_byrows (h.rows.2 j hj) hb (fun u hu => ranged_ne (h.rng _ (getD_memV (by rw [h.rows.1]; exact hj))) (r u hu) hr)⟩, h.top, h.rng, h.apart⟩
theorem OwnT.cell {w : World} {lo hi n c i : Nat} {a : Option Addr} {V : List Value} {T : List (List Int)} (h : OwnT w lo hi (.slice a n c) V T) (hi2 : i < T.length) : ∃ g b m, a = some ⟨g, 0, none⟩ ∧ w.cell? ⟨g, i, none⟩ = some (.slice b (T.getD i []).length m) ∧ V.getD i undef = .slice b (T.getD i []).length m ∧ g < w.heap.size := by
  obtain ⟨b, m, hb⟩ := own_form (h.rows.2 i hi2)
  rcases h.own.2 with ⟨_, h0⟩ | ⟨g, cap, cur, hv, hg, hcur, _⟩
  · omega
  · simp only [Value.slice.injEq] at hv
    obtain ⟨rfl, rfl, rfl⟩ := hv
    refine ⟨g, b, m, rfl, ?_, hb, (Array.getElem?_eq_some_iff.1 hcur).1⟩
    rw [h.own.cellAt i (by omega), ← hb]
    rw [List.getD_eq_getElem?_getD, List.getElem?_eq_getElem (by rw [h.rows.1]; exact hi2)]; rfl
/-- The numbers of all tables fit. -/
def FitT (T : List (List Int)) : Prop := ∀ i, i < T.length → (T.getD i []).length ≤ 1048576 ∧ ∀ x ∈ T.getD i [], -9223372036854775808 ≤ x ∧ x ≤ 9223372036854775807
theorem OwnT.tabs {w : World} {lo hi n c : Nat} {a : Option Addr} {V : List Value} {T : List (List Int)} (h : OwnT w lo hi (.slice a n c) V T) (hf : FitT T) (hl : T.length ≤ 1048576) : Tabs w w.heap.size a T := by
  have e : n = T.length := by
    rcases h.own.2 with ⟨hv, h0⟩ | ⟨g, cap, cur, hv, _⟩
    · simp only [Value.slice.injEq] at hv; omega
    · simp only [Value.slice.injEq] at hv; exact hv.2.1
  subst e
  exact tabs_own h.own h.rows (by omega) (fun i hi => ⟨by have := (hf i hi).1; omega, (hf i hi).2⟩)
theorem OwnT.form {w : World} {lo hi : Nat} {v : Value} {V : List Value} {T : List (List Int)} (h : OwnT w lo hi v V T) : ∃ a c, v = .slice a T.length c ∧ T.length ≤ c := by
  obtain ⟨a, c, rfl⟩ := own_form h.own
  exact ⟨a, c, rfl, own_len12 h.own⟩
theorem Tabs.range {w : World} {B : Nat} {a : Option Addr} {T : List (List Int)} (h : Tabs w B a T) (hl : ∀ i, i < T.length → (T.getD i []).length ≤ 1048576) : FitT T := fun i hi => by
  obtain ⟨b, off, a2, c2, _, _, _, _, hz⟩ := h.at hi
  exact ⟨hl i hi, hz.2.1⟩
/-! ### How long they are -/
/-- The first i tables' lengths together. -/
def sumT (T : List (List Int)) : Nat → Nat
  | 0 => 0
  | i + 1 => sumT T i + (T.getD i []).length
theorem sumT_mono (T : List (List Int)) : ∀ {i j : Nat}, i ≤ j → sumT T i ≤ sumT T j := by
  intro i j h
  induction h with
  | refl => exact Nat.le_refl _
  | step h ih => exact Nat.le_trans ih (by show _ ≤ sumT T _ + _; omega)
theorem sumT_one (T : List (List Int)) {i j : Nat} (h : i < j) : (T.getD i []).length ≤ sumT T j := by
  have := sumT_mono T (i := i + 1) (j := j) h
  have e : sumT T (i + 1) = sumT T i + (T.getD i []).length := rfl
  omega
/-- The table i, marked from k on. -/
def upT (k : Nat) (T : List (List Int)) : List (List Int) := (List.range T.length).map fun j => upFrom (k + sumT T j) (T.getD j []).length
def upTi (k : Nat) (T : List (List Int)) (i : Nat) : List (List Int) := (List.range T.length).map fun j => if j < i then upFrom (k + sumT T j) (T.getD j []).length else T.getD j []
theorem upT_len (k : Nat) (T : List (List Int)) : (upT k T).length = T.length := by unfold upT; simp
theorem upTi_len (k : Nat) (T : List (List Int)) (i : Nat) : (upTi k T i).length = T.length := by unfold upTi; simp
theorem upT_get (k : Nat) (T : List (List Int)) (j : Nat) (h : j < T.length) : (upT k T).getD j [] = upFrom (k + sumT T j) (T.getD j []).length := by
  unfold upT; simp [List.getD_eq_getElem?_getD, h]
theorem upTi_get (k : Nat) (T : List (List Int)) (i j : Nat) (h : j < T.length) : (upTi k T i).getD j [] = if j < i then upFrom (k + sumT T j) (T.getD j []).length else T.getD j [] := by
  unfold upTi; simp [List.getD_eq_getElem?_getD, h]
theorem upTi_zero (k : Nat) (T : List (List Int)) : upTi k T 0 = T := by
  apply List.ext_getElem (upTi_len _ _ _)
  intro j h1 h2
  have := upTi_get k T 0 j h2
  simp only [Nat.not_lt_zero, if_false, List.getD_eq_getElem?_getD, List.getElem?_eq_getElem h1, List.getElem?_eq_getElem h2, Option.getD_some] at this
  exact this
theorem upTi_all (k : Nat) (T : List (List Int)) : upTi k T T.length = upT k T := by
  unfold upTi upT
  refine List.map_congr_left fun j hj => ?_
  rw [if_pos (List.mem_range.1 hj)]
theorem sumT_up (k : Nat) (T : List (List Int)) : ∀ i, i ≤ T.length → sumT (upT k T) i = sumT T i
  | 0, _ => rfl
  | i + 1, h => by
    show sumT (upT k T) i + ((upT k T).getD i []).length = sumT T i + (T.getD i []).length
    rw [sumT_up k T i (by omega), upT_get k T i (by omega), upFrom_len]
/-- Tables as they are handed in. -/
def IsTabs (w : World) (a : Option Addr) (len cap : Nat) (R : Nat → Option Addr × Nat × Nat × List Int) : Prop :=
  (a = none ∧ len = 0 ∧ cap = 0) ∨ ∃ x : Addr, a = some x ∧ len ≤ cap ∧ cap ≤ maxLen ∧ ∀ i, i < len → w.cell? (x.add i) = some (.slice (R i).1 (R i).2.1 (R i).2.2.1) ∧ IsRow .i64 w (R i).1 (R i).2.1 (R i).2.2.1 (R i).2.2.2
def sumR (R : Nat → Option Addr × Nat × Nat × List Int) : Nat → Nat
  | 0 => 0
  | i + 1 => sumR R i + (R i).2.1
theorem sumR_mono (R : Nat → Option Addr × Nat × Nat × List Int) : ∀ {i j : Nat}, i ≤ j → sumR R i ≤ sumR R j := by
  intro i j h
  induction h with
  | refl => exact Nat.le_refl _
  | step h ih => exact Nat.le_trans ih (by show _ ≤ sumR R _ + _; omega)
theorem istabs_len {w : World} {a : Option Addr} {len cap : Nat} {R : Nat → Option Addr × Nat × Nat × List Int} (h : IsTabs w a len cap R) : len ≤ maxLen := by
  rcases h with ⟨_, rfl, _⟩ | ⟨x, _, h1, h2, _⟩ <;> omega
/-- The cell i of tables that are handed in. -/
theorem IsTabs.cell {w : World} {a : Option Addr} {len cap : Nat} {R : Nat → Option Addr × Nat × Nat × List Int} (h : IsTabs w a len cap R) {i : Nat} (hi : i < len) : ∃ b off, a = some ⟨b, off, none⟩ ∧ b < w.heap.size ∧ w.cell? ⟨b, off + i, none⟩ = some (.slice (R i).1 (R i).2.1 (R i).2.2.1) ∧ IsRow .i64 w (R i).1 (R i).2.1 (R i).2.2.1 (R i).2.2.2 := by
  rcases h with ⟨_, rfl, _⟩ | ⟨x, rfl, h1, h2, hc⟩
  · omega
  · have h0 := (hc 0 (by omega)).1
    obtain ⟨b, off, spot⟩ := x
    have hspot : spot = none := by simpa [Addr.add] using World.cell?_spot h0
    subst hspot
    refine ⟨b, off, rfl, by simpa [Addr.add] using cell_lt h0, ?_, (hc i hi).2⟩
    have := (hc i hi).1
    by_cases e : i = 0
    · subst e; simpa [Addr.add] using this
    · simpa [Addr.add, e] using this
theorem IsTabs.tabs {w : World} {a : Option Addr} {len cap : Nat} {R : Nat → Option Addr × Nat × Nat × List Int} (h : IsTabs w a len cap R) (hs : len + sumR R len ≤ 1048576) : ∃ T : List (List Int), T.length = len ∧ Tabs w w.heap.size a T ∧ (∀ i, i < len → (T.getD i []).length = (R i).2.1) := by
  have hone : ∀ i, i < len → (R i).2.1 ≤ 1048576 := fun i hi => by
    have := sumR_mono R (i := i + 1) (j := len) hi
    have e : sumR R (i + 1) = sumR R i + (R i).2.1 := rfl
    omega
  have each : ∀ i, ∃ y : List Int, i < len → y.length = (R i).2.1 ∧ Ints w w.heap.size (R i).1 y := fun i => by
    by_cases hi : i < len
    · obtain ⟨_, _, _, _, _, hr⟩ := h.cell hi
      obtain ⟨y, h1, h2⟩ := Ints.ofRowE hr (hone i hi)
      exact ⟨y, fun _ => ⟨h1, h2⟩⟩
    · exact ⟨[], fun h => absurd h hi⟩
  obtain ⟨Y, hY⟩ : ∃ Y : Nat → List Int, ∀ i, i < len → (Y i).length = (R i).2.1 ∧ Ints w w.heap.size (R i).1 (Y i) := ⟨fun i => Classical.choose (each i), fun i hi => Classical.choose_spec (each i) hi⟩
  have hg : ∀ i, i < len → ((List.range len).map Y).getD i [] = Y i := fun i hi => by simp [List.getD_eq_getElem?_getD, hi]
  refine ⟨(List.range len).map Y, by simp, ⟨by simp; omega, fun h0 => ?_⟩, fun i hi => by rw [hg i hi]; exact (hY i hi).1⟩
  simp at h0
  obtain ⟨b, off, e, hb, _, _⟩ := h.cell (i := 0) h0
  refine ⟨b, off, e, hb, fun i hi => ?_⟩
  simp at hi
  obtain ⟨b', off', e', _, hc, hr⟩ := h.cell hi
  rw [e] at e'
  simp only [Option.some.injEq, Addr.mk.injEq] at e'
  obtain ⟨rfl, rfl, _⟩ := e'
  refine ⟨_, hc, ?_⟩
  rw [hg i hi]
  refine ⟨_, _, by rw [(hY i hi).1], ?_, (hY i hi).2⟩
  rw [(hY i hi).1]
  rcases hr with ⟨_, h2, h3, _⟩ | ⟨_, _, h2, _⟩ <;> omega
/-! ### The law's functions -/
theorem szIntS_any (a : Option Addr) (cap n : Nat) (l : Nat) (w : World) (hn : n ≤ maxLen) (hl : l ≤ 1048576) :
    Calls Try.prog 103 #[.slice a n cap, .int .i64 l] w fun e w' => e = .returned (.int .i64 (if n ≤ l then ((l - n : Nat) : Int) else -1)) ∧ w = w' := by
  unfold maxLen at hn
  by_cases h : n ≤ l
  · have e1 : ((l - n : Nat) : Int) = (l : Int) - (n : Int) := by omega
    rw [if_pos h, e1]
    go_enter Try.func103, Try.ntmps103
    go_wp2
    go_ret
    exact ⟨rfl, rfl⟩
  · rw [if_neg h]
    go_enter Try.func103, Try.ntmps103
    go_wp2
    go_ret
    exact ⟨rfl, rfl⟩
theorem szTable_any (a : Option Addr) (cap n : Nat) (l : Nat) (w : World) (hn : n ≤ maxLen) (hl : l ≤ 1048576) :
    Calls Try.prog 61 #[.agg #[.slice a n cap], .int .i64 l] w fun e w' => e = .returned (.int .i64 (if n ≤ l then ((l - n : Nat) : Int) else -1)) ∧ Below w.heap.size w w' := by
  have K := hidden (fun W => szIntS_any a cap n l W hn hl)
  by_cases h : n ≤ l
  · rw [if_pos h] at K ⊢
    have e1 : ¬ ((l - n : Nat) : Int) < 0 := by omega
    obtain ⟨r, hr⟩ : ∃ r : Nat, l - n = r := ⟨_, rfl⟩
    rw [hr] at K e1 ⊢
    clear hr
    go_enter Try.func61, Try.ntmps61
    go_wp2_with fail
    refine (K.out _).mono ?_
    rintro e w1 ⟨rfl, rfl⟩
    go_wp2
    go_ret
    exact ⟨rfl, (Below.refl _ _).alloc (Nat.le_refl _) _⟩
  · rw [if_neg h] at K ⊢
    go_enter Try.func61, Try.ntmps61
    go_wp2_with fail
    refine (K.out _).mono ?_
    rintro e w1 ⟨rfl, rfl⟩
    go_wp2
    go_ret
    exact ⟨rfl, (Below.refl _ _).alloc (Nat.le_refl _) _⟩
set_option maxHeartbeats 2000000 in
set_option maxRecDepth 100000 in
theorem szTableS_any (a : Option Addr) (len cap l : Nat) (R : Nat → Option Addr × Nat × Nat × List Int) (w0 w : World) (h : IsTabs w0 a len cap R) (hB0 : Below w0.heap.size w0 w) (hl : l ≤ 1048576) :
    Calls Try.prog 25 #[.slice a len cap, .int .i64 l] w fun e w' => e = .returned (.int .i64 (if len + sumR R len ≤ l then ((l - (len + sumR R len) : Nat) : Int) else -1)) ∧ Below w.heap.size w w' := by
  have hn := istabs_len h
  by_cases hlen : len ≤ l
  · have HS : Hid (∀ i, sumR R (i + 1) = sumR R i + (R i).2.1) := hidden (fun i => rfl)
    have HM := hidden (fun i (hi : i < len) => sumR_mono R (i := i + 1) (j := len) hi)
    have HC := hidden (fun i (hi : i < len) => h.cell hi)
    have K := hidden (fun (a : Option Addr) (cap n l : Nat) (W : World) h1 h2 => szTable_any a cap n l W h1 h2)
    obtain ⟨r, hr⟩ : ∃ r : Int, (if len + sumR R len ≤ l then ((l - (len + sumR R len) : Nat) : Int) else -1) = r := ⟨_, rfl⟩
    rw [hr]
    have HR := hidden hr
    clear hr hn h
    have hl0 : ¬ (l : Int) - (len : Int) < 0 := by omega
    go_enter Try.func25, Try.ntmps25
    go_wp2
    go_loopw [1, 5] (fun sl si wr => ∃ i m : Nat, i ≤ len ∧ si = .int .i64 i ∧ sl = .int .i64 m ∧ Hid (len + sumR R i + m = l) ∧ Below w.heap.size w wr) (fun _ si _ => len - (intOf si).toNat)
    case atStart => exact ⟨0, l - len, Nat.zero_le _, rfl, (by rw [Int.ofNat_sub hlen]), hidden (by show len + 0 + (l - len) = l; omega), Below.refl _ _⟩
    case round =>
      obtain ⟨i, m, hi, rfl, rfl, HI, hb⟩ := hrel
      by_cases hlt : i < len
      · obtain ⟨b, off, e1, hbl, hc, hr⟩ := HC.out i hlt
        subst e1
        have ck := ((bel_then hb hB0.size hB0).cell (p := ⟨b, off + i, none⟩) hbl).trans hc
        have hx : (R i).2.1 ≤ maxLen := isrow_lenE hr
        have hm := HI.out
        have K2 := hidden (fun W => K.out (R i).1 (R i).2.2.1 (R i).2.1 m W hx (by omega))
        have hst := HS.out i
        have hmo := HM.out i hlt
        obtain ⟨x, hxx⟩ : ∃ x, (R i).2.1 = x := ⟨_, rfl⟩
        obtain ⟨xa, hxa⟩ : ∃ x, (R i).1 = x := ⟨_, rfl⟩
        obtain ⟨xc, hxc⟩ : ∃ x, (R i).2.2.1 = x := ⟨_, rfl⟩
        rw [hxx, hxa, hxc] at ck K2
        rw [hxx] at hst
        clear hc hr hxx hxa hxc hm hx
        by_cases hxm : x ≤ m
        · have HI2 : Hid (len + sumR R (i + 1) + (m - x) = l) := hidden (by have := HI.out; rw [hst]; omega)
          obtain ⟨q, hq⟩ : ∃ q : Nat, m - x = q := ⟨_, rfl⟩
          rw [if_pos hxm, hq] at K2
          rw [hq] at HI2
          clear hq hst hmo hxm
          go_wp2_with fail
          refine (K2.out _).mono ?_
          rintro e w1 ⟨rfl, b1⟩
          have hb1 := bel_then b1 hb.size hb
          have hq0 : ¬ (q : Int) < 0 := by omega
          clear b1 hb
          go_wp2
          go_roundw
          case rel => exact ⟨i + 1, q, by omega, by go_num, rfl, HI2, hb1⟩
          case measure => simp [intOf]; omega
        · have HF : Hid (r = -1) := hidden (by rw [← HR.out, if_neg (by have := HI.out; omega)])
          rw [if_neg hxm] at K2
          clear hst hmo hxm
          go_wp2_with fail
          refine (K2.out _).mono ?_
          rintro e w1 ⟨rfl, b1⟩
          have hb1 := bel_then b1 hb.size hb
          clear b1 hb
          go_wp2
          go_ret
          exact ⟨ret_int HF.out.symm, hb1⟩
      · obtain rfl : i = len := by omega
        have HF : Hid (r = m) := hidden (by have := HI.out; rw [← HR.out, if_pos (by omega)]; omega)
        go_wp2
        go_ret
        exact ⟨ret_int HF.out.symm, hb⟩
  · rw [if_neg (by omega)]
    have hl0 : (l : Int) - (len : Int) < 0 := by omega
    unfold maxLen at hn
    clear h
    go_enter Try.func25, Try.ntmps25
    go_wp2
    go_ret
    exact ⟨rfl, Below.refl _ _⟩
set_option maxHeartbeats 2000000 in
set_option maxRecDepth 100000 in
theorem toTable_any (a : Option Addr) (cap B : Nat) (z : List Int) (w : World) (hz : Ints w B a z) (hB : B ≤ w.heap.size) (hlen : z.length ≤ 1048576) :
    Calls Try.prog 63 #[.agg #[.slice a z.length cap]] w fun e w' => ∃ g, e = .returned (.agg #[.slice (some ⟨g, 0, none⟩) z.length z.length]) ∧ w'.ownsRow w.heap.size 3 1 (.slice (some ⟨g, 0, none⟩) z.length z.length) z.length (intsV z) ∧ Below w.heap.size w w' := by
  have K := hidden (fun (W : World) (h : Ints W B a z) (hb : B ≤ W.heap.size) => toIntS_any a cap B z W h hb hlen)
  have HZ := hidden hz
  obtain ⟨n, hn⟩ : ∃ n, z.length = n := ⟨_, rfl⟩
  rw [hn] at K ⊢
  clear hz hn
  have b0 : Below w.heap.size w (((w.alloc (.cells #[.slice a n cap] 82)).alloc (.cells #[.slice none 0 0] 65)).alloc (.cells #[.slice none 0 0] 65)) := (((Below.refl _ _).alloc (Nat.le_refl _) _).alloc (by simp) _).alloc (by simp; omega) _
  have h1 := (Has.freshAt (w := w.alloc (.cells #[.slice a n cap] 82)) (g := w.heap.size + 1) (by simp) 65 #[.slice none 0 0]).alloc (.cells #[.slice none 0 0] 65)
  have h2 := Has.freshAt (w := (w.alloc (.cells #[.slice a n cap] 82)).alloc (.cells #[.slice none 0 0] 65)) (g := w.heap.size + 2) (by simp) 65 #[.slice none 0 0]
  go_enter Try.func63, Try.ntmps63
  go_wp2_with fail
  refine (K.out _ (HZ.out.below (b0.mono hB)) (Nat.le_trans hB b0.size)).mono ?_
  rintro e w1 ⟨g, rfl, o1, b1⟩
  replace h1 := h1.below b1 h1.lt
  replace h2 := h2.below b1 h2.lt
  have bb := bel_then b1 b0.size b0
  have s0 := b0.size
  simp at s0
  have l1 := h1.lt
  have l2 := h2.lt
  have c1 := h1.cell 0
  have c2 := h2.cell 0
  have f1 := h1.free 0
  have f2 := h2.free 0
  simp at c1 c2
  have hg := (o1.lt g rfl).1
  simp at hg
  clear h1 h2 b1 b0
  go_wp2
  refine bodyPost_ret (v := .agg #[.slice (some ⟨g, 0, none⟩) n n]) (by simp [results, Try.results63, go_sem, c1, c2, f1, f2, l1, l2]) rfl ⟨g, rfl, ?_, ?_⟩
  · exact Joins.ownsRow_le (own_away (own_away o1 (p := ⟨w.heap.size + 1 + 1, 0, none⟩) (by simp) _) (p := ⟨w.heap.size + 1, 0, none⟩) (by simp) _) (by simp; omega)
  · repeat (first | exact Below.refl _ _ | assumption | refine Below.alloc ?_ (by (try simp); (try omega)) _ | refine Below.setCell ?_ (by (try simp); (try omega)) _ | refine Below.drew ?_ | refine bel_then (by assumption) (by (try simp); (try omega)) ?_)
theorem apart_snoc {V : List Value} {v : Value} {lo hi l2 h2 : Nat} (hV : ∀ i j, i < j → j < V.length → (V.getD i undef).ownBlock = none ∨ (V.getD i undef).ownBlock ≠ (V.getD j undef).ownBlock) (hr : ∀ u ∈ V, Ranged u lo hi) (r : Ranged v l2 h2) (h : hi ≤ l2) :
    ∀ i j, i < j → j < (V ++ [v]).length → ((V ++ [v]).getD i undef).ownBlock = none ∨ ((V ++ [v]).getD i undef).ownBlock ≠ ((V ++ [v]).getD j undef).ownBlock := by
  intro i j hij hj
  rw [List.length_append, List.length_singleton] at hj
  have e1 : (V ++ [v]).getD i undef = V.getD i undef := by rw [List.getD_eq_getElem?_getD, List.getElem?_append_left (by omega), ← List.getD_eq_getElem?_getD]
  rw [e1]
  by_cases e : j < V.length
  · have e2 : (V ++ [v]).getD j undef = V.getD j undef := by rw [List.getD_eq_getElem?_getD, List.getElem?_append_left e, ← List.getD_eq_getElem?_getD]
    rw [e2]
    exact hV i j hij e
  · have e2 : (V ++ [v]).getD j undef = v := by
      have : j = V.length := by omega
      subst this
      rw [List.getD_eq_getElem?_getD, List.getElem?_append_right (Nat.le_refl _), Nat.sub_self]; rfl
    rw [e2]
    exact ranged_ne (hr _ (getD_memV (by omega))) r (.inl h)
theorem repl_set12 (V : List Value) (x z : Value) (n i : Nat) (hV : V.length = i) (h : i < n) : (V ++ List.replicate (n - i) z).set i x = (V ++ [x]) ++ List.replicate (n - (i + 1)) z := by
  obtain ⟨k, hk⟩ : ∃ k, n - i = k + 1 := ⟨n - i - 1, by omega⟩
  have hk2 : n - (i + 1) = k := by omega
  subst hV
  rw [hk, hk2, List.replicate_succ, List.set_append_right _ _ (Nat.le_refl _), Nat.sub_self, List.set_cons_zero]
  simp
theorem made_tabs (n : Nat) : (madeCells #[Value.slice none 0 0] n).toList = List.replicate n (.slice none 0 0) := by
  rw [toList_madeCells_one]
theorem ranged_mono {v : Value} {a b c d : Nat} (h : Ranged v a b) (h1 : c ≤ a) (h2 : b ≤ d) : Ranged v c d := fun k hk => by have := h k hk; omega
set_option maxHeartbeats 4000000 in
set_option maxRecDepth 100000 in
theorem toTableS_any (a : Option Addr) (cap B : Nat) (T : List (List Int)) (w : World) (hz : Tabs w B a T) (hB : B ≤ w.heap.size) (hlen : T.length ≤ 1048576) (hrow : ∀ i, i < T.length → (T.getD i []).length ≤ 1048576) :
    Calls Try.prog 27 #[.slice a T.length cap] w fun e w' => ∃ g V, e = .returned (.slice (some ⟨g, 0, none⟩) T.length T.length) ∧ OwnT w' w.heap.size w'.heap.size (.slice (some ⟨g, 0, none⟩) T.length T.length) V T ∧ Below w.heap.size w w' := by
  obtain ⟨j0, ji, jz0, jz1, jz2⟩ := info_parts Try.infoTable
  obtain ⟨n, hn⟩ : ∃ n, T.length = n := ⟨_, rfl⟩
  have HN := hidden hn
  have HZ := hidden hz
  have HROW := hidden hrow
  have K := hidden (fun (a : Option Addr) (cap : Nat) (z : List Int) (W : World) (h : Ints W B a z) (hb : B ≤ W.heap.size) (hl : z.length ≤ 1048576) => toTable_any a cap B z W h hb hl)
  have HTK : Hid (∀ i, i < n → T.take (i + 1) = T.take i ++ [T.getD i []]) := hidden (fun i hi => by
    have h : i < T.length := by omega
    rw [List.take_succ_eq_append_getElem h, List.getD_eq_getElem?_getD, List.getElem?_eq_getElem h]; rfl)
  rw [hn] at hlen ⊢
  clear hn hz hrow
  go_enter Try.func27, Try.ntmps27
  go_wp2_with (at_make; refine wpList_make_full _ rfl _ _ 25 rfl w.heap.size 65 j0 (.agg #[.slice none 0 0]) 1 Try.underlying25 ji jz0 jz1 .i64 .i64 _ _ n rfl rfl rfl rfl ?cb1 ?cb2 ?cb3 ?_)
  case cb1 => rw [jz2]; omega
  case cb2 => unfold maxLen; omega
  case cb3 => exact Nat.le_refl _
  intro w1 hown hgrow
  have hbl : Below w.heap.size w w1 := ⟨hgrow.os, hgrow.tape, hgrow.output, hgrow.size, fun i hi => hgrow.block i hi (by simp)⟩
  have e0 : (madeCells #[Value.slice none 0 0] n).toList = List.replicate n (.slice none 0 0) := made_tabs n
  replace hown : w1.ownsRow w.heap.size 65 1 (.slice (some ⟨w.heap.size, 0, none⟩) n n) n (List.replicate n (.slice none 0 0)) := by rw [← e0]; exact hown
  clear hgrow e0
  have hl1 := (hown.lt w.heap.size rfl).2
  go_wp2
  go_loopw [4] (fun si wr => ∃ (i : Nat) (V : List Value), i ≤ n ∧ si = .int .i64 i ∧ wr.ownsRow w.heap.size 65 1 (.slice (some ⟨w.heap.size, 0, none⟩) n n) n (V ++ List.replicate (n - i) (.slice none 0 0)) ∧ Hid (RowsAt wr w.heap.size V (T.take i) ∧ V.length = i ∧ (∀ u ∈ V, Ranged u (w.heap.size + 1) wr.heap.size) ∧ ∀ i j, i < j → j < V.length → (V.getD i undef).ownBlock = none ∨ (V.getD i undef).ownBlock ≠ (V.getD j undef).ownBlock) ∧ Below w.heap.size w wr ∧ w.heap.size < wr.heap.size) (fun si _ => n - (intOf si).toNat)
  case atStart => exact ⟨0, [], Nat.zero_le _, rfl, hown, hidden ⟨RowsAt.nil _ _, rfl, (fun u hu => by cases hu), fun i j _ hj => by cases hj⟩, hbl, hl1⟩
  case round =>
    clear hown hbl hl1
    obtain ⟨i, V, hi, rfl, hown, HV, hb, hlw⟩ := hrel
    have hs := hb.size
    by_cases hlt : i < n
    · obtain ⟨b, off, a4, c4, e1, htb, ct, hct, zk⟩ := (HZ.out.below (hb.mono hB)).at (i := i) (by rw [HN.out]; exact hlt)
      subst e1
      have K2 := hidden (K.out a4 c4 (T.getD i []) wr zk (by omega) (HROW.out i (by rw [HN.out]; exact hlt)))
      obtain ⟨m, hm⟩ : ∃ m, (T.getD i []).length = m := ⟨_, rfl⟩
      rw [hm] at ct K2
      have HM := hidden hm
      have HO := hidden hown
      clear zk hct hm hown
      go_wp2_with fail
      refine K2.out.mono ?_
      rintro e w3 ⟨g, rfl, o3, b3⟩
      have hown3 := own_bel HO.out b3
      have hb3 := bel_then b3 hs hb
      have hs3 := b3.size
      have d0 := hown3.cellAt i (by omega)
      have f0 := hown3.frozenAt i
      have HV2 : Hid (RowsAt w3 w.heap.size (V ++ [Value.slice (some ⟨g, 0, none⟩) m m]) (T.take (i + 1)) ∧ (V ++ [Value.slice (some ⟨g, 0, none⟩) m m]).length = i + 1 ∧ (∀ u ∈ V ++ [Value.slice (some ⟨g, 0, none⟩) m m], Ranged u (w.heap.size + 1) w3.heap.size) ∧ ∀ i j, i < j → j < (V ++ [Value.slice (some ⟨g, 0, none⟩) m m]).length → ((V ++ [Value.slice (some ⟨g, 0, none⟩) m m]).getD i undef).ownBlock = none ∨ ((V ++ [Value.slice (some ⟨g, 0, none⟩) m m]).getD i undef).ownBlock ≠ ((V ++ [Value.slice (some ⟨g, 0, none⟩) m m]).getD j undef).ownBlock) := hidden (by
        obtain ⟨h1, h2, h3, h4⟩ := HV.out
        refine ⟨?_, by rw [List.length_append, h2]; rfl, ?_, apart_snoc h4 h3 (own_ranged o3) (Nat.le_refl _)⟩
        · rw [HTK.out i hlt]
          exact (h1.below b3).snoc (by rw [HM.out]; exact own_base12 o3 hs)
        · intro u hu
          rcases List.mem_append.1 hu with hu | hu
          · exact ranged_mono (h3 u hu) (Nat.le_refl _) hs3
          · rw [List.mem_singleton] at hu; subst hu
            exact ranged_mono (own_ranged o3) (by omega) (Nat.le_refl _))
      have HST := hidden (hown3.stored i (.slice (some ⟨g, 0, none⟩) m m))
      have HRS : Hid ((V ++ List.replicate (n - i) (Value.slice none 0 0)).set i (.slice (some ⟨g, 0, none⟩) m m) = (V ++ [Value.slice (some ⟨g, 0, none⟩) m m]) ++ List.replicate (n - (i + 1)) (.slice none 0 0)) := hidden (repl_set12 V _ _ n i HV.out.2.1 hlt)
      rw [HRS.out] at HST
      have hcur : ∃ u, (V ++ List.replicate (n - i) (Value.slice none 0 0))[i]? = some u := ⟨_, List.getElem?_eq_getElem (by rw [List.length_append, HV.out.2.1, List.length_replicate]; omega)⟩
      obtain ⟨cu, hcu⟩ := hcur
      rw [hcu] at d0
      have HB3 := hidden hb3
      have HO3 := hidden hown3
      clear hown3 o3 b3 hb3 hcu hb K2
      have HV5 : Hid (RowsAt (w3.setCell ⟨w.heap.size, i, none⟩ (.slice (some ⟨g, 0, none⟩) m m)) w.heap.size (V ++ [Value.slice (some ⟨g, 0, none⟩) m m]) (T.take (i + 1))) := hidden (by
        have h9 := HST.out.2
        exact RowsAt.grown HV2.out.1 HO3.out h9)
      have hsz5 : (w3.setCell ⟨w.heap.size, i, none⟩ (.slice (some ⟨g, 0, none⟩) m m)).heap.size = w3.heap.size := by simp
      go_wp2
      go_roundw
      case rel => exact ⟨i + 1, _, by omega, by go_num, HST.out.1, hidden ⟨HV5.out, HV2.out.2.1, (by rw [hsz5]; exact HV2.out.2.2.1), HV2.out.2.2.2⟩, HB3.out.setCell (Nat.le_refl _) _, by rw [hsz5]; omega⟩
      case measure => simp [intOf]; omega
    · obtain rfl : i = n := by omega
      obtain ⟨h1, h2, h3, h4⟩ := HV.out
      rw [Nat.sub_self, List.replicate_zero, List.append_nil] at hown
      have hT : T.take i = T := List.take_of_length_le (by rw [HN.out]; exact Nat.le_refl _)
      rw [hT] at h1
      have hres : OwnT wr w.heap.size wr.heap.size (.slice (some ⟨w.heap.size, 0, none⟩) i i) V T := by
        refine ⟨by rw [HN.out]; exact hown, h1, own_ranged hown, fun u hu => ranged_mono (h3 u hu) (by omega) (Nat.le_refl _), fun a b hab hb => h4 a b hab (by have := HN.out; omega)⟩
      have HRES := hidden hres
      clear h1 h2 h3 h4 hown hres hT HV
      go_wp2
      go_ret
      exact ⟨_, V, rfl, HRES.out, hb⟩
theorem eqTable_any (a a2 : Option Addr) (cap cap2 B : Nat) (z y : List Int) (w : World) (hz : Ints w B a z) (hy : Ints w B a2 y) (hB : B ≤ w.heap.size) :
    Calls Try.prog 60 #[.agg #[.slice a z.length cap], .agg #[.slice a2 y.length cap2]] w fun e w' => e = .returned (.bool (decide (z = y))) ∧ Below w.heap.size w w' := by
  have K := hidden (fun (W : World) (h : Ints W B a z) (h2 : Ints W B a2 y) => eqIntS_any a a2 cap cap2 B z y W h h2)
  have HZ := hidden hz
  have HY := hidden hy
  obtain ⟨n, hn⟩ : ∃ n, z.length = n := ⟨_, rfl⟩
  obtain ⟨m, hm⟩ : ∃ m, y.length = m := ⟨_, rfl⟩
  obtain ⟨r, hr⟩ : ∃ r, decide (z = y) = r := ⟨_, rfl⟩
  rw [hn, hm, hr] at K
  rw [hn, hm, hr]
  clear hz hy hn hm hr
  have b0 : Below w.heap.size w ((w.alloc (.cells #[.slice a n cap] 65)).alloc (.cells #[.slice a2 m cap2] 65)) := ((Below.refl _ _).alloc (Nat.le_refl _) _).alloc (by simp) _
  cases r with
  | true =>
    go_enter Try.func60, Try.ntmps60
    go_wp2_with fail
    refine (K.out _ (HZ.out.below (b0.mono hB)) (HY.out.below (b0.mono hB))).mono ?_
    rintro e w1 ⟨rfl, b1⟩
    have hb := bel_then b1 b0.size b0
    go_wp2
    go_ret
    exact ⟨rfl, hb⟩
  | false =>
    go_enter Try.func60, Try.ntmps60
    go_wp2_with fail
    refine (K.out _ (HZ.out.below (b0.mono hB)) (HY.out.below (b0.mono hB))).mono ?_
    rintro e w1 ⟨rfl, b1⟩
    have hb := bel_then b1 b0.size b0
    go_wp2
    go_ret
    exact ⟨rfl, hb⟩
set_option maxHeartbeats 4000000 in
set_option maxRecDepth 100000 in
/-- Tables read at two places are the same. -/
theorem eqTableS_any (a a2 : Option Addr) (cap cap2 B : Nat) (T : List (List Int)) (w : World) (hz : Tabs w B a T) (hy : Tabs w B a2 T) (hB : B ≤ w.heap.size) :
    Calls Try.prog 19 #[.slice a T.length cap, .slice a2 T.length cap2] w fun e w' => e = .returned (.bool true) ∧ Below w.heap.size w w' := by
  have hl := hz.1
  have HZ := hidden hz
  have HY := hidden hy
  obtain ⟨n, hn⟩ : ∃ n, T.length = n := ⟨_, rfl⟩
  have HN := hidden hn
  rw [hn] at hl ⊢
  clear hz hy hn
  have hne : ((n : Int) != (n : Int)) = false := by simp
  go_enter Try.func19, Try.ntmps19
  go_wp2
  go_loopw [5] (fun si wr => ∃ i : Nat, i ≤ n ∧ si = .int .i64 i ∧ Below w.heap.size w wr) (fun si _ => n - (intOf si).toNat)
  case atStart => exact ⟨0, Nat.zero_le _, rfl, Below.refl _ _⟩
  case round =>
    obtain ⟨i, hi, rfl, hb⟩ := hrel
    by_cases hlt : i < n
    · obtain ⟨b, off, a3, c3, e1, hbl, ct, hct, zk⟩ := (HZ.out.below (hb.mono hB)).at (i := i) (by rw [HN.out]; exact hlt)
      obtain ⟨b2, off2, a4, c4, e2, hbl2, ct2, hct2, yk⟩ := (HY.out.below (hb.mono hB)).at (i := i) (by rw [HN.out]; exact hlt)
      subst e1 e2
      have hBr : B ≤ wr.heap.size := Nat.le_trans hB hb.size
      have K := hidden (fun W (h : Ints W B a3 (T.getD i [])) (h2 : Ints W B a4 (T.getD i [])) (hs : B ≤ W.heap.size) => eqTable_any a3 a4 c3 c4 B (T.getD i []) (T.getD i []) W h h2 hs)
      have he : decide (T.getD i [] = T.getD i []) = true := by simp
      rw [he] at K
      have hzk : Ints wr B a3 (T.getD i []) := zk
      have hyk : Ints wr B a4 (T.getD i []) := yk
      obtain ⟨m, hm⟩ : ∃ m, (T.getD i []).length = m := ⟨_, rfl⟩
      rw [hm] at ct ct2 K
      have q1 : b < wr.heap.size := by omega
      have q2 : b2 < wr.heap.size := by omega
      have m1 : (i : Int) < (n : Int) := by omega
      have m2 : (0 : Int) ≤ (i : Int) := by omega
      clear he hm zk yk hct hct2
      go_wp2
      go_region_held3 (fun w' => w'.cell? ⟨b, off + i, none⟩ = some (.slice a3 m c3) ∧ w'.cell? ⟨b2, off2 + i, none⟩ = some (.slice a4 m c4)) (go_keep) (first | (go_at_call 60; (with_reducible refine (K.out _ ?h1 ?h2 ?h3).mono ?_); (case h1 => exact hzk); (case h2 => exact hyk); (case h3 => exact hBr); rintro e wp ⟨rfl, Bp⟩; have g1 := (Bp.cell (p := ⟨b, off + i, none⟩) q1).trans ct; have g2 := (Bp.cell (p := ⟨b2, off2 + i, none⟩) q2).trans ct2))
      all_goals
        have hbp : Below w.heap.size w wp := bel_then Bp hb.size ⟨hb.os, hb.tape, hb.output, hb.size, hb.block⟩
        clear Bp g1 g2 hb
        go_wp2
        exact ⟨⟨i + 1, by omega, by go_num, hbp⟩, by simp [intOf]; omega⟩
    · obtain rfl : i = n := by omega
      go_wp2
      go_ret
      exact ⟨rfl, hb⟩
theorem apart_sym {x y : Value} (h : x.ownBlock = none ∨ x.ownBlock ≠ y.ownBlock) : y.ownBlock = none ∨ y.ownBlock ≠ x.ownBlock := by
  cases e : y.ownBlock with
  | none => exact .inl rfl
  | some k =>
    refine .inr fun e2 => ?_
    rcases h with h | h
    · rw [h] at e2; cases e2
    · exact h (by rw [← e2, e])
theorem OwnT.set {w w' : World} {lo hi i : Nat} {v : Value} {V : List Value} {T : List (List Int)} {z : List Int} (h : OwnT w lo hi v V T) (hi2 : i < T.length) (ho : w'.ownsRow lo 3 1 (V.getD i undef) z.length (intsV z)) (hg : w.grownBy w' (V.getD i undef).ownBlock) : OwnT w' lo hi v V (T.set i z) := by
  refine ⟨?_, ⟨by rw [List.length_set]; exact h.rows.1, fun j hj => ?_⟩, h.top, h.rng, fun a b hab hb => h.apart a b hab (by rw [List.length_set] at hb; exact hb)⟩
  · rw [List.length_set]
    refine own_grown12 h.own hg fun g h1 e => ?_
    exact own_types h.own (h.rows.2 i hi2) (by decide) h1 e
  · rw [List.length_set] at hj
    by_cases e : j = i
    · subst e
      have e2 : (T.set j z).getD j [] = z := by simp [List.getD_eq_getElem?_getD, hj]
      rw [e2]; exact ho
    · have e2 : (T.set i z).getD j [] = T.getD j [] := by simp [List.getD_eq_getElem?_getD, List.getElem?_set, Ne.symm e]
      rw [e2]
      refine (h.rows.2 j hj).kept hg ?_
      rcases Nat.lt_or_ge j i with hl | hl
      · exact h.apart j i hl hi2
      · exact apart_sym (h.apart i j (by omega) hj)
theorem upTi_succ (k : Nat) (T : List (List Int)) (i : Nat) (h : i < T.length) : upTi k T (i + 1) = (upTi k T i).set i (upFrom (k + sumT T i) (T.getD i []).length) := by
  apply List.ext_getElem (by rw [List.length_set, upTi_len, upTi_len])
  intro j h1 h2
  rw [upTi_len] at h1
  have a1 := upTi_get k T (i + 1) j h1
  have a2 := upTi_get k T i j h1
  rw [List.getD_eq_getElem?_getD, List.getElem?_eq_getElem (by rw [upTi_len]; exact h1), Option.getD_some] at a1 a2
  rw [a1, List.getElem_set, a2]
  by_cases e : i = j
  · subst e; simp
  · have : (j < i + 1) = (j < i) := by simp; omega
    simp [e, this]
set_option maxHeartbeats 4000000 in
set_option maxRecDepth 100000 in
theorem markTableS_any (lo hi k : Nat) (v : Value) (V : List Value) (T : List (List Int)) (w : World) (h : OwnT w lo hi v V T) (hlen : T.length ≤ 1048576) (hsum : sumT T T.length ≤ 1048576) (hk : k ≤ 100000000) :
    Calls Try.prog 22 #[v, .int .i64 k] w fun e w' => e = .returned (.int .i64 ((k + sumT T T.length : Nat) : Int)) ∧ OwnT w' lo hi v V (upT k T) ∧ ByRows V w w' := by
  obtain ⟨n, hn⟩ : ∃ n, T.length = n := ⟨_, rfl⟩
  obtain ⟨a, c, hv, hc⟩ := h.form
  subst hv
  have H0 := hidden h
  have HN := hidden hn
  have HS : Hid (∀ i, i < n → sumT T i + (T.getD i []).length ≤ sumT T n) := hidden (fun i hi => sumT_mono T (i := i + 1) (j := n) hi)
  have HST : Hid (∀ i, sumT T (i + 1) = sumT T i + (T.getD i []).length) := hidden (fun i => rfl)
  rw [hn] at hlen hsum hc ⊢
  have HUA : Hid (upTi k T n = upT k T) := hidden (by rw [← hn]; exact upTi_all k T)
  have HVL : Hid (V.length = n) := hidden (by rw [← hn]; exact h.rows.1)
  obtain ⟨s, hs⟩ : ∃ s, sumT T n = s := ⟨_, rfl⟩
  rw [hs] at hsum HS ⊢
  have HSn := hidden hs
  clear h hn hs
  go_enter Try.func22, Try.ntmps22
  go_wp2
  go_loopw [1, 5] (fun sk si wr => ∃ i q : Nat, i ≤ n ∧ si = .int .i64 i ∧ sk = .int .i64 (q : Int) ∧ Hid (q = k + sumT T i) ∧ Hid (OwnT wr lo hi (.slice a n c) V (upTi k T i)) ∧ Hid (ByRows V w wr)) (fun _ si _ => n - (intOf si).toNat)
  case atStart => exact ⟨0, k, Nat.zero_le _, rfl, rfl, hidden rfl, hidden (by have := H0.out; rw [HN.out] at this; rw [upTi_zero]; exact this), hidden (ByRows.refl _ _)⟩
  case round =>
    obtain ⟨i, q, hi2, rfl, rfl, HQ, HO, HB⟩ := hrel
    by_cases hlt : i < n
    · have hRow := HO.out.rows.2 i (by rw [upTi_len, HN.out]; exact hlt)
      rw [upTi_get k T i i (by rw [HN.out]; exact hlt), if_neg (Nat.lt_irrefl _)] at hRow
      obtain ⟨g, b3, m3, e1, hcell, hVi, hgl⟩ := HO.out.cell (i := i) (by rw [upTi_len, HN.out]; exact hlt)
      rw [upTi_get k T i i (by rw [HN.out]; exact hlt), if_neg (Nat.lt_irrefl _)] at hcell hVi
      subst e1
      have hsi := HS.out i hlt
      have hst := HST.out i
      have hus := upTi_succ k T i (by rw [HN.out]; exact hlt)
      rw [← HQ.out] at hus
      have HQ2 : Hid (q + (T.getD i []).length = k + sumT T (i + 1)) := hidden (by rw [hst, HQ.out]; omega)
      have hq := HQ.out
      have HVI := hidden hVi
      obtain ⟨m, hm⟩ : ∃ m, (T.getD i []).length = m := ⟨_, rfl⟩
      have K := hidden (markIntS_any lo q m _ _ wr (by rw [← hm]; exact hRow) (by omega) (by omega))
      rw [hVi, hm] at K
      rw [hm] at hcell hVi hus HQ2 hsi
      have HUS := hidden hus
      have HM := hidden hm
      clear hus hm hRow hst hq
      go_wp2_with fail
      refine K.out.mono ?_
      rintro e w1 ⟨rfl, o1, g1⟩
      have HO2 : Hid (OwnT w1 lo hi (.slice (some ⟨g, 0, none⟩) n c) V (upTi k T (i + 1))) := hidden (by
        rw [HUS.out]
        refine HO.out.set (by rw [upTi_len, HN.out]; exact hlt) ?_ (by rw [hVi]; exact g1)
        rw [hVi, upFrom_len]; exact o1)
      have HB2 : Hid (ByRows V w w1) := hidden (HB.out.grown g1 (by rw [← hVi]; exact getD_memV (by rw [HVL.out]; exact hlt)))
      clear o1 g1 hVi
      go_wp2
      go_roundw
      case rel => exact ⟨i + 1, q + m, by omega, by go_num, rfl, HQ2, HO2, HB2⟩
      case measure => simp [intOf]; omega
    · obtain rfl : i = n := by omega
      have HO2 : Hid (OwnT wr lo hi (.slice a i c) V (upT k T)) := hidden (by rw [← HUA.out]; exact HO.out)
      have HQ2 : Hid ((q : Int) = ((k + s : Nat) : Int)) := hidden (by rw [HQ.out, HSn.out])
      go_wp2
      go_ret
      exact ⟨ret_int HQ2.out, HO2.out, HB.out⟩
theorem OwnT.formM {w : World} {lo hi m : Nat} {v : Value} {V : List Value} {T : List (List Int)} (h : OwnT w lo hi v V T) (hm : T.length = m) : ∃ a c, v = .slice a m c ∧ m ≤ c := by
  subst hm; exact h.form
theorem toTab_e {n : Nat} (a : Option Addr) (cap : Nat) (T : List (List Int)) (w0 w : World) (hn : T.length = n) (hz : Tabs w0 w0.heap.size a T) (B : Below w0.heap.size w0 w) (hlen : n ≤ 1048576) (hf : FitT T) :
    Calls Try.prog 27 #[.slice a n cap] w fun e w' => ∃ g V, e = .returned (.slice (some ⟨g, 0, none⟩) n n) ∧ OwnT w' w.heap.size w'.heap.size (.slice (some ⟨g, 0, none⟩) n n) V T ∧ Below w.heap.size w w' := by
  subst hn
  exact toTableS_any a cap w0.heap.size T w (hz.below B) B.size hlen (fun i hi => (hf i hi).1)
theorem eqTab_e {n : Nat} (p q : Option Addr) (c c2 : Nat) (T : List (List Int)) (w : World) (hn : T.length = n) (hz : Tabs w w.heap.size p T) (hy : Tabs w w.heap.size q T) :
    Calls Try.prog 19 #[.slice p n c, .slice q n c2] w fun e w' => e = .returned (.bool true) ∧ Below w.heap.size w w' := by
  subst hn
  exact eqTableS_any p q c c2 w.heap.size T w hz hy (Nat.le_refl _)
theorem markTab_e {k su : Nat} (lo hi : Nat) (v : Value) (V : List Value) (T : List (List Int)) (w : World) (h : OwnT w lo hi v V T) (hlen : T.length ≤ 1048576) (hs : sumT T T.length = su) (hsu : su ≤ 1048576) (hk : k ≤ 100000000) (x : Int) (hx : x = (k : Int)) :
    Calls Try.prog 22 #[v, .int .i64 x] w fun e w' => e = .returned (.int .i64 (x + (su : Int))) ∧ OwnT w' lo hi v V (upT k T) ∧ ByRows V w w' := by
  subst hx hs
  refine (markTableS_any lo hi k v V T w h hlen hsu hk).mono ?_
  rintro e w' ⟨rfl, h1, h2⟩
  exact ⟨by simp, h1, h2⟩
set_option maxHeartbeats 4000000 in
set_option maxRecDepth 100000 in
theorem heldTableS_any (lo hi k : Nat) (v : Value) (V : List Value) (T : List (List Int)) (w : World) (h : OwnT w lo hi v V (upT k T)) (hlen : T.length ≤ 1048576) (hsum : sumT T T.length ≤ 1048576) (hk : k ≤ 100000000) :
    Calls Try.prog 23 #[v, .int .i64 k] w fun e w' => e = .returned (.int .i64 ((k + sumT T T.length : Nat) : Int)) ∧ w = w' := by
  obtain ⟨n, hn⟩ : ∃ n, T.length = n := ⟨_, rfl⟩
  obtain ⟨a, c, hv, hc⟩ := h.form
  subst hv
  rw [upT_len, hn] at h hc
  have H0 := hidden h
  have HN := hidden hn
  have HS : Hid (∀ i, i < n → sumT T i + (T.getD i []).length ≤ sumT T n) := hidden (fun i hi => sumT_mono T (i := i + 1) (j := n) hi)
  have HST : Hid (∀ i, sumT T (i + 1) = sumT T i + (T.getD i []).length) := hidden (fun i => rfl)
  rw [upT_len]
  rw [hn] at hlen hsum ⊢
  obtain ⟨s, hs⟩ : ∃ s, sumT T n = s := ⟨_, rfl⟩
  rw [hs] at hsum HS ⊢
  have HSn := hidden hs
  clear h hn hs
  go_enter Try.func23, Try.ntmps23
  go_wp2
  go_loop [1, 5] (fun sk si => ∃ i q : Nat, i ≤ n ∧ si = .int .i64 i ∧ sk = .int .i64 (q : Int) ∧ Hid (q = k + sumT T i)) (fun _ si => n - (intOf si).toNat)
  case atStart => exact ⟨0, k, Nat.zero_le _, rfl, rfl, hidden rfl⟩
  case round =>
    obtain ⟨i, q, hi2, rfl, rfl, HQ⟩ := hrel
    by_cases hlt : i < n
    · have hRow := H0.out.rows.2 i (by rw [upT_len, HN.out]; exact hlt)
      obtain ⟨g, b3, m3, e1, hcell, hVi, hgl⟩ := H0.out.cell (i := i) (by rw [upT_len, HN.out]; exact hlt)
      rw [upT_get k T i (by rw [HN.out]; exact hlt), upFrom_len, ← HQ.out] at hRow
      rw [upT_get k T i (by rw [HN.out]; exact hlt), upFrom_len] at hcell hVi
      subst e1
      have hsi := HS.out i hlt
      have hst := HST.out i
      have HQ2 : Hid (q + (T.getD i []).length = k + sumT T (i + 1)) := hidden (by rw [hst, HQ.out]; omega)
      have hq := HQ.out
      obtain ⟨m, hm⟩ : ∃ m, (T.getD i []).length = m := ⟨_, rfl⟩
      rw [hVi, hm] at hRow
      have hI := (Ints.ofOwn hRow (by omega) (fun x hx => by
        obtain ⟨j, hj, e⟩ := mem_getD hx
        rw [upFrom_len] at hj
        rw [upFrom_get q m j hj] at e
        omega)).2
      have K := hidden (heldIntS_any b3 m3 _ q m w hI (by omega) (by omega))
      rw [hm] at hcell HQ2 hsi
      clear hm hRow hst hq hVi hI
      go_wp2_with fail
      refine K.out.mono ?_
      rintro e w1 ⟨rfl, rfl⟩
      have hq0 : ¬ ((q + m : Nat) : Int) < 0 := by omega
      go_wp2
      go_round
      case rel => exact ⟨i + 1, q + m, by omega, by go_num, rfl, HQ2⟩
      case measure => simp [intOf]; omega
    · obtain rfl : i = n := by omega
      have HQ2 : Hid ((q : Int) = ((k + s : Nat) : Int)) := hidden (by rw [HQ.out, HSn.out])
      go_wp2
      go_ret
      exact ⟨ret_int HQ2.out, rfl⟩
theorem heldTab_e {k su : Nat} (lo hi : Nat) (v : Value) (V : List Value) (T : List (List Int)) (w : World) (h : OwnT w lo hi v V (upT k T)) (hlen : T.length ≤ 1048576) (hs : sumT T T.length = su) (hsu : su ≤ 1048576) (hk : k ≤ 100000000) (x : Int) (hx : x = (k : Int)) :
    Calls Try.prog 23 #[v, .int .i64 x] w fun e w' => e = .returned (.int .i64 (x + (su : Int))) ∧ w = w' := by
  subst hx hs
  refine (heldTableS_any lo hi k v V T w h hlen hsu hk).mono ?_
  rintro e w' ⟨rfl, h1⟩
  exact ⟨by simp, h1⟩
theorem own_fit {V : List Value} {x : Value} {w w' : World} {base n : Nat} {xs : List Value} {e : TypeId} {lo hi l2 h2 : Nat} (h : w.ownsRow base e 1 x n xs) (hb : ByRows V w w') (q : Ranged x lo hi) (r : ∀ u ∈ V, Ranged u l2 h2) (hr : hi ≤ l2 ∨ h2 ≤ lo) : w'.ownsRow base e 1 x n xs :=
  own_byrows h hb (fun u hu => ranged_ne q (r u hu) hr)
theorem has_fit {w w' : World} {g : Nat} {t : TypeId} {cs : Array Value} {V : List Value} {l2 h2 : Nat} (h : Has w g t cs) (hb : ByRows V w w') (r : ∀ u ∈ V, Ranged u l2 h2) (hg : g < l2 ∨ h2 ≤ g) : Has w' g t cs :=
  has_byrows h hb (fun u hu e => by have := r u hu g e; omega)
theorem sumT_sumR {T : List (List Int)} {R : Nat → Option Addr × Nat × Nat × List Int} {len : Nat} (h : ∀ i, i < len → (T.getD i []).length = (R i).2.1) : ∀ n, n ≤ len → sumT T n = sumR R n
  | 0, _ => rfl
  | n + 1, hn => by
    show sumT T n + (T.getD n []).length = sumR R n + (R n).2.1
    rw [sumT_sumR h n (by omega), h n (by omega)]
theorem apart_ty {w : World} {b1 b2 s1 s2 n1 n2 : Nat} {e1 e2 : TypeId} {v1 v2 : Value} {xs ys : List Value} (h : w.ownsRow b1 e1 s1 v1 n1 xs) (h' : w.ownsRow b2 e2 s2 v2 n2 ys) (hne : e1 ≠ e2 := by decide) : v1.ownBlock = none ∨ v1.ownBlock ≠ v2.ownBlock := by
  cases e : v1.ownBlock with
  | none => exact .inl rfl
  | some g => exact .inr fun e2 => own_types h h' hne e e2.symm
end Go.Proofs.Ytaaahmfkdiogkaa
namespace Go.Proofs.Ytaaahmfkdiogkaa
set_option linter.unusedVariables false
set_option linter.unusedSimpArgs false
open Go.RowKit Go.ChangeShapes Go.WideShapes Go.ChangeAt

/-- For all arguments in bounds the model and the program answer the same. -/
def MeetsGetSels : Prop := ∀ (s0 : ByteArray) (a0 : Int) (a1 : Int) (a2 : Int), s0.size ≤ 1048576 → -9223372036854775808 ≤ a0 → a0 ≤ 9223372036854775807 → -9223372036854775808 ≤ a1 → a1 ≤ 9223372036854775807 → -9223372036854775808 ≤ a2 → a2 ≤ 9223372036854775807 → ∃ (y0 : List Int) (t1 : ByteArray) (r1 : Int) (r2 : Bool), (y0.length ≤ 1048576 ∧ ∀ x ∈ y0, -9223372036854775808 ≤ x ∧ x ≤ 9223372036854775807) ∧ (∀ (W : World), Calls Try.prog 33 #[.agg #[.string s0, .int .i64 a0], .int .i64 a1, .int .i64 a2] W fun e w' => ∃ v0, e = .returned (.tuple #[v0, .agg #[.string t1, .int .i64 r1], .bool r2]) ∧ w'.ownsRow W.heap.size 3 1 v0 y0.length (intsV y0) ∧ Below W.heap.size W w') ∧ (∀ (W : World), Calls Try.prog 35 #[.agg #[.string s0, .int .i64 a0], .int .i64 a1, .int .i64 a2] W fun e w' => ∃ v0, e = .returned (.tuple #[v0, .agg #[.string t1, .int .i64 r1], .bool r2]) ∧ w'.ownsRow W.heap.size 3 1 v0 y0.length (intsV y0) ∧ Below W.heap.size W w')
set_option maxHeartbeats 4000000 in
set_option maxRecDepth 100000 in
theorem in_FnExactGetSels (w : World) (s0 : ByteArray) (a0 : Int) (hb0 : s0.size ≤ 1048576) (b0 : -9223372036854775808 ≤ a0) (d0 : a0 ≤ 9223372036854775807) (a1 : Int) (b1 : -9223372036854775808 ≤ a1) (d1 : a1 ≤ 9223372036854775807) (a2 : Int) (b2 : -9223372036854775808 ≤ a2) (d2 : a2 ≤ 9223372036854775807) (y0 : List Int) (t1 : ByteArray) (r1 : Int) (r2 : Bool)
    (m0 : Nat) (HY0 : Hid (y0.length = m0)) (hm0 : m0 ≤ 1048576) (HR0 : Hid (∀ x ∈ y0, -9223372036854775808 ≤ x ∧ x ≤ 9223372036854775807))
    (KS : Hid (∀ (W : World), Calls Try.prog 33 #[.agg #[.string s0, .int .i64 a0], .int .i64 a1, .int .i64 a2] W fun e w' => ∃ v0, e = .returned (.tuple #[v0, .agg #[.string t1, .int .i64 r1], .bool r2]) ∧ w'.ownsRow W.heap.size 3 1 v0 m0 (intsV y0) ∧ Below W.heap.size W w'))
    (KI : Hid (∀ (W : World), Calls Try.prog 35 #[.agg #[.string s0, .int .i64 a0], .int .i64 a1, .int .i64 a2] W fun e w' => ∃ v0, e = .returned (.tuple #[v0, .agg #[.string t1, .int .i64 r1], .bool r2]) ∧ w'.ownsRow W.heap.size 3 1 v0 m0 (intsV y0) ∧ Below W.heap.size W w')) :
    Calls Try.prog 7 #[.agg #[.string s0, .int .i64 a0], .int .i64 a1, .int .i64 a2] w fun e w' => e = .returned (.bool true) ∧ Below w.heap.size w w' := by
  have hn0 : ¬ (1 : Int) + (m0 : Int) < 0 := by omega
  have hq0 : (1 : Int) + (m0 : Int) ≠ (1 : Int) + (m0 : Int) → False := fun h => h rfl
  go_enter Try.func7, Try.ntmps7
  obtain ⟨N1, hN1⟩ : ∃ N, N = (w.alloc (.cells #[.string s0, .int .i64 a0] 46)) := ⟨_, rfl⟩
  have hb1_ : Below w.heap.size w N1 := by rw [hN1]; exact (Below.refl _ _).alloc (Nat.le_refl _) _
  have HA : Hid (Has N1 w.heap.size 46 #[.string s0, .int .i64 a0]) := hidden (by rw [hN1]; exact Has.fresh _ _ _)
  have lHA := HA.out.lt
  go_wp2_with fail
  rw [← hN1]
  refine (szRd_ok s0 a0 1048576 N1 hb0 (Nat.le_refl _)).mono ?_
  rintro e W2 ⟨rfl, b2⟩
  clear hN1
  have B2 : Below w.heap.size w W2 := bel_then b2 hb1_.size hb1_
  have sB2 := b2.size
  have HA_2 := hidden (HA.out.below b2 HA.out.lt)
  clear HA
  clear b2
  have e2_HAa := HA_2.out.cell 0
  have e2_HAb := HA_2.out.cell 1
  simp at e2_HAa e2_HAb
  go_wp2_with fail
  refine (toRd_e s0 a0 W2).mono ?_
  rintro e W3 ⟨rfl, b3⟩
  clear e2_HAa e2_HAb
  have B3 : Below w.heap.size w W3 := bel_then b3 B2.size B2
  have sB3 := b3.size
  have HA_3 := hidden (HA_2.out.below b3 HA_2.out.lt)
  clear HA_2
  clear b3
  go_wp2_with fail
  refine (KS.out W3  ).mono ?_
  rintro e W4 ⟨v0_4, rfl, o0_4, b4⟩
  obtain ⟨gw0, cw0, rfl⟩ := own_form o0_4
  have B4 : Below w.heap.size w W4 := bel_then b4 B3.size B3
  have sB4 := b4.size
  have HA_4 := hidden (HA_3.out.below b4 HA_3.out.lt)
  clear HA_3
  have Yw0 := hidden o0_4
  have Qw0 := own_ranged o0_4
  clear o0_4
  clear b4
  have q5_HAa := HA_4.out.cell 0
  have q5_HAb := HA_4.out.cell 1
  have q5_HAl := HA_4.out.lt
  simp at q5_HAa q5_HAb
  have q5_HAn : ¬ w.heap.size = W4.heap.size := by omega
  obtain ⟨N5, hN5⟩ : ∃ N, N = (W4.alloc (.cells #[.string t1, .int .i64 r1] 48)) := ⟨_, rfl⟩
  have hb5_ : Below W4.heap.size W4 N5 := by rw [hN5]; exact (Below.refl _ _).alloc (Nat.le_refl _) _
  have Hw1 : Hid (Has N5 W4.heap.size 48 #[.string t1, .int .i64 r1]) := hidden (by rw [hN5]; exact Has.fresh _ _ _)
  have lHw1 := Hw1.out.lt
  have B5 : Below w.heap.size w N5 := bel_then hb5_ B4.size B4
  have sB5 := hb5_.size
  have HA_5 := hidden (HA_4.out.below hb5_ HA_4.out.lt)
  clear HA_4
  have Yw0_5 := hidden (own_bel Yw0.out hb5_)
  clear Yw0
  clear hb5_
  have e5_HAa := HA_5.out.cell 0
  have e5_HAb := HA_5.out.cell 1
  simp at e5_HAa e5_HAb
  go_wp2_with fail
  rw [← hN5]
  refine (toRd_e s0 a0 N5).mono ?_
  rintro e W6 ⟨rfl, b6⟩
  clear e5_HAa e5_HAb hN5 q5_HAa q5_HAb q5_HAl q5_HAn
  have B6 : Below w.heap.size w W6 := bel_then b6 B5.size B5
  have sB6 := b6.size
  have HA_6 := hidden (HA_5.out.below b6 HA_5.out.lt)
  clear HA_5
  have Yw0_6 := hidden (own_bel Yw0_5.out b6)
  clear Yw0_5
  have Hw1_6 := hidden (Hw1.out.below b6 Hw1.out.lt)
  clear Hw1
  clear b6
  go_wp2_with fail
  refine (KI.out W6  ).mono ?_
  rintro e W7 ⟨v0_7, rfl, o0_7, b7⟩
  obtain ⟨gg0, cg0, rfl⟩ := own_form o0_7
  have B7 : Below w.heap.size w W7 := bel_then b7 B6.size B6
  have sB7 := b7.size
  have HA_7 := hidden (HA_6.out.below b7 HA_6.out.lt)
  clear HA_6
  have Yw0_7 := hidden (own_bel Yw0_6.out b7)
  clear Yw0_6
  have Hw1_7 := hidden (Hw1_6.out.below b7 Hw1_6.out.lt)
  clear Hw1_6
  have Yg0 := hidden o0_7
  have Qg0 := own_ranged o0_7
  clear o0_7
  clear b7
  have q8_HAa := HA_7.out.cell 0
  have q8_HAb := HA_7.out.cell 1
  have q8_HAl := HA_7.out.lt
  simp at q8_HAa q8_HAb
  have q8_HAn : ¬ w.heap.size = W7.heap.size := by omega
  have q8_Hw1a := Hw1_7.out.cell 0
  have q8_Hw1b := Hw1_7.out.cell 1
  have q8_Hw1l := Hw1_7.out.lt
  simp at q8_Hw1a q8_Hw1b
  have q8_Hw1n : ¬ W4.heap.size = W7.heap.size := by omega
  obtain ⟨N8, hN8⟩ : ∃ N, N = (W7.alloc (.cells #[.string t1, .int .i64 r1] 48)) := ⟨_, rfl⟩
  have hb8_ : Below W7.heap.size W7 N8 := by rw [hN8]; exact (Below.refl _ _).alloc (Nat.le_refl _) _
  have Hg1 : Hid (Has N8 W7.heap.size 48 #[.string t1, .int .i64 r1]) := hidden (by rw [hN8]; exact Has.fresh _ _ _)
  have lHg1 := Hg1.out.lt
  have B8 : Below w.heap.size w N8 := bel_then hb8_ B7.size B7
  have sB8 := hb8_.size
  have HA_8 := hidden (HA_7.out.below hb8_ HA_7.out.lt)
  clear HA_7
  have Yw0_8 := hidden (own_bel Yw0_7.out hb8_)
  clear Yw0_7
  have Hw1_8 := hidden (Hw1_7.out.below hb8_ Hw1_7.out.lt)
  clear Hw1_7
  have Yg0_8 := hidden (own_bel Yg0.out hb8_)
  clear Yg0
  clear hb8_
  go_wp2_with fail
  rw [← hN8]
  refine (eq_e _ _ _ _ y0 N8 HY0.out (own_ints Yg0_8.out HR0.out hm0) (own_ints Yw0_8.out HR0.out hm0)).mono ?_
  rintro e W9 ⟨rfl, b9⟩
  clear hN8 q8_HAa q8_HAb q8_HAl q8_HAn q8_Hw1a q8_Hw1b q8_Hw1l q8_Hw1n
  have B9 : Below w.heap.size w W9 := bel_then b9 B8.size B8
  have sB9 := b9.size
  have HA_9 := hidden (HA_8.out.below b9 HA_8.out.lt)
  clear HA_8
  have Yw0_9 := hidden (own_bel Yw0_8.out b9)
  clear Yw0_8
  have Hw1_9 := hidden (Hw1_8.out.below b9 Hw1_8.out.lt)
  clear Hw1_8
  have Yg0_9 := hidden (own_bel Yg0_8.out b9)
  clear Yg0_8
  have Hg1_9 := hidden (Hg1.out.below b9 Hg1.out.lt)
  clear Hg1
  clear b9
  have e9_Hg1a := Hg1_9.out.cell 0
  have e9_Hg1b := Hg1_9.out.cell 1
  simp at e9_Hg1a e9_Hg1b
  have e9_Hw1a := Hw1_9.out.cell 0
  have e9_Hw1b := Hw1_9.out.cell 1
  simp at e9_Hw1a e9_Hw1b
  go_wp2_with fail
  refine (eqRd_e t1 r1 W9).mono ?_
  rintro e W10 ⟨rfl, b10⟩
  clear e9_Hg1a e9_Hg1b e9_Hw1a e9_Hw1b
  have B10 : Below w.heap.size w W10 := bel_then b10 B9.size B9
  have sB10 := b10.size
  have HA_10 := hidden (HA_9.out.below b10 HA_9.out.lt)
  clear HA_9
  have Yw0_10 := hidden (own_bel Yw0_9.out b10)
  clear Yw0_9
  have Hw1_10 := hidden (Hw1_9.out.below b10 Hw1_9.out.lt)
  clear Hw1_9
  have Yg0_10 := hidden (own_bel Yg0_9.out b10)
  clear Yg0_9
  have Hg1_10 := hidden (Hg1_9.out.below b10 Hg1_9.out.lt)
  clear Hg1_9
  clear b10
  go_wp2_with fail
  refine (mark_e (k := 1) _ y0 W10 Yg0_10.out hm0 (by omega) _ (by simp)).mono ?_
  rintro e W11 ⟨rfl, o11, gr11⟩
  have B11 : Below w.heap.size w W11 := bel_grown B10 gr11 Qg0 (by omega)
  have sB11 := gr11.size
  have HA_11 := hidden (HA_10.out.grown gr11 (ranged_box Qg0 (by omega)))
  clear HA_10
  have Yw0_11 := hidden (Yw0_10.out.kept gr11 (ranged_ne Qw0 Qg0 (by omega)))
  clear Yw0_10
  have Hw1_11 := hidden (Hw1_10.out.grown gr11 (ranged_box Qg0 (by omega)))
  clear Hw1_10
  have Yg0_11 := hidden o11
  clear Yg0_10
  have Hg1_11 := hidden (Hg1_10.out.grown gr11 (ranged_box Qg0 (by omega)))
  clear Hg1_10
  clear o11 gr11
  go_wp2_with fail
  refine (held_e _ W11 Yg0_11.out hm0).mono ?_
  rintro e _ ⟨rfl, rfl⟩
  have e11_HAa := HA_11.out.cell 0
  have e11_HAb := HA_11.out.cell 1
  simp at e11_HAa e11_HAb
  go_wp2_with fail
  refine (toRd_e s0 a0 W11).mono ?_
  rintro e W12 ⟨rfl, b12⟩
  clear e11_HAa e11_HAb
  have B12 : Below w.heap.size w W12 := bel_then b12 B11.size B11
  have sB12 := b12.size
  have HA_12 := hidden (HA_11.out.below b12 HA_11.out.lt)
  clear HA_11
  have Yw0_12 := hidden (own_bel Yw0_11.out b12)
  clear Yw0_11
  have Hw1_12 := hidden (Hw1_11.out.below b12 Hw1_11.out.lt)
  clear Hw1_11
  have Yg0_12 := hidden (own_bel Yg0_11.out b12)
  clear Yg0_11
  have Hg1_12 := hidden (Hg1_11.out.below b12 Hg1_11.out.lt)
  clear Hg1_11
  clear b12
  go_wp2_with fail
  refine (KI.out W12  ).mono ?_
  rintro e W13 ⟨v0_13, rfl, o0_13, b13⟩
  obtain ⟨gh0, ch0, rfl⟩ := own_form o0_13
  have B13 : Below w.heap.size w W13 := bel_then b13 B12.size B12
  have sB13 := b13.size
  have HA_13 := hidden (HA_12.out.below b13 HA_12.out.lt)
  clear HA_12
  have Yw0_13 := hidden (own_bel Yw0_12.out b13)
  clear Yw0_12
  have Hw1_13 := hidden (Hw1_12.out.below b13 Hw1_12.out.lt)
  clear Hw1_12
  have Yg0_13 := hidden (own_bel Yg0_12.out b13)
  clear Yg0_12
  have Hg1_13 := hidden (Hg1_12.out.below b13 Hg1_12.out.lt)
  clear Hg1_12
  have Yh0 := hidden o0_13
  have Qh0 := own_ranged o0_13
  clear o0_13
  clear b13
  have q14_HAa := HA_13.out.cell 0
  have q14_HAb := HA_13.out.cell 1
  have q14_HAl := HA_13.out.lt
  simp at q14_HAa q14_HAb
  have q14_HAn : ¬ w.heap.size = W13.heap.size := by omega
  have q14_Hw1a := Hw1_13.out.cell 0
  have q14_Hw1b := Hw1_13.out.cell 1
  have q14_Hw1l := Hw1_13.out.lt
  simp at q14_Hw1a q14_Hw1b
  have q14_Hw1n : ¬ W4.heap.size = W13.heap.size := by omega
  have q14_Hg1a := Hg1_13.out.cell 0
  have q14_Hg1b := Hg1_13.out.cell 1
  have q14_Hg1l := Hg1_13.out.lt
  simp at q14_Hg1a q14_Hg1b
  have q14_Hg1n : ¬ W7.heap.size = W13.heap.size := by omega
  obtain ⟨N14, hN14⟩ : ∃ N, N = (W13.alloc (.cells #[.string t1, .int .i64 r1] 48)) := ⟨_, rfl⟩
  have hb14_ : Below W13.heap.size W13 N14 := by rw [hN14]; exact (Below.refl _ _).alloc (Nat.le_refl _) _
  have Hh1 : Hid (Has N14 W13.heap.size 48 #[.string t1, .int .i64 r1]) := hidden (by rw [hN14]; exact Has.fresh _ _ _)
  have lHh1 := Hh1.out.lt
  have B14 : Below w.heap.size w N14 := bel_then hb14_ B13.size B13
  have sB14 := hb14_.size
  have HA_14 := hidden (HA_13.out.below hb14_ HA_13.out.lt)
  clear HA_13
  have Yw0_14 := hidden (own_bel Yw0_13.out hb14_)
  clear Yw0_13
  have Hw1_14 := hidden (Hw1_13.out.below hb14_ Hw1_13.out.lt)
  clear Hw1_13
  have Yg0_14 := hidden (own_bel Yg0_13.out hb14_)
  clear Yg0_13
  have Hg1_14 := hidden (Hg1_13.out.below hb14_ Hg1_13.out.lt)
  clear Hg1_13
  have Yh0_14 := hidden (own_bel Yh0.out hb14_)
  clear Yh0
  clear hb14_
  go_wp2_with fail
  rw [← hN14]
  refine (eq_e _ _ _ _ y0 N14 HY0.out (own_ints Yh0_14.out HR0.out hm0) (own_ints Yw0_14.out HR0.out hm0)).mono ?_
  rintro e W15 ⟨rfl, b15⟩
  clear hN14 q14_HAa q14_HAb q14_HAl q14_HAn q14_Hw1a q14_Hw1b q14_Hw1l q14_Hw1n q14_Hg1a q14_Hg1b q14_Hg1l q14_Hg1n
  have B15 : Below w.heap.size w W15 := bel_then b15 B14.size B14
  have sB15 := b15.size
  have HA_15 := hidden (HA_14.out.below b15 HA_14.out.lt)
  clear HA_14
  have Yw0_15 := hidden (own_bel Yw0_14.out b15)
  clear Yw0_14
  have Hw1_15 := hidden (Hw1_14.out.below b15 Hw1_14.out.lt)
  clear Hw1_14
  have Yg0_15 := hidden (own_bel Yg0_14.out b15)
  clear Yg0_14
  have Hg1_15 := hidden (Hg1_14.out.below b15 Hg1_14.out.lt)
  clear Hg1_14
  have Yh0_15 := hidden (own_bel Yh0_14.out b15)
  clear Yh0_14
  have Hh1_15 := hidden (Hh1.out.below b15 Hh1.out.lt)
  clear Hh1
  clear b15
  have e15_Hh1a := Hh1_15.out.cell 0
  have e15_Hh1b := Hh1_15.out.cell 1
  simp at e15_Hh1a e15_Hh1b
  have e15_Hw1a := Hw1_15.out.cell 0
  have e15_Hw1b := Hw1_15.out.cell 1
  simp at e15_Hw1a e15_Hw1b
  go_wp2_with fail
  refine (eqRd_e t1 r1 W15).mono ?_
  rintro e W16 ⟨rfl, b16⟩
  clear e15_Hh1a e15_Hh1b e15_Hw1a e15_Hw1b
  have B16 : Below w.heap.size w W16 := bel_then b16 B15.size B15
  have sB16 := b16.size
  have HA_16 := hidden (HA_15.out.below b16 HA_15.out.lt)
  clear HA_15
  have Yw0_16 := hidden (own_bel Yw0_15.out b16)
  clear Yw0_15
  have Hw1_16 := hidden (Hw1_15.out.below b16 Hw1_15.out.lt)
  clear Hw1_15
  have Yg0_16 := hidden (own_bel Yg0_15.out b16)
  clear Yg0_15
  have Hg1_16 := hidden (Hg1_15.out.below b16 Hg1_15.out.lt)
  clear Hg1_15
  have Yh0_16 := hidden (own_bel Yh0_15.out b16)
  clear Yh0_15
  have Hh1_16 := hidden (Hh1_15.out.below b16 Hh1_15.out.lt)
  clear Hh1_15
  clear b16
  go_wp2_with fail
  refine (held_e _ W16 Yg0_16.out hm0).mono ?_
  rintro e _ ⟨rfl, rfl⟩
  go_wp2
  go_ret
  exact ⟨rfl, B16⟩
set_option maxRecDepth 100000 in
theorem walk_FnExactGetSels (hM : MeetsGetSels) (w : World) (s0 : ByteArray) (a0 : Int) (w0 : s0.size ≤ maxLen) (b0 : -9223372036854775808 ≤ a0) (d0 : a0 ≤ 9223372036854775807) (a1 : Int) (b1 : -9223372036854775808 ≤ a1) (d1 : a1 ≤ 9223372036854775807) (a2 : Int) (b2 : -9223372036854775808 ≤ a2) (d2 : a2 ≤ 9223372036854775807) :
    Calls Try.prog 7 #[.agg #[.string s0, .int .i64 a0], .int .i64 a1, .int .i64 a2] w fun e w' => e = .returned (.bool true) ∧ Below w.heap.size w w' := by
  by_cases hb0 : s0.size ≤ 1048576
  rotate_left
  · have hx : 1048576 < s0.size := by omega
    have c0 := (Has.fresh w 46 #[.string s0, .int .i64 a0]).cell 0
    have c1 := (Has.fresh w 46 #[.string s0, .int .i64 a0]).cell 1
    simp at c0 c1
    clear hM
    go_enter Try.func7, Try.ntmps7
    go_wp2_with fail
    refine (szRd_no s0 a0 1048576 _ hx w0 (Nat.le_refl _)).mono ?_
    rintro e w1 ⟨rfl, b1⟩
    go_wp2
    go_ret
    exact ⟨rfl, bel_then b1 (by simp) ((Below.refl _ _).alloc (Nat.le_refl _) _)⟩
  obtain ⟨y0, t1, r1, r2, ⟨hm0, hr0⟩, hs, hi⟩ := hM s0 a0 a1 a2 hb0 b0 d0 b1 d1 b2 d2
  exact in_FnExactGetSels w s0 a0 hb0 b0 d0 a1 b1 d1 a2 b2 d2 y0 t1 r1 r2 _ (hidden rfl) hm0 (hidden hr0) (hidden hs) (hidden hi)
end Go.Proofs.Ytaaahmfkdiogkaa
