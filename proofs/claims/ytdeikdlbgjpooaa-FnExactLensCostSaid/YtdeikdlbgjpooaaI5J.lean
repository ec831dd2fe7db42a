/- Chapter 5, the program: a scope with four labels; what holds at each of GetLens. -/
import Derived.Test.YtdeikdlbgjpooaaC5H
import Derived.Test.YtdeikdlbgjpooaaI3K
import Derived.Test.YtdeikdlbgjpooaaC1Get2
import Derived.WalkMore
import Derived.ScopeJumps
import Derived.Maps.AppendAt
namespace Go.Proofs.Ytdeikdlbgjpooaa
set_option linter.unusedVariables false
set_option linter.unusedSimpArgs false
open Go.RowKit

/-- As Q; by a goto: what is asked of the label. -/
def jumps (J : Nat → Act → World → Prop) (Q : Exit → Act → World → Prop) : Exit → Act → World → Prop
  | .goto l, a, w => J l a w
  | e, a, w => Q e a w
/-- At a smaller number. -/
def lower (J : Nat → Nat → Act → World → Prop) (g l : Nat) (a : Act) (w : World) : Prop := ∃ g', g' < g ∧ J g' l a w
/-- At some number. -/
def someGas (J : Nat → Nat → Act → World → Prop) (l : Nat) (a : Act) (w : World) : Prop := ∃ g, J g l a w
theorem lower_mk {J : Nat → Nat → Act → World → Prop} {g l : Nat} {a : Act} {w : World} (k : Nat) (h : k < g) (hj : J k l a w) : lower J g l a w := ⟨k, h, hj⟩
theorem jumps_mono {J J' : Nat → Act → World → Prop} {Q : Exit → Act → World → Prop} (h : ∀ l a w, J l a w → J' l a w) : ∀ e a w, jumps J Q e a w → jumps J' Q e a w := by
  intro e a w
  cases e <;> first | exact h _ _ _ | exact id
theorem jumps_low {J : Nat → Nat → Act → World → Prop} {Q : Exit → Act → World → Prop} {g g' : Nat} (h : g ≤ g') : ∀ e a w, jumps (lower J g) Q e a w → jumps (lower J g') Q e a w :=
  jumps_mono fun _ _ _ ⟨k, hk, hj⟩ => ⟨k, Nat.lt_of_lt_of_le hk h, hj⟩
theorem jumps_some {J : Nat → Nat → Act → World → Prop} {Q : Exit → Act → World → Prop} {g : Nat} : ∀ e a w, jumps (lower J g) Q e a w → jumps (someGas J) Q e a w :=
  jumps_mono fun _ _ _ ⟨k, _, hj⟩ => ⟨k, hj⟩

section
variable {P : Program} {a : Act} {w : World} {Q : Exit → Act → World → Prop}
/-- A scope in which the run jumps to any of its labels: what holds at each jump bears a number, which every stretch from a label to the next jump lowers. -/
theorem wp_scope_many {c : Code} (J : Nat → Nat → Act → World → Prop) (first : c.wp P (jumps (someGas J) Q) a w)
    (pass : ∀ g l a w, J g l a w → ∃ rest, findLabel c l = some rest ∧ rest.wp P (jumps (lower J g) Q) a w) : (Code.scope c).wp P Q a w := by
  intro b k cs
  have key : ∀ n l a w, J n l a w → ∃ rest, findLabel c l = some rest ∧ ∃ e a' w', Q e a' w' ∧ Arrives P (lone (b.at a (.code rest :: .inScope c :: k)) cs w) b k cs e a' w' := by
    intro n
    induction n using Nat.strongRecOn with
    | _ n ih =>
      intro l a w hJ
      obtain ⟨rest, hf, hp⟩ := pass n l a w hJ
      refine ⟨rest, hf, ?_⟩
      obtain ⟨e, a₁, w₁, hq, harr⟩ := hp b (.inScope c :: k) cs
      cases e with
      | normal => exact ⟨.normal, a₁, w₁, hq, Steps.trans harr (.one step_inScope)⟩
      | exit id => exact ⟨.exit id, a₁, w₁, hq, fun k' hk => harr k' (by simp [exitTo, hk])⟩
      | goto l' =>
        obtain ⟨m, hlt, hJ'⟩ := hq
        obtain ⟨rest', hf', e₂, a₂, w₂, hq₂, harr₂⟩ := ih m hlt l' a₁ w₁ hJ'
        exact ⟨e₂, a₂, w₂, hq₂, .of_steps (harr _ (by simp [gotoIn, hf'])) harr₂⟩
      | ret => exact ⟨_, a₁, w₁, hq, harr⟩
      | panic ch => exact ⟨_, a₁, w₁, hq, harr⟩
      | outgrown => exact ⟨_, a₁, w₁, hq, harr⟩
  obtain ⟨e, a₁, w₁, hq, harr⟩ := first b (.inScope c :: k) cs
  cases e with
  | normal => exact ⟨.normal, a₁, w₁, hq, .head step_scope (Steps.trans harr (.one step_inScope))⟩
  | exit id => exact ⟨.exit id, a₁, w₁, hq, fun k' hk => .head step_scope (harr k' (by simp [exitTo, hk]))⟩
  | goto l' =>
    obtain ⟨m, hJ'⟩ := hq
    obtain ⟨rest', hf', e₂, a₂, w₂, hq₂, harr₂⟩ := key m l' a₁ w₁ hJ'
    exact ⟨e₂, a₂, w₂, hq₂, .of_steps (.head step_scope (harr _ (by simp [gotoIn, hf']))) harr₂⟩
  | ret => exact ⟨_, a₁, w₁, hq, .of_steps (.one step_scope) harr⟩
  | panic ch => exact ⟨_, a₁, w₁, hq, .of_steps (.one step_scope) harr⟩
  | outgrown => exact ⟨_, a₁, w₁, hq, .of_steps (.one step_scope) harr⟩
/-- From label l on: whatever is asked behind it, out of what holds at the jumps. -/
def Walks (P : Program) (J : Nat → Nat → Act → World → Prop) (Q : Exit → Act → World → Prop) (r : Code) (l : Nat) : Prop :=
  ∀ g a w, J g l a w → ∀ Qx : Exit → Act → World → Prop, (∀ e a' w', jumps (lower J g) Q e a' w' → Qx e a' w') → r.wp P Qx a w
/-- Four labels; what lies behind one may be used where the run falls into it. -/
theorem wp_scope4 {c r0 r1 r2 r3 : Code} (J : Nat → Nat → Act → World → Prop) (f0 : findLabel c 0 = some (Code.skip.seq r0)) (f1 : findLabel c 1 = some (Code.skip.seq r1)) (f2 : findLabel c 2 = some (Code.skip.seq r2)) (f3 : findLabel c 3 = some (Code.skip.seq r3))
    (h0 : Walks P J Q r0 0) (h2 : Walks P J Q r2 2) (h3 : Hid (Walks P J Q r0 0) → Walks P J Q r3 3) (h1 : Hid (Walks P J Q r2 2) → Walks P J Q r1 1)
    (hf : Hid (Walks P J Q r1 1) → ∀ Qx : Exit → Act → World → Prop, (∀ e a' w', jumps (someGas J) Q e a' w' → Qx e a' w') → c.wp P Qx a w)
    (hJ : ∀ g l a w, J g l a w → l = 0 ∨ l = 1 ∨ l = 2 ∨ l = 3) : (Code.scope c).wp P Q a w := by
  refine wp_scope_many J (hf (h1 h2) _ fun _ _ _ h => h) fun g l a w hj => ?_
  rcases hJ g l a w hj with rfl | rfl | rfl | rfl
  · exact ⟨_, f0, wp_seq (wp_skip (h0 g a w hj _ fun _ _ _ h => h))⟩
  · exact ⟨_, f1, wp_seq (wp_skip (h1 h2 g a w hj _ fun _ _ _ h => h))⟩
  · exact ⟨_, f2, wp_seq (wp_skip (h2 g a w hj _ fun _ _ _ h => h))⟩
  · exact ⟨_, f3, wp_seq (wp_skip (h3 h0 g a w hj _ fun _ _ _ h => h))⟩
theorem to_jump {J : Nat → Nat → Act → World → Prop} {g l : Nat} {Qx : Exit → Act → World → Prop} (h : ∀ e a' w', jumps (lower J g) Q e a' w' → Qx e a' w') (k : Nat) (hk : k < g) (hj : J k l a w) : Qx (.goto l) a w := h _ _ _ ⟨k, hk, hj⟩
theorem to_ret {J : Nat → Act → World → Prop} {Qx : Exit → Act → World → Prop} (h : ∀ e a' w', jumps J Q e a' w' → Qx e a' w') (hj : Q .ret a w) : Qx .ret a w := h _ _ _ hj
theorem to_fall {J : Nat → Nat → Act → World → Prop} {g l : Nat} {r : Code} {Qx : Exit → Act → World → Prop} (h : ∀ e a' w', jumps (lower J g) Q e a' w' → Qx e a' w') (H : Hid (Walks P J Q r l)) (k : Nat) (hk : k ≤ g) (hj : J k l a w) : r.wp P Qx a w :=
  H k a w hj Qx fun e a' w' hq => h e a' w' (jumps_low hk e a' w' hq)
theorem to_fall_first {J : Nat → Nat → Act → World → Prop} {l : Nat} {r : Code} {Qx : Exit → Act → World → Prop} (h : ∀ e a' w', jumps (someGas J) Q e a' w' → Qx e a' w') (H : Hid (Walks P J Q r l)) (k : Nat) (hj : J k l a w) : r.wp P Qx a w :=
  H k a w hj Qx fun e a' w' hq => h e a' w' (jumps_some e a' w' hq)
end

/-- No lengths can be read. -/
def No5 (s : ByteArray) (at0 n : Nat) : Prop := ¬ ∃ (xs : List Nat) (c : Nat), reads5 s at0 n xs c
/-- The lengths xs are read; of the next one's steps those up to bit c, which have led to y. -/
def Mid5 (s : ByteArray) (at0 : Nat) (xs : List Nat) (c y : Nat) : Prop :=
  ∃ c0, StpL s (at0 + 5) (num (row s at0 5)) xs c0 ∧ ∀ x d, Stp s c0 (lastN (num (row s at0 5)) xs) x d ↔ Stp s c y x d
theorem Mid5.no {s : ByteArray} {at0 c y n : Nat} {xs : List Nat} (h : Mid5 s at0 xs c y) (hn : xs.length < n) (hno : ∀ x d, ¬ Stp s c y x d) : No5 s at0 n := by
  obtain ⟨c0, h1, h2⟩ := h
  have h3 := stpL_stop h1 hn (fun x d hx => hno x d ((h2 x d).1 hx))
  rintro ⟨ys, d, h4, h5, _⟩
  exact h3 ⟨ys, d, h4, h5.2⟩
theorem Mid5.low {s : ByteArray} {at0 c y n : Nat} {xs : List Nat} (h : Mid5 s at0 xs c y) (hn : xs.length < n) (hy : ¬ (1 ≤ y ∧ y ≤ 20)) : No5 s at0 n :=
  h.no hn fun x d hx => hy (stp_range hx)
theorem Mid5.room {s : ByteArray} {at0 c y n : Nat} {xs : List Nat} (h : Mid5 s at0 xs c y) (hn : xs.length < n) (hc : ¬ c + 1 ≤ 8 * s.size) : No5 s at0 n :=
  h.no hn fun x d hx => hc (stp_room hx)
theorem Mid5.room2 {s : ByteArray} {at0 c y n : Nat} {xs : List Nat} (h : Mid5 s at0 xs c y) (hn : xs.length < n) (hb : bit s c = 1) (hc : ¬ c + 2 ≤ 8 * s.size) : No5 s at0 n :=
  h.no hn fun x d hx => hc (stp_room2 hx hb)
theorem Mid5.up {s : ByteArray} {at0 c y : Nat} {xs : List Nat} (h : Mid5 s at0 xs c y) (hy : 1 ≤ y ∧ y ≤ 20) (hc : c + 2 ≤ 8 * s.size) (hb : bit s c = 1) (hb2 : bit s (c + 1) = 0) : Mid5 s at0 xs (c + 2) (y + 1) := by
  obtain ⟨c0, h1, h2⟩ := h
  exact ⟨c0, h1, fun x d => (h2 x d).trans (stp_up hy hc hb hb2)⟩
theorem Mid5.down {s : ByteArray} {at0 c y : Nat} {xs : List Nat} (h : Mid5 s at0 xs c y) (hy : 1 ≤ y ∧ y ≤ 20) (hc : c + 2 ≤ 8 * s.size) (hb : bit s c = 1) (hb2 : bit s (c + 1) = 1) : Mid5 s at0 xs (c + 2) (y - 1) := by
  obtain ⟨c0, h1, h2⟩ := h
  exact ⟨c0, h1, fun x d => (h2 x d).trans (stp_down hy hc hb hb2)⟩
theorem Mid5.stop {s : ByteArray} {at0 c y : Nat} {xs : List Nat} (h : Mid5 s at0 xs c y) (hy : 1 ≤ y ∧ y ≤ 20) (hc : c + 1 ≤ 8 * s.size) (hb : bit s c = 0) : StpL s (at0 + 5) (num (row s at0 5)) (xs ++ [y]) (c + 1) := by
  obtain ⟨c0, h1, h2⟩ := h
  exact h1.snoc ((h2 _ _).2 (.stop c y hy hc hb))
theorem Mid5.next {s : ByteArray} {at0 c y : Nat} {xs : List Nat} (h : StpL s (at0 + 5) (num (row s at0 5)) (xs ++ [y]) c) : Mid5 s at0 (xs ++ [y]) c y :=
  ⟨c, h, fun x d => by rw [lastN_snoc]⟩
theorem Mid5.first (s : ByteArray) (at0 : Nat) : Mid5 s at0 [] (at0 + 5) (num (row s at0 5)) := ⟨at0 + 5, .nil _ _, fun x d => Iff.rfl⟩

/-- What stays the same at every jump: the block of the answer's reader. -/
def Base5 (w w' : World) : Prop := Has w' (w.heap.size + 1) 35 #[.string ⟨#[]⟩, .int .i64 0] ∧ Below w.heap.size w w'
/-- The reader's block, the row read so far. -/
def Held5 (s : ByteArray) (w : World) (xs : List Nat) (c : Nat) (vl : Value) (w' : World) : Prop :=
  w'.ownsRow (w.heap.size + 2) 3 1 vl xs.length (natsL xs) ∧ Has w' w.heap.size 35 #[.string s, .int .i64 (c : Int)]
/-- What holds where the run jumps, by label: 0: nothing can be read; 1: the length has changed, or nothing is left; 2: the length is in its range; 3: its steps are over. -/
def Jump5 (s : ByteArray) (at0 n : Nat) (w : World) (gk : Nat) : Nat → Value → Value → Value → World → Prop
  | 0, _, _, _, w' => Base5 w w' ∧ No5 s at0 n
  | 1, vl, vx, vk, w' => Base5 w w' ∧ ((vk = .bool false ∧ gk = 1 ∧ No5 s at0 n) ∨
      (vk = .bool true ∧ ∃ (c y : Nat) (xs : List Nat), Mid5 s at0 xs c y ∧ xs.length < n ∧ y ≤ 31 ∧ c ≤ 8 * s.size ∧ gk = 3 * (8 * s.size - c) + 1 ∧ vx = .int .i64 y ∧ Held5 s w xs c vl w'))
  | 2, vl, vx, vk, w' => Base5 w w' ∧ ∃ (c y : Nat) (xs : List Nat), Mid5 s at0 xs c y ∧ xs.length < n ∧ (1 ≤ y ∧ y ≤ 20) ∧ c ≤ 8 * s.size ∧ gk = 3 * (8 * s.size - c) + 1 ∧ vx = .int .i64 y ∧ Held5 s w xs c vl w'
  | 3, vl, vx, vk, w' => Base5 w w' ∧ ∃ (c y : Nat) (xs : List Nat), StpL s (at0 + 5) (num (row s at0 5)) (xs ++ [y]) c ∧ xs.length < n ∧ (1 ≤ y ∧ y ≤ 20) ∧ c ≤ 8 * s.size ∧ gk = 3 * (8 * s.size - c) + 2 ∧ vx = .int .i64 y ∧ Held5 s w xs c vl w'
  | _, _, _, _, _ => False
theorem Held5.call {s : ByteArray} {w wr w2 : World} {xs : List Nat} {c : Nat} {vl : Value} (h : Held5 s w xs c vl wr) (b2 : Below wr.heap.size wr w2) : Held5 s w xs c vl w2 :=
  ⟨own_bel h.1 b2, h.2.below b2 h.2.lt⟩
theorem Base5.call {w wr w2 : World} (h : Base5 w wr) (b2 : Below wr.heap.size wr w2) : Base5 w w2 :=
  ⟨h.1.below b2 h.1.lt, bel_then b2 h.2.size h.2⟩
theorem Held5.put {s : ByteArray} {w wr : World} {xs : List Nat} {c : Nat} {vl : Value} (h : Held5 s w xs c vl wr) (d : Nat) :
    Held5 s w xs d vl ((wr.setCell ⟨w.heap.size, 0, none⟩ (.string s)).setCell ⟨w.heap.size, 1, none⟩ (.int .i64 (d : Int))) := by
  have h2 := (h.2.store 0 (.string s)).store 1 (.int .i64 (d : Int))
  simp at h2
  exact ⟨own_away (own_away h.1 (by simp) _) (by simp) _, h2⟩
theorem Base5.put {w wr : World} (h : Base5 w wr) (u v : Value) : Base5 w ((wr.setCell ⟨w.heap.size, 0, none⟩ u).setCell ⟨w.heap.size, 1, none⟩ v) :=
  ⟨(h.1.storeAway (by simp) _).storeAway (by simp) _, (h.2.setCell (Nat.le_refl _) _).setCell (Nat.le_refl _) _⟩
theorem Held5.cells {s : ByteArray} {w wr : World} {xs : List Nat} {c : Nat} {vl : Value} (h : Held5 s w xs c vl wr) :
    wr.cell? ⟨w.heap.size, 0, none⟩ = some (.string s) ∧ wr.cell? ⟨w.heap.size, 1, none⟩ = some (.int .i64 (c : Int)) ∧ wr.frozen? ⟨w.heap.size, 0, none⟩ = false ∧ wr.frozen? ⟨w.heap.size, 1, none⟩ = false := by
  have e0 := h.2.cell 0
  have e1 := h.2.cell 1
  simp at e0 e1
  exact ⟨e0, e1, h.2.free 0, h.2.free 1⟩
theorem Base5.cells {w wr : World} (h : Base5 w wr) :
    wr.cell? ⟨w.heap.size + 1, 0, none⟩ = some (.string ⟨#[]⟩) ∧ wr.cell? ⟨w.heap.size + 1, 1, none⟩ = some (.int .i64 0) ∧ wr.frozen? ⟨w.heap.size + 1, 0, none⟩ = false ∧ wr.frozen? ⟨w.heap.size + 1, 1, none⟩ = false := by
  have e0 := h.1.cell 0
  have e1 := h.1.cell 1
  simp at e0 e1
  exact ⟨e0, e1, h.1.free 0, h.1.free 1⟩
theorem stpL_room {s : ByteArray} {a now c : Nat} {zs : List Nat} (h : StpL s a now zs c) (hz : 0 < zs.length) : a + 1 ≤ 8 * s.size := by
  cases h with
  | nil => simp at hz
  | cons => exact stp_room (by assumption)
theorem end5_yes {s : ByteArray} {at0 n c : Nat} {zs : List Nat} (h : StpL s (at0 + 5) (num (row s at0 5)) zs c) (hl : zs.length = n) (hn : 1 ≤ n) (hok : lOk (iL zs) = true) : reads5 s at0 n zs c :=
  ⟨hl, ⟨by have := stpL_room h (by omega); omega, h⟩, hok⟩
theorem end5_no {s : ByteArray} {at0 n c : Nat} {zs : List Nat} (h : StpL s (at0 + 5) (num (row s at0 5)) zs c) (hl : zs.length = n) (hok : lOk (iL zs) = false) : No5 s at0 n := by
  rintro ⟨ys, d, h1, h2, h3⟩
  have e := (h.one h2.2 (by omega)).1
  subst e
  rw [hok] at h3; exact absurd h3 (by decide)
theorem stpL_ints {s : ByteArray} {a now c : Nat} {zs : List Nat} (h : StpL s a now zs c) : ∀ x ∈ iL zs, -9223372036854775808 ≤ x ∧ x ≤ 9223372036854775807 := fun x hx => by
  simp only [iL, List.mem_map] at hx
  obtain ⟨q, hq, rfl⟩ := hx
  have := h.range q hq
  omega
theorem Held5.mk1 {s : ByteArray} {w wr : World} {xs : List Nat} {c y : Nat} {vl : Value} (h1 : wr.ownsRow (w.heap.size + 2) 3 1 vl (xs.length + 1) (natsL xs ++ [.int .i64 (y : Int)])) (h2 : Has wr w.heap.size 35 #[.string s, .int .i64 (c : Int)]) : Held5 s w (xs ++ [y]) c vl wr := by
  refine ⟨?_, h2⟩
  rw [List.length_append, natsL_append]; exact h1
theorem Held5.form {s : ByteArray} {w wr : World} {xs : List Nat} {c : Nat} {vl : Value} (h : Held5 s w xs c vl wr) (hx : 0 < xs.length) : ∃ g cap, vl = .slice (some ⟨g, 0, none⟩) xs.length cap := Joins.ownsRow_form h.1 hx
theorem Held5.ints {s : ByteArray} {w wr : World} {xs : List Nat} {c a now d n cap : Nat} {g : Option Addr} (h : Held5 s w xs c (.slice g n cap) wr) (hl : xs.length = n) (hn : n ≤ 260) (hs : StpL s a now xs d) : Ints wr wr.heap.size g (iL xs) := by
  have h1 := h.1
  rw [hl, ← show intsV (iL xs) = natsL xs by simp [iL, intsV, natsL]] at h1
  exact (Ints.ofOwn (zs := iL xs) h1 (by omega) (stpL_ints hs)).2
end Go.Proofs.Ytdeikdlbgjpooaa
