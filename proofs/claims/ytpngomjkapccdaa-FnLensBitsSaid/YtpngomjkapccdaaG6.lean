/- Texts of one reach, one behind the other: C5G, C5H, C6G, C6H, I5J, I5G, I5N. What each is about stands in its theorems. -/
import Derived.Test.YtpngomjkapccdaaG3
import Derived.Test.YtpngomjkapccdaaG2
import Derived.Test.YtpngomjkapccdaaG1
import Derived.Deep.LoopGhost
import Derived.Maps.AppendAt
import Derived.OwnWalk
import Derived.ChangeAlike
import Derived.RegionTactic
import Derived.ScopeJumps
import Derived.WalkMore
namespace Go.Proofs.Ytpngomjkapccdaa
set_option linter.unusedVariables false
set_option linter.unusedSimpArgs false
open Go.RowKit

theorem num_row_one5 (s : ByteArray) (a : Nat) : num (row s a 1) = bit s a := by simp [row, num]
/-- What reading n lengths answers, the reader being in block b. -/
def L5Post (s : ByteArray) (at0 n b : Nat) (T : TypeId) (w : World) (e : Ending) (w' : World) : Prop :=
  ((∃ (xs : List Nat) (c : Nat) (v : Value), reads5 s at0 n xs c ∧ e = .returned v ∧ w'.ownsRow w.heap.size 3 1 v n (natsL xs) ∧ Has w' b T #[.string s, .int .i64 (c : Int)]) ∨
   ((¬ ∃ (xs : List Nat) (c : Nat), reads5 s at0 n xs c) ∧ e = .returned (.slice none 0 0))) ∧ Only b w w'
theorem l5post_no {s : ByteArray} {at0 n b : Nat} {T : TypeId} {w w' : World} (h : ¬ ∃ (xs : List Nat) (c : Nat), reads5 s at0 n xs c) (ho : Only b w w') : L5Post s at0 n b T w (.returned (.slice none 0 0)) w' := ⟨.inr ⟨h, rfl⟩, ho⟩
end Go.Proofs.Ytpngomjkapccdaa
namespace Go.Proofs.Ytpngomjkapccdaa
set_option linter.unusedVariables false
set_option linter.unusedSimpArgs false
open Go.RowKit

/-- What GetLens answers. -/
def GL5 (s : ByteArray) (at0 n : Nat) (w : World) (e : Ending) (w' : World) : Prop :=
  ((∃ (xs : List Nat) (c : Nat) (v : Value), reads5 s at0 n xs c ∧ e = .returned (.tuple #[v, .agg #[.string s, .int .i64 (c : Int)], .bool true]) ∧ w'.ownsRow w.heap.size 3 1 v n (natsL xs)) ∨
   ((¬ ∃ (xs : List Nat) (c : Nat), reads5 s at0 n xs c) ∧ e = .returned (.tuple #[.slice none 0 0, .agg #[.string ⟨#[]⟩, .int .i64 0], .bool false]))) ∧ Below w.heap.size w w'
end Go.Proofs.Ytpngomjkapccdaa
namespace Go.Proofs.Ytpngomjkapccdaa
set_option linter.unusedVariables false
set_option linter.unusedSimpArgs false
open Go.RowKit

theorem gam_ge {s : ByteArray} {a k j n : Nat} (h : Gam s a j n) (hz : ∀ i, i < k → bit s (a + i) = 0) : k ≤ j := by
  rcases Nat.lt_or_ge j k with hl | hl
  · have := hz j hl
    have := h.2.2.2.1
    omega
  · exact hl
/-- What reading a number answers, the reader being in block b. -/
def L6Post (s : ByteArray) (at0 b : Nat) (T : TypeId) (w : World) (e : Ending) (w' : World) : Prop :=
  ((∃ k n : Nat, Gam s at0 k n ∧ e = .returned (.int .i64 n) ∧ Has w' b T #[.string s, .int .i64 ((at0 + (2 * k + 1) : Nat) : Int)]) ∨
   ((∀ k n, ¬ Gam s at0 k n) ∧ e = .returned (.int .i64 0))) ∧ Only b w w'
theorem l6post_no {s : ByteArray} {at0 b : Nat} {T : TypeId} {w w' : World} (h : ∀ k n, ¬ Gam s at0 k n) (ho : Only b w w') : L6Post s at0 b T w (.returned (.int .i64 0)) w' := ⟨.inr ⟨h, rfl⟩, ho⟩
/-- Where the reader stands, and what was read last. -/
def L6At (s : ByteArray) (at0 b : Nat) (T : TypeId) (k : Nat) (x : Int) (w : World) : Prop :=
  (at0 + k + 1 ≤ 8 * s.size ∧ x = (bit s (at0 + k) : Int) ∧ Has w b T #[.string s, .int .i64 ((at0 + k + 1 : Nat) : Int)]) ∨ (8 * s.size < at0 + k + 1 ∧ x = -1 ∧ ∃ c : Int, Has w b T #[.string s, .int .i64 c])
end Go.Proofs.Ytpngomjkapccdaa
namespace Go.Proofs.Ytpngomjkapccdaa
set_option linter.unusedVariables false
set_option linter.unusedSimpArgs false
open Go.RowKit

/-- What GetGamma answers. -/
def GG6 (s : ByteArray) (at0 : Nat) (w : World) (e : Ending) (w' : World) : Prop :=
  ((∃ k n : Nat, Gam s at0 k n ∧ e = .returned (.tuple #[.int .i64 n, .agg #[.string s, .int .i64 ((at0 + (2 * k + 1) : Nat) : Int)], .bool true])) ∨
   ((∀ k n, ¬ Gam s at0 k n) ∧ e = .returned (.tuple #[.int .i64 0, .agg #[.string ⟨#[]⟩, .int .i64 0], .bool false]))) ∧ Below w.heap.size w w'
end Go.Proofs.Ytpngomjkapccdaa
namespace Go.Proofs.Ytpngomjkapccdaa
set_option linter.unusedVariables false
set_option linter.unusedSimpArgs false
open Go.RowKit

/-- As Q; by a goto: what is asked of the label. -/
def jumps (J : Nat → Act → World → Prop) (Q : Exit → Act → World → Prop) : Exit → Act → World → Prop
  | .goto l, a, w => J l a w
  | e, a, w => Q e a w
/-- At a smaller number. -/
def lower (J : Nat → Nat → Act → World → Prop) (g l : Nat) (a : Act) (w : World) : Prop := ∃ g', g' < g ∧ J g' l a w
/-- At some number. -/
def someGas (J : Nat → Nat → Act → World → Prop) (l : Nat) (a : Act) (w : World) : Prop := ∃ g, J g l a w
theorem lower_mk {J : Nat → Nat → Act → World → Prop} {g l : Nat} {a : Act} {w : World} (k : Nat) (h : k < g) (hj : J k l a w) : lower J g l a w := ⟨k, h, hj⟩
theorem jumps_mono {J J' : Nat → Act → World → Prop} {Q : Exit → Act → World → Prop} (h : ∀ l a w, J l a w → J' l a w) : ∀ e a w, jumps J Q e a w → jumps J' Q e a w := by
  intro e a w
  cases e <;> first | exact h _ _ _ | exact id
theorem jumps_low {J : Nat → Nat → Act → World → Prop} {Q : Exit → Act → World → Prop} {g g' : Nat} (h : g ≤ g') : ∀ e a w, jumps (lower J g) Q e a w → jumps (lower J g') Q e a w :=
  jumps_mono fun _ _ _ ⟨k, hk, hj⟩ => ⟨k, Nat.lt_of_lt_of_le hk h, hj⟩
theorem jumps_some {J : Nat → Nat → Act → World → Prop} {Q : Exit → Act → World → Prop} {g : Nat} : ∀ e a w, jumps (lower J g) Q e a w → jumps (someGas J) Q e a w :=
  jumps_mono fun _ _ _ ⟨k, _, hj⟩ => ⟨k, hj⟩

section
variable {P : Program} {a : Act} {w : World} {Q : Exit → Act → World → Prop}
/-- A scope in which the run jumps to any of its labels: what holds at each jump bears a number, which every stretch from a label to the next jump lowers. -/
theorem wp_scope_many {c : _root_.Go.Code} (J : Nat → Nat → Act → World → Prop) (first : c.wp P (jumps (someGas J) Q) a w)
    (pass : ∀ g l a w, J g l a w → ∃ rest, findLabel c l = some rest ∧ rest.wp P (jumps (lower J g) Q) a w) : (_root_.Go.Code.scope c).wp P Q a w := by
  intro b k cs
  have key : ∀ n l a w, J n l a w → ∃ rest, findLabel c l = some rest ∧ ∃ e a' w', Q e a' w' ∧ Arrives P (lone (b.at a (.code rest :: .inScope c :: k)) cs w) b k cs e a' w' := by
    intro n
    induction n using Nat.strongRecOn with
    | _ n ih =>
      intro l a w hJ
      obtain ⟨rest, hf, hp⟩ := pass n l a w hJ
      refine ⟨rest, hf, ?_⟩
      obtain ⟨e, a₁, w₁, hq, harr⟩ := hp b (.inScope c :: k) cs
      cases e with
      | normal => exact ⟨.normal, a₁, w₁, hq, Steps.trans harr (.one step_inScope)⟩
      | exit id => exact ⟨.exit id, a₁, w₁, hq, fun k' hk => harr k' (by simp [exitTo, hk])⟩
      | goto l' =>
        obtain ⟨m, hlt, hJ'⟩ := hq
        obtain ⟨rest', hf', e₂, a₂, w₂, hq₂, harr₂⟩ := ih m hlt l' a₁ w₁ hJ'
        exact ⟨e₂, a₂, w₂, hq₂, .of_steps (harr _ (by simp [gotoIn, hf'])) harr₂⟩
      | ret => exact ⟨_, a₁, w₁, hq, harr⟩
      | panic ch => exact ⟨_, a₁, w₁, hq, harr⟩
      | outgrown => exact ⟨_, a₁, w₁, hq, harr⟩
  obtain ⟨e, a₁, w₁, hq, harr⟩ := first b (.inScope c :: k) cs
  cases e with
  | normal => exact ⟨.normal, a₁, w₁, hq, .head step_scope (Steps.trans harr (.one step_inScope))⟩
  | exit id => exact ⟨.exit id, a₁, w₁, hq, fun k' hk => .head step_scope (harr k' (by simp [exitTo, hk]))⟩
  | goto l' =>
    obtain ⟨m, hJ'⟩ := hq
    obtain ⟨rest', hf', e₂, a₂, w₂, hq₂, harr₂⟩ := key m l' a₁ w₁ hJ'
    exact ⟨e₂, a₂, w₂, hq₂, .of_steps (.head step_scope (harr _ (by simp [gotoIn, hf']))) harr₂⟩
  | ret => exact ⟨_, a₁, w₁, hq, .of_steps (.one step_scope) harr⟩
  | panic ch => exact ⟨_, a₁, w₁, hq, .of_steps (.one step_scope) harr⟩
  | outgrown => exact ⟨_, a₁, w₁, hq, .of_steps (.one step_scope) harr⟩
/-- From label l on: whatever is asked behind it, out of what holds at the jumps. -/
def Walks (P : Program) (J : Nat → Nat → Act → World → Prop) (Q : Exit → Act → World → Prop) (r : _root_.Go.Code) (l : Nat) : Prop :=
  ∀ g a w, J g l a w → ∀ Qx : Exit → Act → World → Prop, (∀ e a' w', jumps (lower J g) Q e a' w' → Qx e a' w') → r.wp P Qx a w
/-- Four labels; what lies behind one may be used where the run falls into it. -/
theorem wp_scope4 {c r0 r1 r2 r3 : _root_.Go.Code} (J : Nat → Nat → Act → World → Prop) (f0 : findLabel c 0 = some (_root_.Go.Code.skip.seq r0)) (f1 : findLabel c 1 = some (_root_.Go.Code.skip.seq r1)) (f2 : findLabel c 2 = some (_root_.Go.Code.skip.seq r2)) (f3 : findLabel c 3 = some (_root_.Go.Code.skip.seq r3))
    (h0 : Walks P J Q r0 0) (h2 : Walks P J Q r2 2) (h3 : Hid (Walks P J Q r0 0) → Walks P J Q r3 3) (h1 : Hid (Walks P J Q r2 2) → Walks P J Q r1 1)
    (hf : Hid (Walks P J Q r1 1) → ∀ Qx : Exit → Act → World → Prop, (∀ e a' w', jumps (someGas J) Q e a' w' → Qx e a' w') → c.wp P Qx a w)
    (hJ : ∀ g l a w, J g l a w → l = 0 ∨ l = 1 ∨ l = 2 ∨ l = 3) : (_root_.Go.Code.scope c).wp P Q a w := by
  refine wp_scope_many J (hf (h1 h2) _ fun _ _ _ h => h) fun g l a w hj => ?_
  rcases hJ g l a w hj with rfl | rfl | rfl | rfl
  · exact ⟨_, f0, wp_seq (wp_skip (h0 g a w hj _ fun _ _ _ h => h))⟩
  · exact ⟨_, f1, wp_seq (wp_skip (h1 h2 g a w hj _ fun _ _ _ h => h))⟩
  · exact ⟨_, f2, wp_seq (wp_skip (h2 g a w hj _ fun _ _ _ h => h))⟩
  · exact ⟨_, f3, wp_seq (wp_skip (h3 h0 g a w hj _ fun _ _ _ h => h))⟩
theorem to_jump {J : Nat → Nat → Act → World → Prop} {g l : Nat} {Qx : Exit → Act → World → Prop} (h : ∀ e a' w', jumps (lower J g) Q e a' w' → Qx e a' w') (k : Nat) (hk : k < g) (hj : J k l a w) : Qx (.goto l) a w := h _ _ _ ⟨k, hk, hj⟩
theorem to_ret {J : Nat → Act → World → Prop} {Qx : Exit → Act → World → Prop} (h : ∀ e a' w', jumps J Q e a' w' → Qx e a' w') (hj : Q .ret a w) : Qx .ret a w := h _ _ _ hj
theorem to_fall {J : Nat → Nat → Act → World → Prop} {g l : Nat} {r : _root_.Go.Code} {Qx : Exit → Act → World → Prop} (h : ∀ e a' w', jumps (lower J g) Q e a' w' → Qx e a' w') (H : Hid (Walks P J Q r l)) (k : Nat) (hk : k ≤ g) (hj : J k l a w) : r.wp P Qx a w :=
  H k a w hj Qx fun e a' w' hq => h e a' w' (jumps_low hk e a' w' hq)
theorem to_fall_first {J : Nat → Nat → Act → World → Prop} {l : Nat} {r : _root_.Go.Code} {Qx : Exit → Act → World → Prop} (h : ∀ e a' w', jumps (someGas J) Q e a' w' → Qx e a' w') (H : Hid (Walks P J Q r l)) (k : Nat) (hj : J k l a w) : r.wp P Qx a w :=
  H k a w hj Qx fun e a' w' hq => h e a' w' (jumps_some e a' w' hq)
end

/-- No lengths can be read. -/
def No5 (s : ByteArray) (at0 n : Nat) : Prop := ¬ ∃ (xs : List Nat) (c : Nat), reads5 s at0 n xs c
/-- The lengths xs are read; of the next one's steps those up to bit c, which have led to y. -/
def Mid5 (s : ByteArray) (at0 : Nat) (xs : List Nat) (c y : Nat) : Prop :=
  ∃ c0, StpL s (at0 + 5) (num (row s at0 5)) xs c0 ∧ ∀ x d, Stp s c0 (lastN (num (row s at0 5)) xs) x d ↔ Stp s c y x d
theorem Mid5.no {s : ByteArray} {at0 c y n : Nat} {xs : List Nat} (h : Mid5 s at0 xs c y) (hn : xs.length < n) (hno : ∀ x d, ¬ Stp s c y x d) : No5 s at0 n := by
  obtain ⟨c0, h1, h2⟩ := h
  have h3 := stpL_stop h1 hn (fun x d hx => hno x d ((h2 x d).1 hx))
  rintro ⟨ys, d, h4, h5, _⟩
  exact h3 ⟨ys, d, h4, h5.2⟩
theorem Mid5.low {s : ByteArray} {at0 c y n : Nat} {xs : List Nat} (h : Mid5 s at0 xs c y) (hn : xs.length < n) (hy : ¬ (1 ≤ y ∧ y ≤ 20)) : No5 s at0 n :=
  h.no hn fun x d hx => hy (stp_range hx)
theorem Mid5.room {s : ByteArray} {at0 c y n : Nat} {xs : List Nat} (h : Mid5 s at0 xs c y) (hn : xs.length < n) (hc : ¬ c + 1 ≤ 8 * s.size) : No5 s at0 n :=
  h.no hn fun x d hx => hc (stp_room hx)
theorem Mid5.room2 {s : ByteArray} {at0 c y n : Nat} {xs : List Nat} (h : Mid5 s at0 xs c y) (hn : xs.length < n) (hb : bit s c = 1) (hc : ¬ c + 2 ≤ 8 * s.size) : No5 s at0 n :=
  h.no hn fun x d hx => hc (stp_room2 hx hb)
theorem Mid5.up {s : ByteArray} {at0 c y : Nat} {xs : List Nat} (h : Mid5 s at0 xs c y) (hy : 1 ≤ y ∧ y ≤ 20) (hc : c + 2 ≤ 8 * s.size) (hb : bit s c = 1) (hb2 : bit s (c + 1) = 0) : Mid5 s at0 xs (c + 2) (y + 1) := by
  obtain ⟨c0, h1, h2⟩ := h
  exact ⟨c0, h1, fun x d => (h2 x d).trans (stp_up hy hc hb hb2)⟩
theorem Mid5.down {s : ByteArray} {at0 c y : Nat} {xs : List Nat} (h : Mid5 s at0 xs c y) (hy : 1 ≤ y ∧ y ≤ 20) (hc : c + 2 ≤ 8 * s.size) (hb : bit s c = 1) (hb2 : bit s (c + 1) = 1) : Mid5 s at0 xs (c + 2) (y - 1) := by
  obtain ⟨c0, h1, h2⟩ := h
  exact ⟨c0, h1, fun x d => (h2 x d).trans (stp_down hy hc hb hb2)⟩
theorem Mid5.stop {s : ByteArray} {at0 c y : Nat} {xs : List Nat} (h : Mid5 s at0 xs c y) (hy : 1 ≤ y ∧ y ≤ 20) (hc : c + 1 ≤ 8 * s.size) (hb : bit s c = 0) : StpL s (at0 + 5) (num (row s at0 5)) (xs ++ [y]) (c + 1) := by
  obtain ⟨c0, h1, h2⟩ := h
  exact h1.snoc ((h2 _ _).2 (.stop c y hy hc hb))
theorem Mid5.next {s : ByteArray} {at0 c y : Nat} {xs : List Nat} (h : StpL s (at0 + 5) (num (row s at0 5)) (xs ++ [y]) c) : Mid5 s at0 (xs ++ [y]) c y :=
  ⟨c, h, fun x d => by rw [lastN_snoc]⟩
theorem Mid5.first (s : ByteArray) (at0 : Nat) : Mid5 s at0 [] (at0 + 5) (num (row s at0 5)) := ⟨at0 + 5, .nil _ _, fun x d => Iff.rfl⟩

/-- What stays the same at every jump: the block of the answer's reader. -/
def Base5 (w w' : World) : Prop := Has w' (w.heap.size + 1) 33 #[.string ⟨#[]⟩, .int .i64 0] ∧ Below w.heap.size w w'
/-- The reader's block, the row read so far. -/
def Held5 (s : ByteArray) (w : World) (xs : List Nat) (c : Nat) (vl : Value) (w' : World) : Prop :=
  w'.ownsRow (w.heap.size + 2) 3 1 vl xs.length (natsL xs) ∧ Has w' w.heap.size 33 #[.string s, .int .i64 (c : Int)]
/-- What holds where the run jumps, by label: 0: nothing can be read; 1: the length has changed, or nothing is left; 2: the length is in its range; 3: its steps are over. -/
def Jump5 (s : ByteArray) (at0 n : Nat) (w : World) (gk : Nat) : Nat → Value → Value → Value → World → Prop
  | 0, _, _, _, w' => Base5 w w' ∧ No5 s at0 n
  | 1, vl, vx, vk, w' => Base5 w w' ∧ ((vk = .bool false ∧ gk = 1 ∧ No5 s at0 n) ∨
      (vk = .bool true ∧ ∃ (c y : Nat) (xs : List Nat), Mid5 s at0 xs c y ∧ xs.length < n ∧ y ≤ 31 ∧ c ≤ 8 * s.size ∧ gk = 3 * (8 * s.size - c) + 1 ∧ vx = .int .i64 y ∧ Held5 s w xs c vl w'))
  | 2, vl, vx, vk, w' => Base5 w w' ∧ ∃ (c y : Nat) (xs : List Nat), Mid5 s at0 xs c y ∧ xs.length < n ∧ (1 ≤ y ∧ y ≤ 20) ∧ c ≤ 8 * s.size ∧ gk = 3 * (8 * s.size - c) + 1 ∧ vx = .int .i64 y ∧ Held5 s w xs c vl w'
  | 3, vl, vx, vk, w' => Base5 w w' ∧ ∃ (c y : Nat) (xs : List Nat), StpL s (at0 + 5) (num (row s at0 5)) (xs ++ [y]) c ∧ xs.length < n ∧ (1 ≤ y ∧ y ≤ 20) ∧ c ≤ 8 * s.size ∧ gk = 3 * (8 * s.size - c) + 2 ∧ vx = .int .i64 y ∧ Held5 s w xs c vl w'
  | _, _, _, _, _ => False
theorem Held5.call {s : ByteArray} {w wr w2 : World} {xs : List Nat} {c : Nat} {vl : Value} (h : Held5 s w xs c vl wr) (b2 : Below wr.heap.size wr w2) : Held5 s w xs c vl w2 :=
  ⟨own_bel h.1 b2, h.2.below b2 h.2.lt⟩
theorem Base5.call {w wr w2 : World} (h : Base5 w wr) (b2 : Below wr.heap.size wr w2) : Base5 w w2 :=
  ⟨h.1.below b2 h.1.lt, bel_then b2 h.2.size h.2⟩
theorem Held5.put {s : ByteArray} {w wr : World} {xs : List Nat} {c : Nat} {vl : Value} (h : Held5 s w xs c vl wr) (d : Nat) :
    Held5 s w xs d vl ((wr.setCell ⟨w.heap.size, 0, none⟩ (.string s)).setCell ⟨w.heap.size, 1, none⟩ (.int .i64 (d : Int))) := by
  have h2 := (h.2.store 0 (.string s)).store 1 (.int .i64 (d : Int))
  simp at h2
  exact ⟨own_away (own_away h.1 (by simp) _) (by simp) _, h2⟩
theorem Base5.put {w wr : World} (h : Base5 w wr) (u v : Value) : Base5 w ((wr.setCell ⟨w.heap.size, 0, none⟩ u).setCell ⟨w.heap.size, 1, none⟩ v) :=
  ⟨(h.1.storeAway (by simp) _).storeAway (by simp) _, (h.2.setCell (Nat.le_refl _) _).setCell (Nat.le_refl _) _⟩
theorem Held5.cells {s : ByteArray} {w wr : World} {xs : List Nat} {c : Nat} {vl : Value} (h : Held5 s w xs c vl wr) :
    wr.cell? ⟨w.heap.size, 0, none⟩ = some (.string s) ∧ wr.cell? ⟨w.heap.size, 1, none⟩ = some (.int .i64 (c : Int)) ∧ wr.frozen? ⟨w.heap.size, 0, none⟩ = false ∧ wr.frozen? ⟨w.heap.size, 1, none⟩ = false := by
  have e0 := h.2.cell 0
  have e1 := h.2.cell 1
  simp at e0 e1
  exact ⟨e0, e1, h.2.free 0, h.2.free 1⟩
theorem Base5.cells {w wr : World} (h : Base5 w wr) :
    wr.cell? ⟨w.heap.size + 1, 0, none⟩ = some (.string ⟨#[]⟩) ∧ wr.cell? ⟨w.heap.size + 1, 1, none⟩ = some (.int .i64 0) ∧ wr.frozen? ⟨w.heap.size + 1, 0, none⟩ = false ∧ wr.frozen? ⟨w.heap.size + 1, 1, none⟩ = false := by
  have e0 := h.1.cell 0
  have e1 := h.1.cell 1
  simp at e0 e1
  exact ⟨e0, e1, h.1.free 0, h.1.free 1⟩
theorem stpL_room {s : ByteArray} {a now c : Nat} {zs : List Nat} (h : StpL s a now zs c) (hz : 0 < zs.length) : a + 1 ≤ 8 * s.size := by
  cases h with
  | nil => simp at hz
  | cons => exact stp_room (by assumption)
theorem end5_yes {s : ByteArray} {at0 n c : Nat} {zs : List Nat} (h : StpL s (at0 + 5) (num (row s at0 5)) zs c) (hl : zs.length = n) (hn : 1 ≤ n) (hok : lOk (iL zs) = true) : reads5 s at0 n zs c :=
  ⟨hl, ⟨by have := stpL_room h (by omega); omega, h⟩, hok⟩
theorem end5_no {s : ByteArray} {at0 n c : Nat} {zs : List Nat} (h : StpL s (at0 + 5) (num (row s at0 5)) zs c) (hl : zs.length = n) (hok : lOk (iL zs) = false) : No5 s at0 n := by
  rintro ⟨ys, d, h1, h2, h3⟩
  have e := (h.one h2.2 (by omega)).1
  subst e
  rw [hok] at h3; exact absurd h3 (by decide)
theorem stpL_ints {s : ByteArray} {a now c : Nat} {zs : List Nat} (h : StpL s a now zs c) : ∀ x ∈ iL zs, -9223372036854775808 ≤ x ∧ x ≤ 9223372036854775807 := fun x hx => by
  simp only [iL, List.mem_map] at hx
  obtain ⟨q, hq, rfl⟩ := hx
  have := h.range q hq
  omega
theorem Held5.mk1 {s : ByteArray} {w wr : World} {xs : List Nat} {c y : Nat} {vl : Value} (h1 : wr.ownsRow (w.heap.size + 2) 3 1 vl (xs.length + 1) (natsL xs ++ [.int .i64 (y : Int)])) (h2 : Has wr w.heap.size 33 #[.string s, .int .i64 (c : Int)]) : Held5 s w (xs ++ [y]) c vl wr := by
  refine ⟨?_, h2⟩
  rw [List.length_append, natsL_append]; exact h1
theorem Held5.form {s : ByteArray} {w wr : World} {xs : List Nat} {c : Nat} {vl : Value} (h : Held5 s w xs c vl wr) (hx : 0 < xs.length) : ∃ g cap, vl = .slice (some ⟨g, 0, none⟩) xs.length cap := Joins.ownsRow_form h.1 hx
theorem Held5.ints {s : ByteArray} {w wr : World} {xs : List Nat} {c a now d n cap : Nat} {g : Option Addr} (h : Held5 s w xs c (.slice g n cap) wr) (hl : xs.length = n) (hn : n ≤ 260) (hs : StpL s a now xs d) : Ints wr wr.heap.size g (iL xs) := by
  have h1 := h.1
  rw [hl, ← show intsV (iL xs) = natsL xs by simp [iL, intsV, natsL]] at h1
  exact (Ints.ofOwn (zs := iL xs) h1 (by omega) (stpL_ints hs)).2
end Go.Proofs.Ytpngomjkapccdaa
namespace Go.Proofs.Ytpngomjkapccdaa
set_option linter.unusedVariables false
set_option linter.unusedSimpArgs false
open Go.RowKit

set_option maxHeartbeats 4000000 in
set_option maxRecDepth 100000 in
theorem implGetLens_any (s : ByteArray) (at0 n : Nat) (w : World) (hs : s.size ≤ 1048576) (ha : at0 ≤ 8 * s.size) (hn1 : 1 ≤ n) (hn2 : n ≤ 260) :
    Calls Try.prog 11 #[.agg #[.string s, .int .i64 at0], .int .i64 n] w (GL5 s at0 n w) := by
  obtain ⟨i0, hi, hz0, hz1, hz2⟩ := info_parts Try.infoInt
  go_enter Try.func11, Try.ntmps11
  go_wp2
  refine wp_scope4 (fun (gk l : Nat) (a' : Act) (w' : World) => ∃ u0 u3 u7 u8 u9 u10 u11 u12 u13 u14 u15 u16 u17 u18 u19 u20 u21 u22 u23 u24 u25 u26 u27 u28 u29 u30 u31 u32 u33 u34 u35 u36 u37 u38 u39 u40 u41 u42 u43 u44 u45 u46 u47 u48 u49 u50 u51 u52 u53 u54 u55 u56 u57 u58 u59 u60 u61 u62 u63 u64 u65 u66 u67 u68 u69 u70 : Value, Jump5 s at0 n w gk l u7 u9 u10 w' ∧ a' = { tmps := #[u0, .int .i64 n, .pointer (some ⟨w.heap.size, 0, none⟩), u3, .slice none 0 0, .pointer (some ⟨w.heap.size + 1, 0, none⟩), .bool false, u7, u8, u9, u10, u11, u12, u13, u14, u15, u16, u17, u18, u19, u20, u21, u22, u23, u24, u25, u26, u27, u28, u29, u30, u31, u32, u33, u34, u35, u36, u37, u38, u39, u40, u41, u42, u43, u44, u45, u46, u47, u48, u49, u50, u51, u52, u53, u54, u55, u56, u57, u58, u59, u60, u61, u62, u63, u64, u65, u66, u67, u68, u69, u70], defers := [] }) rfl rfl rfl rfl ?h0 ?h2 ?h3 ?h1 ?hf ?hJ
  case hJ =>
    intro g l a' w' hj
    obtain ⟨u0, u3, u7, u8, u9, u10, u11, u12, u13, u14, u15, u16, u17, u18, u19, u20, u21, u22, u23, u24, u25, u26, u27, u28, u29, u30, u31, u32, u33, u34, u35, u36, u37, u38, u39, u40, u41, u42, u43, u44, u45, u46, u47, u48, u49, u50, u51, u52, u53, u54, u55, u56, u57, u58, u59, u60, u61, u62, u63, u64, u65, u66, u67, u68, u69, u70, hrel, rfl⟩ := hj
    match l, hrel with
    | 0, _ => exact .inl rfl
    | 1, _ => exact .inr (.inl rfl)
    | 2, _ => exact .inr (.inr (.inl rfl))
    | 3, _ => exact .inr (.inr (.inr rfl))
    | _ + 4, h => exact h.elim
  case h0 =>
    intro gk a' wr hj Qx hQx
    obtain ⟨u0, u3, u7, u8, u9, u10, u11, u12, u13, u14, u15, u16, u17, u18, u19, u20, u21, u22, u23, u24, u25, u26, u27, u28, u29, u30, u31, u32, u33, u34, u35, u36, u37, u38, u39, u40, u41, u42, u43, u44, u45, u46, u47, u48, u49, u50, u51, u52, u53, u54, u55, u56, u57, u58, u59, u60, u61, u62, u63, u64, u65, u66, u67, u68, u69, u70, hrel, rfl⟩ := hj
    obtain ⟨⟨hS, hbl⟩, hno⟩ := hrel
    have HNO := hidden hno
    have e0 := hS.cell 0
    have e1 := hS.cell 1
    have f0 := hS.free 0
    have f1 := hS.free 1
    simp at e0 e1
    have hsb := hbl.size
    have hSl := hS.lt
    clear hno hS
    go_wp2
    simp only [jumps]
    refine bodyPost_ret (v := .tuple #[.slice none 0 0, .agg #[.string ⟨#[]⟩, .int .i64 0], .bool false]) (by simp [results, Try.results11, go_sem, e0, e1, f0, f1]) rfl ⟨.inr ⟨HNO.out, rfl⟩, ?_⟩
    repeat (first | exact Below.refl _ _ | assumption | refine Below.alloc ?_ (by (try simp); (try omega)) _ | refine Below.setCell ?_ (by (try simp); (try omega)) _ | refine Below.drew ?_ | refine bel_then (by assumption) (by (try simp); (try omega)) ?_)
  case h2 =>
    intro gk a' wr hj Qx hQx
    obtain ⟨u0, u3, u7, u8, u9, u10, u11, u12, u13, u14, u15, u16, u17, u18, u19, u20, u21, u22, u23, u24, u25, u26, u27, u28, u29, u30, u31, u32, u33, u34, u35, u36, u37, u38, u39, u40, u41, u42, u43, u44, u45, u46, u47, u48, u49, u50, u51, u52, u53, u54, u55, u56, u57, u58, u59, u60, u61, u62, u63, u64, u65, u66, u67, u68, u69, u70, hrel, rfl⟩ := hj
    obtain ⟨hB, c, y, xs, hM, hlen, hy, hc, rfl, rfl, hH⟩ := hrel
    have HM := hidden hM
    have HB := hidden hB
    have HH := hidden hH
    have hsz := hB.2.size
    have hbl2 := hB.1.lt
    obtain ⟨c0, c1, f0, f1⟩ := hH.cells
    clear hM hB hH
    by_cases hroom : c + 1 ≤ 8 * s.size
    · have K := hidden (fun W => implGet_yes s c 1 W hs (by omega) hroom)
      simp only [num_row_one5] at K
      have hb2 := bit_lt s c
      by_cases hb0 : bit s c = 0
      · have HST := hidden (HM.out.stop hy hroom hb0)
        rw [hb0] at K
        clear hb0 hb2
        go_wp2_with fail
        refine (K.out _).mono ?_
        rintro e w2 ⟨rfl, b2⟩
        have hH2 := HH.out.call b2
        have hB2 := HB.out.call b2
        obtain ⟨d0, d1, g0, g1⟩ := hH2.cells
        have HH3 := hidden (hH2.put (c + 1))
        have HB3 := hidden (hB2.put (.string s) (.int .i64 ((c + 1 : Nat) : Int)))
        have hsz2 := hB2.2.size
        clear b2 hH2 hB2 K c0 c1 f0 f1 HH HB
        go_wp2
        go_step3
        show Qx (.goto 3) _ _
        refine to_jump hQx (3 * (8 * s.size - (c + 1)) + 2) ?_ ?_
        · omega
        · repeat apply Exists.intro
          refine ⟨?_, rfl⟩
          exact ⟨HB3.out, c + 1, y, xs, HST.out, hlen, hy, hroom, rfl, rfl, HH3.out⟩
      · have hb1 : bit s c = 1 := by omega
        have HB1 := hidden hb1
        rw [hb1] at K
        clear hb0 hb2 hb1
        go_wp2_with fail
        refine (K.out _).mono ?_
        rintro e w2 ⟨rfl, b2⟩
        have hH2 := HH.out.call b2
        have hB2 := HB.out.call b2
        obtain ⟨d0, d1, g0, g1⟩ := hH2.cells
        have HH3 := hidden (hH2.put (c + 1))
        have HB3 := hidden (hB2.put (.string s) (.int .i64 ((c + 1 : Nat) : Int)))
        have hsz2 := hB2.2.size
        have hRl2 := hH2.2.lt
        clear b2 hH2 hB2 K c0 c1 f0 f1 HH HB
        by_cases hrm2 : c + 2 ≤ 8 * s.size
        · have K := hidden (fun W => implGet_yes s (c + 1) 1 W hs (by omega) (by omega))
          simp only [num_row_one5] at K
          have hb3 := bit_lt s (c + 1)
          by_cases hc0 : bit s (c + 1) = 0
          · have HNX := hidden (HM.out.up hy hrm2 HB1.out hc0)
            rw [hc0] at K
            clear hc0 hb3
            go_wp2_with fail
            refine (K.out _).mono ?_
            rintro e w3 ⟨rfl, b3⟩
            have hH4 := HH3.out.call b3
            have hB4 := HB3.out.call b3
            clear d0 d1 g0 g1
            obtain ⟨d0, d1, g0, g1⟩ := hH4.cells
            have HH5 := hidden (hH4.put (c + 2))
            have HB5 := hidden (hB4.put (.string s) (.int .i64 ((c + 2 : Nat) : Int)))
            have hsz3 := hB4.2.size
            clear b3 hH4 hB4 K HH3 HB3
            go_wp2
            go_step3
            show Qx (.goto 1) _ _
            refine to_jump hQx (3 * (8 * s.size - (c + 2)) + 1) ?_ ?_
            · omega
            · repeat apply Exists.intro
              refine ⟨?_, rfl⟩
              exact ⟨HB5.out, .inr ⟨rfl, c + 2, y + 1, xs, HNX.out, hlen, by omega, hrm2, rfl, by go_num, HH5.out⟩⟩
          · have hc1 : bit s (c + 1) = 1 := by omega
            have HNX := hidden (HM.out.down hy hrm2 HB1.out hc1)
            rw [hc1] at K
            clear hc0 hc1 hb3
            go_wp2_with fail
            refine (K.out _).mono ?_
            rintro e w3 ⟨rfl, b3⟩
            have hH4 := HH3.out.call b3
            have hB4 := HB3.out.call b3
            clear d0 d1 g0 g1
            obtain ⟨d0, d1, g0, g1⟩ := hH4.cells
            have HH5 := hidden (hH4.put (c + 2))
            have HB5 := hidden (hB4.put (.string s) (.int .i64 ((c + 2 : Nat) : Int)))
            have hsz3 := hB4.2.size
            clear b3 hH4 hB4 K HH3 HB3
            go_wp2
            go_step3
            show Qx (.goto 1) _ _
            refine to_jump hQx (3 * (8 * s.size - (c + 2)) + 1) ?_ ?_
            · omega
            · repeat apply Exists.intro
              refine ⟨?_, rfl⟩
              exact ⟨HB5.out, .inr ⟨rfl, c + 2, y - 1, xs, HNX.out, hlen, by omega, hrm2, rfl, by rw [show ((y - 1 : Nat) : Int) = (y : Int) - 1 by omega], HH5.out⟩⟩
        · have HNX := hidden (HM.out.room2 hlen HB1.out hrm2)
          have K := hidden (fun W => implGet_no s ((c + 1 : Nat) : Int) 1 W hs (by omega) (by omega) (by omega))
          go_wp2_with fail
          refine (K.out _).mono ?_
          rintro e w3 ⟨rfl, b3⟩
          have hH4 := HH3.out.call b3
          have hB4 := HB3.out.call b3
          clear d0 d1 g0 g1
          obtain ⟨d0, d1, g0, g1⟩ := hH4.cells
          have HB5 := hidden (hB4.put (.string ⟨#[]⟩) (.int .i64 0))
          have hsz3 := hB4.2.size
          clear b3 hH4 hB4 K HH3 HB3
          go_wp2
          go_step3
          show Qx (.goto 1) _ _
          refine to_jump hQx 1 ?_ ?_
          · omega
          · repeat apply Exists.intro
            refine ⟨?_, rfl⟩
            exact ⟨HB5.out, .inl ⟨rfl, rfl, HNX.out⟩⟩
    · have HNX := hidden (HM.out.room hlen hroom)
      have K := hidden (fun W => implGet_no s (c : Int) 1 W hs (by omega) (by omega) (by omega))
      go_wp2_with fail
      refine (K.out _).mono ?_
      rintro e w2 ⟨rfl, b2⟩
      have hH2 := HH.out.call b2
      have hB2 := HB.out.call b2
      obtain ⟨d0, d1, g0, g1⟩ := hH2.cells
      have HB3 := hidden (hB2.put (.string ⟨#[]⟩) (.int .i64 0))
      have hsz2 := hB2.2.size
      clear b2 hH2 hB2 K c0 c1 f0 f1 HH HB
      go_wp2
      go_step3
      show Qx (.goto 0) _ _
      refine to_jump hQx 0 ?_ ?_
      · omega
      · repeat apply Exists.intro
        refine ⟨?_, rfl⟩
        exact ⟨HB3.out, HNX.out⟩
  case h3 =>
    intro H0 gk a' wr hj Qx hQx
    obtain ⟨u0, u3, u7, u8, u9, u10, u11, u12, u13, u14, u15, u16, u17, u18, u19, u20, u21, u22, u23, u24, u25, u26, u27, u28, u29, u30, u31, u32, u33, u34, u35, u36, u37, u38, u39, u40, u41, u42, u43, u44, u45, u46, u47, u48, u49, u50, u51, u52, u53, u54, u55, u56, u57, u58, u59, u60, u61, u62, u63, u64, u65, u66, u67, u68, u69, u70, hrel, rfl⟩ := hj
    obtain ⟨hB, c, y, xs, hST, hlen, hy, hc, rfl, rfl, hH⟩ := hrel
    have HST := hidden hST
    have hsz := hB.2.size
    have hbl2 := hB.1.lt
    obtain ⟨hown, hR⟩ := hH
    have hRA := hR.alloc (.cells #[.int .i64 (y : Int)] 3)
    have hBA := hB.1.alloc (.cells #[.int .i64 (y : Int)] 3)
    have hbA := hB.2.alloc hsz (.cells #[.int .i64 (y : Int)] 3)
    clear hST hB hR
    go_wp2_with (at_builtin; refine wpList_append_own_at _ rfl _ _ 23 rfl (w.heap.size + 2) 3 i0 (.int .i64 0) 1 8 Try.underlying23 hi hz0 hz1 hz2 rfl (by decide) _ _ _ rfl (hown.alloc _) ⟨wr.heap.size, 0, none⟩ 1 1 [.int .i64 (y : Int)] rfl rfl ?ca2 ?ca3 ?ca4 ?ca5 ?ca6 ?_)
    case ca3 => first | rfl | exact fun u hu => by simp at hu; subst hu; rfl
    case ca4 => unfold maxLen; omega
    case ca5 => omega
    case ca6 => first | omega | (simp; omega)
    intro v3 w3 hown3 hgrow _ _
    have hne : ∀ x, x < w.heap.size + 2 → some x ≠ u7.ownBlock := fun x hx e => by have := (hown.lt x e.symm).1; omega
    have hH3 : Held5 s w (xs ++ [y]) c v3 w3 := Held5.mk1 hown3 (hRA.grown hgrow (hne _ (by omega)))
    have hB3 : Base5 w w3 := ⟨hBA.grown hgrow (hne _ (by omega)), hbA.grown hgrow (by simp; omega) (fun b hb => by have := (hown.lt b hb).1; omega)⟩
    obtain ⟨g, cp, rfl⟩ := hH3.form (by simp)
    have hln : (xs ++ [y]).length = xs.length + 1 := by simp
    rw [hln]
    have HL := hidden hln
    have hsz3 := hB3.2.size
    have hRl3 := hB3.1.lt
    obtain ⟨d0, d1, g0, g1⟩ := hH3.cells
    obtain ⟨e0, e1, k0, k1⟩ := hB3.cells
    clear hown3 hgrow hne hRA hBA hbA hown hln
    obtain ⟨m, hm⟩ : ∃ m, xs.length + 1 = m := ⟨_, rfl⟩
    rw [hm] at HL ⊢
    by_cases hlt : m < n
    · have HH3 := hidden hH3
      have HB3 := hidden hB3
      clear hH3 hB3
      go_wp2
      go_step3
      show Qx (.goto 2) _ _
      refine to_jump hQx (3 * (8 * s.size - c) + 1) ?_ ?_
      · omega
      · repeat apply Exists.intro
        refine ⟨?_, rfl⟩
        exact ⟨HB3.out, c, y, xs ++ [y], Mid5.next HST.out, by rw [HL.out]; exact hlt, hy, hc, rfl, rfl, by have h := HH3.out; rw [HL.out] at h; exact h⟩
    · have hmn : m = n := by omega
      subst hmn
      have hI : Ints w3 w3.heap.size (some ⟨g, 0, none⟩) (iL (xs ++ [y])) := Held5.ints hH3 rfl (by rw [HL.out]; exact hn2) HST.out
      have KL := implLensOk_any (some ⟨g, 0, none⟩) cp w3.heap.size (iL (xs ++ [y])) w3 hI
      rw [iL_len, HL.out] at KL
      have HKL := hidden KL
      have HH3 := hidden hH3
      have HB3 := hidden hB3
      clear KL hI hH3 hB3
      by_cases hok : lOk (iL (xs ++ [y])) = true
      · have HR := hidden (end5_yes HST.out HL.out hn1 hok)
        rw [hok] at HKL
        clear hok
        go_wp2_with fail
        refine HKL.out.mono ?_
        rintro e w4 ⟨rfl, rfl⟩
        go_wp2
        go_region
        all_goals (try go_wp2)
        all_goals (try simp only [jumps])
        all_goals
          refine bodyPost_ret (v := .tuple #[.slice (some ⟨g, 0, none⟩) m cp, .agg #[.string s, .int .i64 (c : Int)], .bool true]) (by simp [results, Try.results11, go_sem, d0, d1, e0, e1, g0, g1, k0, k1]) rfl ⟨.inl ⟨xs ++ [y], c, _, HR.out, rfl, ?_⟩, ?_⟩
          · have h := HH3.out.1
            rw [HL.out] at h
            exact Joins.ownsRow_le (own_away (own_away h (p := ⟨w.heap.size + 1, 0, none⟩) (by simp) _) (p := ⟨w.heap.size + 1, 1, none⟩) (by simp) _).drew (show w.heap.size ≤ w.heap.size + 2 by omega)
          · have hb5 := HB3.out.2
            repeat (first | exact Below.refl _ _ | assumption | refine Below.alloc ?_ (by (try simp); (try omega)) _ | refine Below.setCell ?_ (by (try simp); (try omega)) _ | refine Below.drew ?_ | refine bel_then (by assumption) (by (try simp); (try omega)) ?_)
      · have hno : lOk (iL (xs ++ [y])) = false := by simpa using hok
        have HN := hidden (end5_no HST.out HL.out hno)
        rw [hno] at HKL
        clear hok hno
        go_wp2_with fail
        refine HKL.out.mono ?_
        rintro e w4 ⟨rfl, rfl⟩
        go_wp2
        go_step3
        rename_i KK hKK
        refine hKK _ _ (to_fall hQx H0 0 (by omega) ?_)
        repeat apply Exists.intro
        refine ⟨?_, rfl⟩
        exact ⟨HB3.out, HN.out⟩
  case h1 =>
    intro H2 gk a' wr hj Qx hQx
    obtain ⟨u0, u3, u7, u8, u9, u10, u11, u12, u13, u14, u15, u16, u17, u18, u19, u20, u21, u22, u23, u24, u25, u26, u27, u28, u29, u30, u31, u32, u33, u34, u35, u36, u37, u38, u39, u40, u41, u42, u43, u44, u45, u46, u47, u48, u49, u50, u51, u52, u53, u54, u55, u56, u57, u58, u59, u60, u61, u62, u63, u64, u65, u66, u67, u68, u69, u70, hrel, rfl⟩ := hj
    obtain ⟨hB, ⟨rfl, rfl, hno⟩ | ⟨rfl, c, y, xs, hM, hlen, hy, hc, rfl, rfl, hH⟩⟩ := hrel
    · have HB := hidden hB
      have HN := hidden hno
      clear hB hno
      go_wp2
      go_step3
      show Qx (.goto 0) _ _
      refine to_jump hQx 0 (by omega) ?_
      repeat apply Exists.intro
      refine ⟨?_, rfl⟩
      exact ⟨HB.out, HN.out⟩
    · have HM := hidden hM
      have HB := hidden hB
      have HH := hidden hH
      clear hM hB hH
      by_cases hr1 : y < 1
      · have HN := hidden (HM.out.low hlen (by omega))
        have hI : (y : Int) < 1 := by omega
        go_wp2
        go_step3
        show Qx (.goto 0) _ _
        refine to_jump hQx 0 (by omega) ?_
        repeat apply Exists.intro
        refine ⟨?_, rfl⟩
        exact ⟨HB.out, HN.out⟩
      · by_cases hr2 : 20 < y
        · have HN := hidden (HM.out.low hlen (by omega))
          have hI : ¬ (y : Int) < 1 := by omega
          have hI2 : (20 : Int) < y := by omega
          go_wp2
          go_step3
          show Qx (.goto 0) _ _
          refine to_jump hQx 0 (by omega) ?_
          repeat apply Exists.intro
          refine ⟨?_, rfl⟩
          exact ⟨HB.out, HN.out⟩
        · have hI : ¬ (y : Int) < 1 := by omega
          have hI2 : ¬ (20 : Int) < y := by omega
          go_wp2
          go_step3
          rename_i KK hKK
          refine hKK _ _ (to_fall hQx H2 (3 * (8 * s.size - c) + 1) (by omega) ?_)
          repeat apply Exists.intro
          refine ⟨?_, rfl⟩
          exact ⟨HB.out, c, y, xs, HM.out, hlen, by omega, hc, rfl, rfl, HH.out⟩
  case hf =>
    intro H1 Qx hQx
    have hR := (Has.fresh w 33 #[.string s, .int .i64 at0]).alloc (.cells #[.string ⟨#[]⟩, .int .i64 0] 33)
    have bb : Below w.heap.size w ((w.alloc (.cells #[.string s, .int .i64 at0] 33)).alloc (.cells #[.string ⟨#[]⟩, .int .i64 0] 33)) := ((Below.refl _ _).alloc (Nat.le_refl _) _).alloc (by simp) _
    have hS := Has.freshAt (w := w.alloc (.cells #[.string s, .int .i64 at0] 33)) (g := w.heap.size + 1) (by simp) 33 #[.string ⟨#[]⟩, .int .i64 0]
    have hI : ¬ (n : Int) < 1 := by omega
    have hI2 : ¬ (260 : Int) < n := by omega
    go_wp2_with (at_make; refine wpList_make_own _ rfl _ _ 23 rfl (w.heap.size + 2) 3 i0 (.int .i64 0) 1 Try.underlying23 hi hz0 hz1 _ _ _ n rfl rfl rfl ?b2 ?b3 ?b4 ?_)
    case b2 => first | omega | (rw [hz2]; omega)
    case b3 => unfold maxLen; omega
    intro w1 hown hg
    have hB1 : Base5 w w1 := ⟨hS.grown hg (by simp), bb.grown hg (by simp; omega) (by simp)⟩
    have hH1 (vl : Value) (h : w1.ownsRow (w.heap.size + 2) 3 1 vl 0 []) : Held5 s w [] at0 vl w1 := ⟨h, hR.grown hg (by simp)⟩
    replace hH1 := hH1 _ hown
    obtain ⟨c0, c1, f0, f1⟩ := hH1.cells
    have HB := hidden hB1
    have HH := hidden hH1
    have hsz := hB1.2.size
    have hRl := hB1.1.lt
    clear hR bb hS hown hg hB1 hH1
    by_cases hroom : at0 + 5 ≤ 8 * s.size
    · have K := hidden (fun W => implGet_yes s at0 5 W hs (by omega) hroom)
      have hx := num_row_lt s at0 5
      have HF := hidden (Mid5.first s at0)
      obtain ⟨y, hy⟩ : ∃ y, num (row s at0 5) = y := ⟨_, rfl⟩
      rw [hy] at K HF hx
      clear hy
      go_wp2_with fail
      refine (K.out _).mono ?_
      rintro e w2 ⟨rfl, b2⟩
      have hH2 := HH.out.call b2
      have hB2 := HB.out.call b2
      obtain ⟨d0, d1, g0, g1⟩ := hH2.cells
      have HH3 := hidden (hH2.put (at0 + 5))
      have HB3 := hidden (hB2.put (.string s) (.int .i64 ((at0 + 5 : Nat) : Int)))
      have hsz2 := hB2.2.size
      clear b2 hH2 hB2 K c0 c1 f0 f1 HH HB
      go_wp2
      go_step3
      rename_i KK hKK
      refine hKK _ _ (to_fall_first hQx H1 (3 * (8 * s.size - (at0 + 5)) + 1) ?_)
      repeat apply Exists.intro
      refine ⟨?_, rfl⟩
      exact ⟨HB3.out, .inr ⟨rfl, at0 + 5, y, [], HF.out, hn1, by omega, hroom, rfl, rfl, HH3.out⟩⟩
    · have K := hidden (fun W => implGet_no s (at0 : Int) 5 W hs (by omega) (by omega) (by omega))
      have HN : Hid (No5 s at0 n) := hidden (by
        rintro ⟨xs, c, _, h, _⟩
        exact hroom h.1)
      clear hroom
      go_wp2_with fail
      refine (K.out _).mono ?_
      rintro e w2 ⟨rfl, b2⟩
      have hH2 := HH.out.call b2
      have hB2 := HB.out.call b2
      obtain ⟨d0, d1, g0, g1⟩ := hH2.cells
      have HB3 := hidden (hB2.put (.string ⟨#[]⟩) (.int .i64 0))
      have hsz2 := hB2.2.size
      clear b2 hH2 hB2 K c0 c1 f0 f1 HH HB
      go_wp2
      go_step3
      rename_i KK hKK
      refine hKK _ _ (to_fall_first hQx H1 1 ?_)
      repeat apply Exists.intro
      refine ⟨?_, rfl⟩
      exact ⟨HB3.out, .inl ⟨rfl, rfl, HN.out⟩⟩
end Go.Proofs.Ytpngomjkapccdaa
namespace Go.Proofs.Ytpngomjkapccdaa
set_option linter.unusedVariables false
set_option linter.unusedSimpArgs false
open Go.RowKit

/-- What holds at the two labels that the run can reach. -/
def JumpNo (w : World) (gk : Nat) : Nat → Value → World → Prop
  | 0, _, w' => Base5 w w'
  | 1, vk, w' => Base5 w w' ∧ vk = .bool false ∧ gk = 1
  | _, _, _ => False

/-- Nothing is read. -/
def GLNo (w : World) (e : Ending) (w' : World) : Prop := e = .returned (.tuple #[.slice none 0 0, .agg #[.string ⟨#[]⟩, .int .i64 0], .bool false]) ∧ Below w.heap.size w w'

set_option maxHeartbeats 4000000 in
set_option maxRecDepth 100000 in
theorem implGetLens_count (s : ByteArray) (at0 n : Int) (w : World) (hs : s.size ≤ 1048576) (b1 : -9223372036854775808 ≤ at0) (b2 : at0 ≤ 9223372036854775807) (hn : n < 1 ∨ 260 < n) :
    Calls Try.prog 11 #[.agg #[.string s, .int .i64 at0], .int .i64 n] w (GLNo w) := by
  go_enter Try.func11, Try.ntmps11
  go_wp2
  refine wp_scope4 (fun _ _ _ _ => False) rfl rfl rfl rfl ?h0 ?h2 ?h3 ?h1 ?hf ?hJ
  case hJ =>
    intro g l a' w' hj
    exact hj.elim
  case h0 =>
    intro gk a' wr hj
    exact hj.elim
  case h2 =>
    intro gk a' wr hj
    exact hj.elim
  case h3 =>
    intro _ gk a' wr hj
    exact hj.elim
  case h1 =>
    intro _ gk a' wr hj
    exact hj.elim
  case hf =>
    intro H1 Qx hQx
    clear H1
    have hS := Has.freshAt (w := w.alloc (.cells #[.string s, .int .i64 at0] 33)) (g := w.heap.size + 1) (by simp) 33 #[.string ⟨#[]⟩, .int .i64 0]
    have bb : Below w.heap.size w ((w.alloc (.cells #[.string s, .int .i64 at0] 33)).alloc (.cells #[.string ⟨#[]⟩, .int .i64 0] 33)) := ((Below.refl _ _).alloc (Nat.le_refl _) _).alloc (by simp) _
    have e0 := hS.cell 0
    have e1 := hS.cell 1
    have f0 := hS.free 0
    have f1 := hS.free 1
    simp at e0 e1
    clear hS
    by_cases h1 : n < 1
    · go_wp2
      all_goals (try go_wp2)
      all_goals (try simp only [jumps])
      all_goals
        refine bodyPost_ret (v := .tuple #[.slice none 0 0, .agg #[.string ⟨#[]⟩, .int .i64 0], .bool false]) (by simp [results, Try.results11, go_sem, e0, e1, f0, f1]) rfl ⟨rfl, ?_⟩
        repeat (first | exact Below.refl _ _ | assumption | refine Below.alloc ?_ (by (try simp); (try omega)) _ | refine Below.setCell ?_ (by (try simp); (try omega)) _ | refine Below.drew ?_)
    · have h2 : (260 : Int) < n := by omega
      go_wp2
      all_goals (try go_wp2)
      all_goals (try simp only [jumps])
      all_goals
        refine bodyPost_ret (v := .tuple #[.slice none 0 0, .agg #[.string ⟨#[]⟩, .int .i64 0], .bool false]) (by simp [results, Try.results11, go_sem, e0, e1, f0, f1]) rfl ⟨rfl, ?_⟩
        repeat (first | exact Below.refl _ _ | assumption | refine Below.alloc ?_ (by (try simp); (try omega)) _ | refine Below.setCell ?_ (by (try simp); (try omega)) _ | refine Below.drew ?_)

set_option maxHeartbeats 4000000 in
set_option maxRecDepth 100000 in
theorem implGetLens_place (s : ByteArray) (at0 : Int) (n : Nat) (w : World) (hs : s.size ≤ 1048576) (b1 : -9223372036854775808 ≤ at0) (b2 : at0 ≤ 9223372036854775807) (hn1 : 1 ≤ n) (hn2 : n ≤ 260) (h : ¬ (0 ≤ at0 ∧ at0 ≤ 8 * s.size)) :
    Calls Try.prog 11 #[.agg #[.string s, .int .i64 at0], .int .i64 n] w (GLNo w) := by
  obtain ⟨i0, hi, hz0, hz1, hz2⟩ := info_parts Try.infoInt
  go_enter Try.func11, Try.ntmps11
  go_wp2
  refine wp_scope4 (fun (gk l : Nat) (a' : Act) (w' : World) => ∃ u0 u3 u7 u8 u9 u10 u11 u12 u13 u14 u15 u16 u17 u18 u19 u20 u21 u22 u23 u24 u25 u26 u27 u28 u29 u30 u31 u32 u33 u34 u35 u36 u37 u38 u39 u40 u41 u42 u43 u44 u45 u46 u47 u48 u49 u50 u51 u52 u53 u54 u55 u56 u57 u58 u59 u60 u61 u62 u63 u64 u65 u66 u67 u68 u69 u70 : Value, JumpNo w gk l u10 w' ∧ a' = { tmps := #[u0, .int .i64 n, .pointer (some ⟨w.heap.size, 0, none⟩), u3, .slice none 0 0, .pointer (some ⟨w.heap.size + 1, 0, none⟩), .bool false, u7, u8, u9, u10, u11, u12, u13, u14, u15, u16, u17, u18, u19, u20, u21, u22, u23, u24, u25, u26, u27, u28, u29, u30, u31, u32, u33, u34, u35, u36, u37, u38, u39, u40, u41, u42, u43, u44, u45, u46, u47, u48, u49, u50, u51, u52, u53, u54, u55, u56, u57, u58, u59, u60, u61, u62, u63, u64, u65, u66, u67, u68, u69, u70], defers := [] }) rfl rfl rfl rfl ?h0 ?h2 ?h3 ?h1 ?hf ?hJ
  case hJ =>
    intro g l a' w' hj
    obtain ⟨u0, u3, u7, u8, u9, u10, u11, u12, u13, u14, u15, u16, u17, u18, u19, u20, u21, u22, u23, u24, u25, u26, u27, u28, u29, u30, u31, u32, u33, u34, u35, u36, u37, u38, u39, u40, u41, u42, u43, u44, u45, u46, u47, u48, u49, u50, u51, u52, u53, u54, u55, u56, u57, u58, u59, u60, u61, u62, u63, u64, u65, u66, u67, u68, u69, u70, hrel, rfl⟩ := hj
    match l, hrel with
    | 0, _ => exact .inl rfl
    | 1, _ => exact .inr (.inl rfl)
    | _ + 2, h => exact h.elim
  case h0 =>
    intro gk a' wr hj Qx hQx
    obtain ⟨u0, u3, u7, u8, u9, u10, u11, u12, u13, u14, u15, u16, u17, u18, u19, u20, u21, u22, u23, u24, u25, u26, u27, u28, u29, u30, u31, u32, u33, u34, u35, u36, u37, u38, u39, u40, u41, u42, u43, u44, u45, u46, u47, u48, u49, u50, u51, u52, u53, u54, u55, u56, u57, u58, u59, u60, u61, u62, u63, u64, u65, u66, u67, u68, u69, u70, hrel, rfl⟩ := hj
    obtain ⟨hS, hbl⟩ := hrel
    have e0 := hS.cell 0
    have e1 := hS.cell 1
    have f0 := hS.free 0
    have f1 := hS.free 1
    simp at e0 e1
    have hsb := hbl.size
    have hSl := hS.lt
    clear hS
    go_wp2
    simp only [jumps]
    refine bodyPost_ret (v := .tuple #[.slice none 0 0, .agg #[.string ⟨#[]⟩, .int .i64 0], .bool false]) (by simp [results, Try.results11, go_sem, e0, e1, f0, f1]) rfl ⟨rfl, ?_⟩
    repeat (first | exact Below.refl _ _ | assumption | refine Below.alloc ?_ (by (try simp); (try omega)) _ | refine Below.setCell ?_ (by (try simp); (try omega)) _ | refine Below.drew ?_ | refine bel_then (by assumption) (by (try simp); (try omega)) ?_)
  case h2 =>
    intro gk a' wr hj
    obtain ⟨u0, u3, u7, u8, u9, u10, u11, u12, u13, u14, u15, u16, u17, u18, u19, u20, u21, u22, u23, u24, u25, u26, u27, u28, u29, u30, u31, u32, u33, u34, u35, u36, u37, u38, u39, u40, u41, u42, u43, u44, u45, u46, u47, u48, u49, u50, u51, u52, u53, u54, u55, u56, u57, u58, u59, u60, u61, u62, u63, u64, u65, u66, u67, u68, u69, u70, hrel, rfl⟩ := hj
    exact hrel.elim
  case h3 =>
    intro _ gk a' wr hj
    obtain ⟨u0, u3, u7, u8, u9, u10, u11, u12, u13, u14, u15, u16, u17, u18, u19, u20, u21, u22, u23, u24, u25, u26, u27, u28, u29, u30, u31, u32, u33, u34, u35, u36, u37, u38, u39, u40, u41, u42, u43, u44, u45, u46, u47, u48, u49, u50, u51, u52, u53, u54, u55, u56, u57, u58, u59, u60, u61, u62, u63, u64, u65, u66, u67, u68, u69, u70, hrel, rfl⟩ := hj
    exact hrel.elim
  case h1 =>
    intro H2 gk a' wr hj Qx hQx
    clear H2
    obtain ⟨u0, u3, u7, u8, u9, u10, u11, u12, u13, u14, u15, u16, u17, u18, u19, u20, u21, u22, u23, u24, u25, u26, u27, u28, u29, u30, u31, u32, u33, u34, u35, u36, u37, u38, u39, u40, u41, u42, u43, u44, u45, u46, u47, u48, u49, u50, u51, u52, u53, u54, u55, u56, u57, u58, u59, u60, u61, u62, u63, u64, u65, u66, u67, u68, u69, u70, hrel, rfl⟩ := hj
    obtain ⟨hB, rfl, rfl⟩ := hrel
    have HB := hidden hB
    clear hB
    go_wp2
    go_step3
    show Qx (.goto 0) _ _
    refine to_jump hQx 0 (by omega) ?_
    repeat apply Exists.intro
    refine ⟨?_, rfl⟩
    exact HB.out
  case hf =>
    intro H1 Qx hQx
    have hR := (Has.fresh w 33 #[.string s, .int .i64 at0]).alloc (.cells #[.string ⟨#[]⟩, .int .i64 0] 33)
    have bb : Below w.heap.size w ((w.alloc (.cells #[.string s, .int .i64 at0] 33)).alloc (.cells #[.string ⟨#[]⟩, .int .i64 0] 33)) := ((Below.refl _ _).alloc (Nat.le_refl _) _).alloc (by simp) _
    have hS := Has.freshAt (w := w.alloc (.cells #[.string s, .int .i64 at0] 33)) (g := w.heap.size + 1) (by simp) 33 #[.string ⟨#[]⟩, .int .i64 0]
    have hI : ¬ (n : Int) < 1 := by omega
    have hI2 : ¬ (260 : Int) < n := by omega
    go_wp2_with (at_make; refine wpList_make_own _ rfl _ _ 23 rfl (w.heap.size + 2) 3 i0 (.int .i64 0) 1 Try.underlying23 hi hz0 hz1 _ _ _ n rfl rfl rfl ?b2 ?b3 ?b4 ?_)
    case b2 => first | omega | (rw [hz2]; omega)
    case b3 => unfold maxLen; omega
    intro w1 hown hg
    have hB1 : Base5 w w1 := ⟨hS.grown hg (by simp), bb.grown hg (by simp; omega) (by simp)⟩
    have hR1 := hR.grown hg (by simp)
    have c0 := hR1.cell 0
    have c1 := hR1.cell 1
    have f0 := hR1.free 0
    have f1 := hR1.free 1
    simp at c0 c1
    have HB := hidden hB1
    have HR := hidden hR1
    have hsz := hB1.2.size
    have hRl := hB1.1.lt
    clear hR bb hS hown hg hB1 hR1
    have K := hidden (fun W => implGet_no s at0 5 W hs (by omega) (by omega) (by omega))
    clear h
    go_wp2_with fail
    refine (K.out _).mono ?_
    rintro e w2 ⟨rfl, b2⟩
    have hR2 := HR.out.below b2 HR.out.lt
    have hB2 := HB.out.call b2
    have g0 := hR2.free 0
    have g1 := hR2.free 1
    have d0 := hR2.cell 0
    have d1 := hR2.cell 1
    simp at d0 d1
    have HB3 := hidden (hB2.put (.string ⟨#[]⟩) (.int .i64 0))
    have hsz2 := hB2.2.size
    clear b2 hR2 hB2 K c0 c1 f0 f1 HR HB
    go_wp2
    go_step3
    rename_i KK hKK
    refine hKK _ _ (to_fall_first hQx H1 1 ?_)
    repeat apply Exists.intro
    refine ⟨?_, rfl⟩
    exact ⟨HB3.out, rfl, rfl⟩

theorem implGetLens_no (s : ByteArray) (at0 n : Int) (w : World) (hs : s.size ≤ 1048576) (b1 : -9223372036854775808 ≤ at0) (b2 : at0 ≤ 9223372036854775807) (h : ¬ (0 ≤ at0 ∧ at0 ≤ 8 * s.size ∧ 1 ≤ n ∧ n ≤ 260)) :
    Calls Try.prog 11 #[.agg #[.string s, .int .i64 at0], .int .i64 n] w (GLNo w) := by
  by_cases hn : n < 1 ∨ 260 < n
  · exact implGetLens_count s at0 n w hs b1 b2 hn
  · obtain ⟨m, rfl⟩ : ∃ q : Nat, n = q := ⟨n.toNat, by omega⟩
    exact implGetLens_place s at0 m w hs b1 b2 (by omega) (by omega) (by omega)
end Go.Proofs.Ytpngomjkapccdaa
