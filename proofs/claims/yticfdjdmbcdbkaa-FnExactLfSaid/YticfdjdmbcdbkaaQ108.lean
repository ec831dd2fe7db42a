/- Merged: ExA, WExRotations, WExLast, WExPeriodC, WExLf, WExUnrotate. -/
import Derived.Test.YticfdjdmbcdbkaaQ102
import Derived.Test.YticfdjdmbcdbkaaQ103
import Derived.Deep.RegionHeld3
import Derived.Deep.Cut
import Derived.Deep.DeepCutAuto
namespace Go.Proofs.Yticfdjdmbcdbkaa
set_option linter.unusedVariables false
set_option linter.unusedSimpArgs false
open Go.RowKit Go.ChangeShapes Go.WideShapes Go.ChangeAt

theorem Ints.ofRowE {w : World} {a : Option Addr} {len cap : Nat} {zs : List Int} (h : IsRow .i64 w a len cap zs) (hle : len ≤ 1048576) : ∃ ys : List Int, ys.length = len ∧ Ints w w.heap.size a ys := by
  rcases h with ⟨rfl, rfl, rfl, rfl⟩ | ⟨x, rfl, hl, hm, hz, hc, hwz⟩
  · exact ⟨[], rfl, by simp, by simp, fun h => by simp at h⟩
  · have hlen : (zs.take len).length = len := by rw [List.length_take]; omega
    refine ⟨zs.take len, hlen, by rw [hlen]; omega, fun n hn => ?_, fun h0 => ?_⟩
    · exact bounds_i64 (hwz n (List.mem_of_mem_take hn))
    · have h1 := hc 0 (by omega)
      obtain ⟨b, off, spot⟩ := x
      have hspot : spot = none := by simpa [Addr.add] using World.cell?_spot h1
      subst hspot
      refine ⟨b, off, rfl, ?_, fun i hi => ?_⟩
      · have := cell_lt h1
        simpa [Addr.add] using this
      · rw [hlen] at hi
        have := hc i (by omega)
        have e2 : (zs.take len).getD i 0 = zs.getD i 0 := by simp [List.getD_eq_getElem?_getD, List.getElem?_take, hi]
        rw [e2]
        by_cases e : i = 0
        · subst e; simpa [Addr.add] using this
        · simpa [Addr.add, e] using this
theorem isrow_lenE {w : World} {a : Option Addr} {len cap : Nat} {zs : List Int} (h : IsRow .i64 w a len cap zs) : len ≤ maxLen := by
  rcases h with ⟨rfl, rfl, rfl, rfl⟩ | ⟨x, rfl, hl, hm, hz, hc, hwz⟩ <;> omega
/-- A row of integers of one's own is a slice of integers. -/
theorem own_ints {w : World} {base n c : Nat} {a : Option Addr} {zs : List Int} (h : w.ownsRow base 3 1 (.slice a n c) n (intsV zs)) (hr : ∀ x ∈ zs, -9223372036854775808 ≤ x ∧ x ≤ 9223372036854775807) (hn : n ≤ 1048576) : Ints w w.heap.size a zs := (Ints.ofOwn h (by omega) hr).2
theorem own_form {w : World} {base n : Nat} {v : Value} {xs : List Value} {E : TypeId} {S : Nat} (h : w.ownsRow base E S v n xs) : ∃ a c, v = .slice a n c := by
  rcases h.2 with ⟨rfl, rfl⟩ | ⟨g, cap, cur, rfl, _⟩
  · exact ⟨none, 0, rfl⟩
  · exact ⟨_, cap, rfl⟩
theorem own_blk {w w' : World} {base : Nat} {e : TypeId} {size : Nat} {v : Value} {n : Nat} {xs : List Value} (h : w.ownsRow base e size v n xs) (hb : ∀ i, i < w.heap.size → w'.heap[i]? = w.heap[i]?) : w'.ownsRow base e size v n xs := by
  refine ⟨h.1, ?_⟩
  rcases h.2 with h2 | ⟨g, cap, cur, hv, hg, hc, hr⟩
  · exact .inl h2
  · refine .inr ⟨g, cap, cur, hv, hg, ?_, hr⟩
    rw [hb g (Array.getElem?_eq_some_iff.1 hc).1]; exact hc
/-- Where a row lies. -/
def Ranged (v : Value) (lo hi : Nat) : Prop := ∀ k, v.ownBlock = some k → lo ≤ k ∧ k < hi
theorem own_ranged {w : World} {base n S : Nat} {v : Value} {xs : List Value} {E : TypeId} (h : w.ownsRow base E S v n xs) : Ranged v base w.heap.size := h.lt
theorem ranged_ne {v1 v2 : Value} {l1 h1 l2 h2 : Nat} (r1 : Ranged v1 l1 h1) (r2 : Ranged v2 l2 h2) (h : h1 ≤ l2 ∨ h2 ≤ l1) : v1.ownBlock = none ∨ v1.ownBlock ≠ v2.ownBlock := by
  cases e : v1.ownBlock with
  | none => exact .inl rfl
  | some k =>
    refine .inr fun e2 => ?_
    have a := r1 k e
    have b := r2 k e2.symm
    omega
theorem ranged_box {v : Value} {l h g : Nat} (r : Ranged v l h) (hg : g < l ∨ h ≤ g) : some g ≠ v.ownBlock := fun e => by have := r g e.symm; omega
theorem bel_grown {w W W' : World} {v : Value} {lo hi : Nat} (B : Below w.heap.size w W) (gr : W.grownBy W' v.ownBlock) (r : Ranged v lo hi) (hlo : w.heap.size ≤ lo) : Below w.heap.size w W' :=
  B.grown gr B.size (fun b hb => Nat.le_trans hlo (r b hb).1)
theorem eq_e {n : Nat} (p q : Option Addr) (c c2 : Nat) (zs : List Int) (w : World) (hn : zs.length = n) (hz : Ints w w.heap.size p zs) (hy : Ints w w.heap.size q zs) :
    Calls Try.prog 10 #[.slice p n c, .slice q n c2] w fun e w' => e = .returned (.bool true) ∧ Below w.heap.size w w' := by
  subst hn
  have := eqIntS_any p q c c2 w.heap.size zs zs w hz hy
  simpa using this
theorem mark_e {n k : Nat} {v : Value} (base : Nat) (zs : List Int) (w : World) (h : w.ownsRow base 3 1 v n (intsV zs)) (hn : n ≤ 1048576) (hk : k ≤ 1000000000) (x : Int) (hx : x = (k : Int)) :
    Calls Try.prog 11 #[v, .int .i64 x] w fun e w' => e = .returned (.int .i64 (x + (n : Int))) ∧ w'.ownsRow base 3 1 v n (intsV (upFrom k n)) ∧ w.grownBy w' v.ownBlock := by
  subst hx
  refine (markIntS_any base k n _ zs w h hn hk).mono ?_
  rintro e w' ⟨rfl, h1, h2⟩
  exact ⟨by simp, h1, h2⟩
theorem held_e {n c : Nat} {a : Option Addr} (base : Nat) (w : World) (h : w.ownsRow base 3 1 (.slice a n c) n (intsV (upFrom 1 n))) (hn : n ≤ 1048576) :
    Calls Try.prog 12 #[.slice a n c, .int .i64 1] w fun e w' => e = .returned (.int .i64 (1 + (n : Int))) ∧ w = w' := by
  have hI := (Ints.ofOwn h (by omega) (fun x hx => by
    obtain ⟨j, hj, e⟩ := mem_getD hx
    rw [upFrom_len] at hj
    rw [upFrom_get 1 n j hj] at e
    omega)).2
  refine (heldIntS_any a c _ 1 n w hI hn (by omega)).mono ?_
  rintro e w' ⟨rfl, h1⟩
  exact ⟨by simp, h1.symm⟩
end Go.Proofs.Yticfdjdmbcdbkaa
namespace Go.Proofs.Yticfdjdmbcdbkaa
set_option linter.unusedVariables false
set_option linter.unusedSimpArgs false
open Go.RowKit Go.ChangeShapes Go.WideShapes Go.ChangeAt

/-- For all arguments in bounds the model and the program answer the same. -/
def MeetsRotations : Prop := ∀ (s0 : ByteArray), s0.size ≤ 1048576 → ∃ (y0 : List Int), (y0.length ≤ 1048576 ∧ ∀ x ∈ y0, -9223372036854775808 ≤ x ∧ x ≤ 9223372036854775807) ∧ (∀ (W : World), Calls Try.prog 8 #[.string s0] W fun e w' => ∃ v0, e = .returned (v0) ∧ w'.ownsRow W.heap.size 3 1 v0 y0.length (intsV y0) ∧ Below W.heap.size W w') ∧ (∀ (W : World), Calls Try.prog 9 #[.string s0] W fun e w' => ∃ v0, e = .returned (v0) ∧ w'.ownsRow W.heap.size 3 1 v0 y0.length (intsV y0) ∧ Below W.heap.size W w')
set_option maxHeartbeats 4000000 in
set_option maxRecDepth 100000 in
theorem in_FnExactRotations (w : World) (s0 : ByteArray) (hb0 : s0.size ≤ 1048576) (y0 : List Int)
    (m0 : Nat) (HY0 : Hid (y0.length = m0)) (hm0 : m0 ≤ 1048576) (HR0 : Hid (∀ x ∈ y0, -9223372036854775808 ≤ x ∧ x ≤ 9223372036854775807))
    (KS : Hid (∀ (W : World), Calls Try.prog 8 #[.string s0] W fun e w' => ∃ v0, e = .returned (v0) ∧ w'.ownsRow W.heap.size 3 1 v0 m0 (intsV y0) ∧ Below W.heap.size W w'))
    (KI : Hid (∀ (W : World), Calls Try.prog 9 #[.string s0] W fun e w' => ∃ v0, e = .returned (v0) ∧ w'.ownsRow W.heap.size 3 1 v0 m0 (intsV y0) ∧ Below W.heap.size W w')) :
    Calls Try.prog 3 #[.string s0] w fun e w' => e = .returned (.bool true) ∧ Below w.heap.size w w' := by
  have hg0 : ¬ (1048576 : Int) < (s0.size : Int) := by omega
  have hn0 : ¬ (1 : Int) + (m0 : Int) < 0 := by omega
  have hq0 : (1 : Int) + (m0 : Int) ≠ (1 : Int) + (m0 : Int) → False := fun h => h rfl
  go_enter Try.func3, Try.ntmps3
  go_wp2_with fail
  refine (KS.out w  ).mono ?_
  rintro e W1 ⟨v0_1, rfl, o0_1, b1⟩
  obtain ⟨gw0, cw0, rfl⟩ := own_form o0_1
  have B1 : Below w.heap.size w W1 := bel_then b1 (Below.refl w.heap.size w).size (Below.refl w.heap.size w)
  have sB1 := b1.size
  have Yw0 := hidden o0_1
  have Qw0 := own_ranged o0_1
  clear o0_1
  clear b1
  go_wp2_with fail
  refine (KI.out W1  ).mono ?_
  rintro e W2 ⟨v0_2, rfl, o0_2, b2⟩
  obtain ⟨gg0, cg0, rfl⟩ := own_form o0_2
  have B2 : Below w.heap.size w W2 := bel_then b2 B1.size B1
  have sB2 := b2.size
  have Yw0_2 := hidden (own_bel Yw0.out b2)
  clear Yw0
  have Yg0 := hidden o0_2
  have Qg0 := own_ranged o0_2
  clear o0_2
  clear b2
  go_wp2_with fail
  refine (eq_e _ _ _ _ y0 W2 HY0.out (own_ints Yg0.out HR0.out hm0) (own_ints Yw0_2.out HR0.out hm0)).mono ?_
  rintro e W3 ⟨rfl, b3⟩
  have B3 : Below w.heap.size w W3 := bel_then b3 B2.size B2
  have sB3 := b3.size
  have Yw0_3 := hidden (own_bel Yw0_2.out b3)
  clear Yw0_2
  have Yg0_3 := hidden (own_bel Yg0.out b3)
  clear Yg0
  clear b3
  go_wp2_with fail
  refine (mark_e (k := 1) _ y0 W3 Yg0_3.out hm0 (by omega) _ (by simp)).mono ?_
  rintro e W4 ⟨rfl, o4, gr4⟩
  have B4 : Below w.heap.size w W4 := bel_grown B3 gr4 Qg0 (by omega)
  have sB4 := gr4.size
  have Yw0_4 := hidden (Yw0_3.out.kept gr4 (ranged_ne Qw0 Qg0 (by omega)))
  clear Yw0_3
  have Yg0_4 := hidden o4
  clear Yg0_3
  clear o4 gr4
  go_wp2_with fail
  refine (held_e _ W4 Yg0_4.out hm0).mono ?_
  rintro e _ ⟨rfl, rfl⟩
  go_wp2_with fail
  refine (KI.out W4  ).mono ?_
  rintro e W5 ⟨v0_5, rfl, o0_5, b5⟩
  obtain ⟨gh0, ch0, rfl⟩ := own_form o0_5
  have B5 : Below w.heap.size w W5 := bel_then b5 B4.size B4
  have sB5 := b5.size
  have Yw0_5 := hidden (own_bel Yw0_4.out b5)
  clear Yw0_4
  have Yg0_5 := hidden (own_bel Yg0_4.out b5)
  clear Yg0_4
  have Yh0 := hidden o0_5
  have Qh0 := own_ranged o0_5
  clear o0_5
  clear b5
  go_wp2_with fail
  refine (eq_e _ _ _ _ y0 W5 HY0.out (own_ints Yh0.out HR0.out hm0) (own_ints Yw0_5.out HR0.out hm0)).mono ?_
  rintro e W6 ⟨rfl, b6⟩
  have B6 : Below w.heap.size w W6 := bel_then b6 B5.size B5
  have sB6 := b6.size
  have Yw0_6 := hidden (own_bel Yw0_5.out b6)
  clear Yw0_5
  have Yg0_6 := hidden (own_bel Yg0_5.out b6)
  clear Yg0_5
  have Yh0_6 := hidden (own_bel Yh0.out b6)
  clear Yh0
  clear b6
  go_wp2_with fail
  refine (held_e _ W6 Yg0_6.out hm0).mono ?_
  rintro e _ ⟨rfl, rfl⟩
  go_wp2
  go_ret
  exact ⟨rfl, B6⟩
set_option maxRecDepth 100000 in
theorem walk_FnExactRotations (hM : MeetsRotations) (w : World) (s0 : ByteArray) (w0 : s0.size ≤ maxLen) :
    Calls Try.prog 3 #[.string s0] w fun e w' => e = .returned (.bool true) ∧ Below w.heap.size w w' := by
  by_cases hb0 : s0.size ≤ 1048576
  rotate_left
  · have hx : (1048576 : Int) < (s0.size : Int) := by omega
    unfold maxLen at *
    clear hM
    go_enter Try.func3, Try.ntmps3
    go_wp2
    go_ret
    first | exact ⟨rfl, Below.refl _ _⟩ | exact ⟨rfl, (Below.refl _ _).alloc (Nat.le_refl _) _⟩
  obtain ⟨y0, ⟨hm0, hr0⟩, hs, hi⟩ := hM s0 hb0
  exact in_FnExactRotations w s0 hb0 y0 _ (hidden rfl) hm0 (hidden hr0) (hidden hs) (hidden hi)
end Go.Proofs.Yticfdjdmbcdbkaa
namespace Go.Proofs.Yticfdjdmbcdbkaa
set_option linter.unusedVariables false
set_option linter.unusedSimpArgs false
open Go.RowKit Go.ChangeShapes Go.WideShapes Go.ChangeAt

/-- For all arguments in bounds the model and the program answer the same. -/
def MeetsLast : Prop := ∀ (s0 : ByteArray), s0.size ≤ 1048576 → ∃ (r0 : ByteArray) (r1 : Int), (∀ (W : World), Calls Try.prog 13 #[.string s0] W fun e w' => e = .returned (.tuple #[.string r0, .int .i64 r1]) ∧ Below W.heap.size W w') ∧ (∀ (W : World), Calls Try.prog 14 #[.string s0] W fun e w' => e = .returned (.tuple #[.string r0, .int .i64 r1]) ∧ Below W.heap.size W w')
set_option maxHeartbeats 4000000 in
set_option maxRecDepth 100000 in
theorem in_FnExactLast (w : World) (s0 : ByteArray) (hb0 : s0.size ≤ 1048576) (r0 : ByteArray) (r1 : Int)
    (KS : Hid (∀ (W : World), Calls Try.prog 13 #[.string s0] W fun e w' => e = .returned (.tuple #[.string r0, .int .i64 r1]) ∧ Below W.heap.size W w'))
    (KI : Hid (∀ (W : World), Calls Try.prog 14 #[.string s0] W fun e w' => e = .returned (.tuple #[.string r0, .int .i64 r1]) ∧ Below W.heap.size W w')) :
    Calls Try.prog 4 #[.string s0] w fun e w' => e = .returned (.bool true) ∧ Below w.heap.size w w' := by
  have hg0 : ¬ (1048576 : Int) < (s0.size : Int) := by omega
  go_enter Try.func4, Try.ntmps4
  go_wp2_with fail
  refine (KS.out w  ).mono ?_
  rintro e W1 ⟨rfl, b1⟩
  have B1 : Below w.heap.size w W1 := bel_then b1 (Below.refl w.heap.size w).size (Below.refl w.heap.size w)
  have sB1 := b1.size
  clear b1
  go_wp2_with fail
  refine (KI.out W1  ).mono ?_
  rintro e W2 ⟨rfl, b2⟩
  have B2 : Below w.heap.size w W2 := bel_then b2 B1.size B1
  have sB2 := b2.size
  clear b2
  go_wp2
  go_ret
  exact ⟨rfl, B2⟩
set_option maxRecDepth 100000 in
theorem walk_FnExactLast (hM : MeetsLast) (w : World) (s0 : ByteArray) (w0 : s0.size ≤ maxLen) :
    Calls Try.prog 4 #[.string s0] w fun e w' => e = .returned (.bool true) ∧ Below w.heap.size w w' := by
  by_cases hb0 : s0.size ≤ 1048576
  rotate_left
  · have hx : (1048576 : Int) < (s0.size : Int) := by omega
    unfold maxLen at *
    clear hM
    go_enter Try.func4, Try.ntmps4
    go_wp2
    go_ret
    first | exact ⟨rfl, Below.refl _ _⟩ | exact ⟨rfl, (Below.refl _ _).alloc (Nat.le_refl _) _⟩
  obtain ⟨r0, r1, hs, hi⟩ := hM s0 hb0
  exact in_FnExactLast w s0 hb0 r0 r1  (hidden hs) (hidden hi)
end Go.Proofs.Yticfdjdmbcdbkaa
namespace Go.Proofs.Yticfdjdmbcdbkaa
set_option linter.unusedVariables false
set_option linter.unusedSimpArgs false
open Go.RowKit Go.ChangeShapes Go.WideShapes Go.ChangeAt

theorem cell_lt10 {w : World} {p : Addr} {v : Value} (h : w.cell? p = some v) : p.block < w.heap.size := by
  rcases Nat.lt_or_ge p.block w.heap.size with hl | hl
  · exact hl
  · unfold World.cell? at h
    rw [Array.getElem?_eq_none hl] at h
    cases h
/-- For all arguments in bounds the model and the program answer the same. -/
def MeetsPeriodC : Prop := ∀ (s0 : ByteArray), s0.size ≤ 1048576 → ∃ (r0 : Int), (∀ (W : World), Calls Try.prog 15 #[.string s0] W fun e w' => e = .returned (.int .i64 r0) ∧ Below W.heap.size W w') ∧ (∀ (W : World) (m : Int), W.cell? ⟨0, 0, none⟩ = some (.int .i64 m) → Calls Try.prog 16 #[.string s0] W fun e w' => e = .returned (.int .i64 r0) ∧ Below W.heap.size W w')
set_option maxHeartbeats 4000000 in
set_option maxRecDepth 100000 in
theorem in_FnExactPeriodC (w : World) (m : Int) (hm : w.cell? ⟨0, 0, none⟩ = some (.int .i64 m)) (s0 : ByteArray) (hb0 : s0.size ≤ 1048576) (r0 : Int)
    (KS : Hid (∀ (W : World), Calls Try.prog 15 #[.string s0] W fun e w' => e = .returned (.int .i64 r0) ∧ Below W.heap.size W w'))
    (KI : Hid (∀ (W : World) (m : Int), W.cell? ⟨0, 0, none⟩ = some (.int .i64 m) → Calls Try.prog 16 #[.string s0] W fun e w' => e = .returned (.int .i64 r0) ∧ Below W.heap.size W w')) :
    Calls Try.prog 5 #[.string s0] w fun e w' => e = .returned (.bool true) ∧ Below w.heap.size w w' := by
  have HM := hidden hm
  clear hm
  have hg0 : ¬ (1048576 : Int) < (s0.size : Int) := by omega
  go_enter Try.func5, Try.ntmps5
  go_wp2_with fail
  refine (KS.out w  ).mono ?_
  rintro e W1 ⟨rfl, b1⟩
  have B1 : Below w.heap.size w W1 := bel_then b1 (Below.refl w.heap.size w).size (Below.refl w.heap.size w)
  have sB1 := b1.size
  clear b1
  go_wp2_with fail
  refine (KI.out W1 m ((B1.cell (p := ⟨0, 0, none⟩) (cell_lt10 HM.out)).trans HM.out)).mono ?_
  rintro e W2 ⟨rfl, b2⟩
  have B2 : Below w.heap.size w W2 := bel_then b2 B1.size B1
  have sB2 := b2.size
  clear b2
  go_wp2
  go_ret
  exact ⟨rfl, B2⟩
set_option maxRecDepth 100000 in
theorem walk_FnExactPeriodC (hM : MeetsPeriodC) (w : World) (m : Int) (hm : w.cell? ⟨0, 0, none⟩ = some (.int .i64 m)) (s0 : ByteArray) (w0 : s0.size ≤ maxLen) :
    Calls Try.prog 5 #[.string s0] w fun e w' => e = .returned (.bool true) ∧ Below w.heap.size w w' := by
  by_cases hb0 : s0.size ≤ 1048576
  rotate_left
  · have hx : (1048576 : Int) < (s0.size : Int) := by omega
    unfold maxLen at *
    clear hM
    go_enter Try.func5, Try.ntmps5
    go_wp2
    go_ret
    first | exact ⟨rfl, Below.refl _ _⟩ | exact ⟨rfl, (Below.refl _ _).alloc (Nat.le_refl _) _⟩
  obtain ⟨r0, hs, hi⟩ := hM s0 hb0
  exact in_FnExactPeriodC w m hm s0 hb0 r0  (hidden hs) (hidden hi)
end Go.Proofs.Yticfdjdmbcdbkaa
namespace Go.Proofs.Yticfdjdmbcdbkaa
set_option linter.unusedVariables false
set_option linter.unusedSimpArgs false
open Go.RowKit Go.ChangeShapes Go.WideShapes Go.ChangeAt

/-- For all arguments in bounds the model and the program answer the same. -/
def MeetsLf : Prop := ∀ (s0 : ByteArray), s0.size ≤ 1048576 → ∃ (y0 : List Int), (y0.length ≤ 1048576 ∧ ∀ x ∈ y0, -9223372036854775808 ≤ x ∧ x ≤ 9223372036854775807) ∧ (∀ (W : World), Calls Try.prog 17 #[.string s0] W fun e w' => ∃ v0, e = .returned (v0) ∧ w'.ownsRow W.heap.size 3 1 v0 y0.length (intsV y0) ∧ Below W.heap.size W w') ∧ (∀ (W : World), Calls Try.prog 18 #[.string s0] W fun e w' => ∃ v0, e = .returned (v0) ∧ w'.ownsRow W.heap.size 3 1 v0 y0.length (intsV y0) ∧ Below W.heap.size W w')
set_option maxHeartbeats 4000000 in
set_option maxRecDepth 100000 in
theorem in_FnExactLf (w : World) (s0 : ByteArray) (hb0 : s0.size ≤ 1048576) (y0 : List Int)
    (m0 : Nat) (HY0 : Hid (y0.length = m0)) (hm0 : m0 ≤ 1048576) (HR0 : Hid (∀ x ∈ y0, -9223372036854775808 ≤ x ∧ x ≤ 9223372036854775807))
    (KS : Hid (∀ (W : World), Calls Try.prog 17 #[.string s0] W fun e w' => ∃ v0, e = .returned (v0) ∧ w'.ownsRow W.heap.size 3 1 v0 m0 (intsV y0) ∧ Below W.heap.size W w'))
    (KI : Hid (∀ (W : World), Calls Try.prog 18 #[.string s0] W fun e w' => ∃ v0, e = .returned (v0) ∧ w'.ownsRow W.heap.size 3 1 v0 m0 (intsV y0) ∧ Below W.heap.size W w')) :
    Calls Try.prog 6 #[.string s0] w fun e w' => e = .returned (.bool true) ∧ Below w.heap.size w w' := by
  have hg0 : ¬ (1048576 : Int) < (s0.size : Int) := by omega
  have hn0 : ¬ (1 : Int) + (m0 : Int) < 0 := by omega
  have hq0 : (1 : Int) + (m0 : Int) ≠ (1 : Int) + (m0 : Int) → False := fun h => h rfl
  go_enter Try.func6, Try.ntmps6
  go_wp2_with fail
  refine (KS.out w  ).mono ?_
  rintro e W1 ⟨v0_1, rfl, o0_1, b1⟩
  obtain ⟨gw0, cw0, rfl⟩ := own_form o0_1
  have B1 : Below w.heap.size w W1 := bel_then b1 (Below.refl w.heap.size w).size (Below.refl w.heap.size w)
  have sB1 := b1.size
  have Yw0 := hidden o0_1
  have Qw0 := own_ranged o0_1
  clear o0_1
  clear b1
  go_wp2_with fail
  refine (KI.out W1  ).mono ?_
  rintro e W2 ⟨v0_2, rfl, o0_2, b2⟩
  obtain ⟨gg0, cg0, rfl⟩ := own_form o0_2
  have B2 : Below w.heap.size w W2 := bel_then b2 B1.size B1
  have sB2 := b2.size
  have Yw0_2 := hidden (own_bel Yw0.out b2)
  clear Yw0
  have Yg0 := hidden o0_2
  have Qg0 := own_ranged o0_2
  clear o0_2
  clear b2
  go_wp2_with fail
  refine (eq_e _ _ _ _ y0 W2 HY0.out (own_ints Yg0.out HR0.out hm0) (own_ints Yw0_2.out HR0.out hm0)).mono ?_
  rintro e W3 ⟨rfl, b3⟩
  have B3 : Below w.heap.size w W3 := bel_then b3 B2.size B2
  have sB3 := b3.size
  have Yw0_3 := hidden (own_bel Yw0_2.out b3)
  clear Yw0_2
  have Yg0_3 := hidden (own_bel Yg0.out b3)
  clear Yg0
  clear b3
  go_wp2_with fail
  refine (mark_e (k := 1) _ y0 W3 Yg0_3.out hm0 (by omega) _ (by simp)).mono ?_
  rintro e W4 ⟨rfl, o4, gr4⟩
  have B4 : Below w.heap.size w W4 := bel_grown B3 gr4 Qg0 (by omega)
  have sB4 := gr4.size
  have Yw0_4 := hidden (Yw0_3.out.kept gr4 (ranged_ne Qw0 Qg0 (by omega)))
  clear Yw0_3
  have Yg0_4 := hidden o4
  clear Yg0_3
  clear o4 gr4
  go_wp2_with fail
  refine (held_e _ W4 Yg0_4.out hm0).mono ?_
  rintro e _ ⟨rfl, rfl⟩
  go_wp2_with fail
  refine (KI.out W4  ).mono ?_
  rintro e W5 ⟨v0_5, rfl, o0_5, b5⟩
  obtain ⟨gh0, ch0, rfl⟩ := own_form o0_5
  have B5 : Below w.heap.size w W5 := bel_then b5 B4.size B4
  have sB5 := b5.size
  have Yw0_5 := hidden (own_bel Yw0_4.out b5)
  clear Yw0_4
  have Yg0_5 := hidden (own_bel Yg0_4.out b5)
  clear Yg0_4
  have Yh0 := hidden o0_5
  have Qh0 := own_ranged o0_5
  clear o0_5
  clear b5
  go_wp2_with fail
  refine (eq_e _ _ _ _ y0 W5 HY0.out (own_ints Yh0.out HR0.out hm0) (own_ints Yw0_5.out HR0.out hm0)).mono ?_
  rintro e W6 ⟨rfl, b6⟩
  have B6 : Below w.heap.size w W6 := bel_then b6 B5.size B5
  have sB6 := b6.size
  have Yw0_6 := hidden (own_bel Yw0_5.out b6)
  clear Yw0_5
  have Yg0_6 := hidden (own_bel Yg0_5.out b6)
  clear Yg0_5
  have Yh0_6 := hidden (own_bel Yh0.out b6)
  clear Yh0
  clear b6
  go_wp2_with fail
  refine (held_e _ W6 Yg0_6.out hm0).mono ?_
  rintro e _ ⟨rfl, rfl⟩
  go_wp2
  go_ret
  exact ⟨rfl, B6⟩
set_option maxRecDepth 100000 in
theorem walk_FnExactLf (hM : MeetsLf) (w : World) (s0 : ByteArray) (w0 : s0.size ≤ maxLen) :
    Calls Try.prog 6 #[.string s0] w fun e w' => e = .returned (.bool true) ∧ Below w.heap.size w w' := by
  by_cases hb0 : s0.size ≤ 1048576
  rotate_left
  · have hx : (1048576 : Int) < (s0.size : Int) := by omega
    unfold maxLen at *
    clear hM
    go_enter Try.func6, Try.ntmps6
    go_wp2
    go_ret
    first | exact ⟨rfl, Below.refl _ _⟩ | exact ⟨rfl, (Below.refl _ _).alloc (Nat.le_refl _) _⟩
  obtain ⟨y0, ⟨hm0, hr0⟩, hs, hi⟩ := hM s0 hb0
  exact in_FnExactLf w s0 hb0 y0 _ (hidden rfl) hm0 (hidden hr0) (hidden hs) (hidden hi)
end Go.Proofs.Yticfdjdmbcdbkaa
namespace Go.Proofs.Yticfdjdmbcdbkaa
set_option linter.unusedVariables false
set_option linter.unusedSimpArgs false
open Go.RowKit Go.ChangeShapes Go.WideShapes Go.ChangeAt

/-- For all arguments in bounds the model and the program answer the same. -/
def MeetsUnrotate : Prop := ∀ (s0 : ByteArray) (a1 : Int), s0.size ≤ 1048576 → -9223372036854775808 ≤ a1 → a1 ≤ 9223372036854775807 → ∃ (r0 : ByteArray) (r1 : Bool), (∀ (W : World), Calls Try.prog 19 #[.string s0, .int .i64 a1] W fun e w' => e = .returned (.tuple #[.string r0, .bool r1]) ∧ Below W.heap.size W w') ∧ (∀ (W : World), Calls Try.prog 20 #[.string s0, .int .i64 a1] W fun e w' => e = .returned (.tuple #[.string r0, .bool r1]) ∧ Below W.heap.size W w')
set_option maxHeartbeats 4000000 in
set_option maxRecDepth 100000 in
theorem in_FnExactUnrotate (w : World) (s0 : ByteArray) (hb0 : s0.size ≤ 1048576) (a1 : Int) (b1 : -9223372036854775808 ≤ a1) (d1 : a1 ≤ 9223372036854775807) (r0 : ByteArray) (r1 : Bool)
    (KS : Hid (∀ (W : World), Calls Try.prog 19 #[.string s0, .int .i64 a1] W fun e w' => e = .returned (.tuple #[.string r0, .bool r1]) ∧ Below W.heap.size W w'))
    (KI : Hid (∀ (W : World), Calls Try.prog 20 #[.string s0, .int .i64 a1] W fun e w' => e = .returned (.tuple #[.string r0, .bool r1]) ∧ Below W.heap.size W w')) :
    Calls Try.prog 7 #[.string s0, .int .i64 a1] w fun e w' => e = .returned (.bool true) ∧ Below w.heap.size w w' := by
  have hg0 : ¬ (1048576 : Int) < (s0.size : Int) := by omega
  go_enter Try.func7, Try.ntmps7
  go_wp2_with fail
  refine (KS.out w  ).mono ?_
  rintro e W1 ⟨rfl, b1⟩
  have B1 : Below w.heap.size w W1 := bel_then b1 (Below.refl w.heap.size w).size (Below.refl w.heap.size w)
  have sB1 := b1.size
  clear b1
  go_wp2_with fail
  refine (KI.out W1  ).mono ?_
  rintro e W2 ⟨rfl, b2⟩
  have B2 : Below w.heap.size w W2 := bel_then b2 B1.size B1
  have sB2 := b2.size
  clear b2
  go_wp2
  go_ret
  exact ⟨rfl, B2⟩
set_option maxRecDepth 100000 in
theorem walk_FnExactUnrotate (hM : MeetsUnrotate) (w : World) (s0 : ByteArray) (w0 : s0.size ≤ maxLen) (a1 : Int) (b1 : -9223372036854775808 ≤ a1) (d1 : a1 ≤ 9223372036854775807) :
    Calls Try.prog 7 #[.string s0, .int .i64 a1] w fun e w' => e = .returned (.bool true) ∧ Below w.heap.size w w' := by
  by_cases hb0 : s0.size ≤ 1048576
  rotate_left
  · have hx : (1048576 : Int) < (s0.size : Int) := by omega
    unfold maxLen at *
    clear hM
    go_enter Try.func7, Try.ntmps7
    go_wp2
    go_ret
    first | exact ⟨rfl, Below.refl _ _⟩ | exact ⟨rfl, (Below.refl _ _).alloc (Nat.le_refl _) _⟩
  obtain ⟨r0, r1, hs, hi⟩ := hM s0 a1 hb0 b1 d1
  exact in_FnExactUnrotate w s0 hb0 a1 b1 d1 r0 r1  (hidden hs) (hidden hi)
end Go.Proofs.Yticfdjdmbcdbkaa
