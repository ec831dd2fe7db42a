/- Texts of the proof, merged. -/
import Derived.Deep.RegionHeld3
import Derived.Deep.Cut
import Derived.Deep.DeepCutAuto
import Derived.Test.YtembljihmnmmfaaGreatKS4
import Derived.Test.YtembljihmnmmfaaGreatKS5
import Derived.OpenShut
import Derived.Lib.SmallJoins
namespace Go.Proofs.YtembljihmnmmfaaGreat
set_option linter.unusedVariables false
set_option linter.unusedSimpArgs false
open Go.RowKit Go.ChangeShapes Go.WideShapes Go.ChangeAt

/-- A row of integers of one's own is a slice of integers. -/
theorem own_ints {w : World} {base n c : Nat} {a : Option Addr} {zs : List Int} (h : w.ownsRow base 3 1 (.slice a n c) n (intsV zs)) (hr : ∀ x ∈ zs, -9223372036854775808 ≤ x ∧ x ≤ 9223372036854775807) (hn : n ≤ 1048576) : Ints w w.heap.size a zs := (Ints.ofOwn h (by omega) hr).2
theorem own_form {w : World} {base n : Nat} {v : Value} {xs : List Value} {E : TypeId} {S : Nat} (h : w.ownsRow base E S v n xs) : ∃ a c, v = .slice a n c := by
  rcases h.2 with ⟨rfl, rfl⟩ | ⟨g, cap, cur, rfl, _⟩
  · exact ⟨none, 0, rfl⟩
  · exact ⟨_, cap, rfl⟩
/-- Where a row lies. -/
def Ranged (v : Value) (lo hi : Nat) : Prop := ∀ k, v.ownBlock = some k → lo ≤ k ∧ k < hi
theorem own_ranged {w : World} {base n S : Nat} {v : Value} {xs : List Value} {E : TypeId} (h : w.ownsRow base E S v n xs) : Ranged v base w.heap.size := h.lt
theorem ranged_ne {v1 v2 : Value} {l1 h1 l2 h2 : Nat} (r1 : Ranged v1 l1 h1) (r2 : Ranged v2 l2 h2) (h : h1 ≤ l2 ∨ h2 ≤ l1) : v1.ownBlock = none ∨ v1.ownBlock ≠ v2.ownBlock := by
  cases e : v1.ownBlock with
  | none => exact .inl rfl
  | some k =>
    refine .inr fun e2 => ?_
    have a := r1 k e
    have b := r2 k e2.symm
    omega
theorem ranged_box {v : Value} {l h g : Nat} (r : Ranged v l h) (hg : g < l ∨ h ≤ g) : some g ≠ v.ownBlock := fun e => by have := r g e.symm; omega
theorem bel_grown {w W W' : World} {v : Value} {lo hi : Nat} (B : Below w.heap.size w W) (gr : W.grownBy W' v.ownBlock) (r : Ranged v lo hi) (hlo : w.heap.size ≤ lo) : Below w.heap.size w W' :=
  B.grown gr B.size (fun b hb => Nat.le_trans hlo (r b hb).1)
theorem eq_e {n : Nat} (p q : Option Addr) (c c2 : Nat) (zs : List Int) (w : World) (hn : zs.length = n) (hz : Ints w w.heap.size p zs) (hy : Ints w w.heap.size q zs) :
    Calls Tryz.prog 9 #[.slice p n c, .slice q n c2] w fun e w' => e = .returned (.bool true) ∧ Below w.heap.size w w' := by
  subst hn
  have := eqIntS_any p q c c2 w.heap.size zs zs w hz hy
  simpa using this
theorem mark_e {n k : Nat} {v : Value} (base : Nat) (zs : List Int) (w : World) (h : w.ownsRow base 3 1 v n (intsV zs)) (hn : n ≤ 1048576) (hk : k ≤ 1000000000) (x : Int) (hx : x = (k : Int)) :
    Calls Tryz.prog 10 #[v, .int .i64 x] w fun e w' => e = .returned (.int .i64 (x + (n : Int))) ∧ w'.ownsRow base 3 1 v n (intsV (upFrom k n)) ∧ w.grownBy w' v.ownBlock := by
  subst hx
  refine (markIntS_any base k n _ zs w h hn hk).mono ?_
  rintro e w' ⟨rfl, h1, h2⟩
  exact ⟨by simp, h1, h2⟩
theorem held_e {n c : Nat} {a : Option Addr} (base : Nat) (w : World) (h : w.ownsRow base 3 1 (.slice a n c) n (intsV (upFrom 1 n))) (hn : n ≤ 1048576) :
    Calls Tryz.prog 11 #[.slice a n c, .int .i64 1] w fun e w' => e = .returned (.int .i64 (1 + (n : Int))) ∧ w = w' := by
  have hI := (Ints.ofOwn h (by omega) (fun x hx => by
    obtain ⟨j, hj, e⟩ := mem_getD hx
    rw [upFrom_len] at hj
    rw [upFrom_get 1 n j hj] at e
    omega)).2
  refine (heldIntS_any a c _ 1 n w hI hn (by omega)).mono ?_
  rintro e w' ⟨rfl, h1⟩
  exact ⟨by simp, h1.symm⟩
end Go.Proofs.YtembljihmnmmfaaGreat
namespace Go.Proofs.YtembljihmnmmfaaGreat
set_option linter.unusedVariables false
set_option linter.unusedSimpArgs false
open Go.ChangeShapes Go.WideShapes Go.ChangeAt Go.RowKit Go.Joins Go.Deep

theorem toWay_e (m : Int) (b : Bool) (t : Int) (w : World) :
    Calls Tryz.prog 7 #[.agg #[.int .i64 m, .bool b, .int .i64 t]] w fun e w' => e = .returned (.agg #[.int .i64 m, .bool b, .int .i64 t]) ∧ Below w.heap.size w w' := by
  go_enter Tryz.func7, Tryz.ntmps7
  go_wp2
  refine bodyPost_ret (v := .agg #[.int .i64 m, .bool b, .int .i64 t]) (by simp [results, Tryz.results7, go_sem]) rfl ⟨rfl, ?_⟩
  repeat (first | exact Below.refl _ _ | refine Below.alloc ?_ (by (try simp); (try omega)) _ | refine Below.setCell ?_ (by (try simp); (try omega)) _ | refine Below.drew ?_)
theorem open_ibi {H : Type} {enc : TypeId × Value → H} {P : Program} {w : World} {base : Nat} {spare : Nat → Bool} {held : Bool} {r : Reach} {b0 : Nat} {t : TypeId} {v : Value} {d : DataW H} {p : List MemPlace}
    {f0 f1 f2 : Field} (hs : P.underlying t = some (.struct #[f0, f1, f2])) (hone : oneCellFields P #[f0, f1, f2] = true) (hC : P.cellsOf t = 3) (e0 : P.underlying f0.type = some (.int .i64)) (e1 : P.underlying f1.type = some .bool) (e2 : P.underlying f2.type = some (.int .i64))
    (hv : Value.okWide P w r b0 t v) (h : DataW.Trod enc P w base spare held t v d p) :
    ∃ (m : Int) (b : Bool) (n : Int), v = .agg #[.int .i64 m, .bool b, .int .i64 n] ∧ (Lit.int .i64 m).wf = true ∧ (Lit.int .i64 n).wf = true := by
  obtain ⟨c0, c1, c2, y0, y1, y2, k, rfl, _, _, hy0, hy1, hy2⟩ := Joins.open_agg3 hs hone hC hv h
  obtain ⟨m, q0, _, wm⟩ := DataW.trod_int e0 hy0
  obtain ⟨b, q1, _⟩ := DataW.trod_bool e1 hy1
  obtain ⟨n, q2, _, wn⟩ := DataW.trod_int e2 hy2
  simp at q0 q1 q2
  subst q0 q1 q2
  exact ⟨m, b, n, rfl, wm, wn⟩
end Go.Proofs.YtembljihmnmmfaaGreat
namespace Go.Proofs.YtembljihmnmmfaaGreat
set_option linter.unusedVariables false
set_option linter.unusedSimpArgs false
open Go.RowKit Go.ChangeShapes Go.WideShapes Go.ChangeAt

/-- For all arguments in bounds the model and the program answer the same. -/
def MeetsStage : Prop := ∀ (s0 : ByteArray) (wm1 : Int) (wb1 : Bool) (wt1 : Int), s0.size ≤ 1048576 → -9223372036854775808 ≤ wm1 → wm1 ≤ 9223372036854775807 → -9223372036854775808 ≤ wt1 → wt1 ≤ 9223372036854775807 → ∃ (y0 : List Int), (y0.length ≤ 1048576 ∧ ∀ x ∈ y0, -9223372036854775808 ≤ x ∧ x ≤ 9223372036854775807) ∧ (∀ (W : World), Calls Tryz.prog 6 #[.string s0, .agg #[.int .i64 wm1, .bool wb1, .int .i64 wt1]] W fun e w' => ∃ v0, e = .returned (v0) ∧ w'.ownsRow W.heap.size 3 1 v0 y0.length (intsV y0) ∧ Below W.heap.size W w') ∧ (∀ (W : World), Calls Tryz.prog 8 #[.string s0, .agg #[.int .i64 wm1, .bool wb1, .int .i64 wt1]] W fun e w' => ∃ v0, e = .returned (v0) ∧ w'.ownsRow W.heap.size 3 1 v0 y0.length (intsV y0) ∧ Below W.heap.size W w')
set_option maxHeartbeats 4000000 in
set_option maxRecDepth 100000 in
theorem in_FnExactStage (w : World) (s0 : ByteArray) (hb0 : s0.size ≤ 1048576) (wm1 : Int) (wb1 : Bool) (wt1 : Int) (b1 : -9223372036854775808 ≤ wm1) (d1 : wm1 ≤ 9223372036854775807) (bt1 : -9223372036854775808 ≤ wt1) (dt1 : wt1 ≤ 9223372036854775807) (y0 : List Int)
    (m0 : Nat) (HY0 : Hid (y0.length = m0)) (hm0 : m0 ≤ 1048576) (HR0 : Hid (∀ x ∈ y0, -9223372036854775808 ≤ x ∧ x ≤ 9223372036854775807))
    (KS : Hid (∀ (W : World), Calls Tryz.prog 6 #[.string s0, .agg #[.int .i64 wm1, .bool wb1, .int .i64 wt1]] W fun e w' => ∃ v0, e = .returned (v0) ∧ w'.ownsRow W.heap.size 3 1 v0 m0 (intsV y0) ∧ Below W.heap.size W w'))
    (KI : Hid (∀ (W : World), Calls Tryz.prog 8 #[.string s0, .agg #[.int .i64 wm1, .bool wb1, .int .i64 wt1]] W fun e w' => ∃ v0, e = .returned (v0) ∧ w'.ownsRow W.heap.size 3 1 v0 m0 (intsV y0) ∧ Below W.heap.size W w')) :
    Calls Tryz.prog 3 #[.string s0, .agg #[.int .i64 wm1, .bool wb1, .int .i64 wt1]] w fun e w' => e = .returned (.bool true) ∧ Below w.heap.size w w' := by
  have hg0 : ¬ (1048576 : Int) < (s0.size : Int) := by omega
  have hn0 : ¬ (1 : Int) + (m0 : Int) < 0 := by omega
  have hq0 : (1 : Int) + (m0 : Int) ≠ (1 : Int) + (m0 : Int) → False := fun h => h rfl
  go_enter Tryz.func3, Tryz.ntmps3
  obtain ⟨N1, hN1⟩ : ∃ N, N = (w.alloc (.cells #[.int .i64 wm1, .bool wb1, .int .i64 wt1] 23)) := ⟨_, rfl⟩
  have hb1_ : Below w.heap.size w N1 := by rw [hN1]; exact (Below.refl _ _).alloc (Nat.le_refl _) _
  have HA : Hid (Has N1 w.heap.size 23 #[.int .i64 wm1, .bool wb1, .int .i64 wt1]) := hidden (by rw [hN1]; exact Has.fresh _ _ _)
  have lHA := HA.out.lt
  have e1_HAa := HA.out.cell 0
  have e1_HAb := HA.out.cell 1
  have e1_HAc := HA.out.cell 2
  simp at e1_HAa e1_HAb e1_HAc
  go_wp2_with fail
  rw [← hN1]
  refine (toWay_e wm1 wb1 wt1 N1).mono ?_
  rintro e W2 ⟨rfl, b2⟩
  clear e1_HAa e1_HAb e1_HAc hN1
  have B2 : Below w.heap.size w W2 := bel_then b2 hb1_.size hb1_
  have sB2 := b2.size
  have HA_2 := hidden (HA.out.below b2 HA.out.lt)
  clear HA
  clear b2
  go_wp2_with fail
  refine (KS.out W2  ).mono ?_
  rintro e W3 ⟨v0_3, rfl, o0_3, b3⟩
  obtain ⟨gw0, cw0, rfl⟩ := own_form o0_3
  have B3 : Below w.heap.size w W3 := bel_then b3 B2.size B2
  have sB3 := b3.size
  have HA_3 := hidden (HA_2.out.below b3 HA_2.out.lt)
  clear HA_2
  have Yw0 := hidden o0_3
  have Qw0 := own_ranged o0_3
  clear o0_3
  clear b3
  have e3_HAa := HA_3.out.cell 0
  have e3_HAb := HA_3.out.cell 1
  have e3_HAc := HA_3.out.cell 2
  simp at e3_HAa e3_HAb e3_HAc
  go_wp2_with fail
  refine (toWay_e wm1 wb1 wt1 W3).mono ?_
  rintro e W4 ⟨rfl, b4⟩
  clear e3_HAa e3_HAb e3_HAc
  have B4 : Below w.heap.size w W4 := bel_then b4 B3.size B3
  have sB4 := b4.size
  have HA_4 := hidden (HA_3.out.below b4 HA_3.out.lt)
  clear HA_3
  have Yw0_4 := hidden (own_bel Yw0.out b4)
  clear Yw0
  clear b4
  go_wp2_with fail
  refine (KI.out W4  ).mono ?_
  rintro e W5 ⟨v0_5, rfl, o0_5, b5⟩
  obtain ⟨gg0, cg0, rfl⟩ := own_form o0_5
  have B5 : Below w.heap.size w W5 := bel_then b5 B4.size B4
  have sB5 := b5.size
  have HA_5 := hidden (HA_4.out.below b5 HA_4.out.lt)
  clear HA_4
  have Yw0_5 := hidden (own_bel Yw0_4.out b5)
  clear Yw0_4
  have Yg0 := hidden o0_5
  have Qg0 := own_ranged o0_5
  clear o0_5
  clear b5
  go_wp2_with fail
  refine (eq_e _ _ _ _ y0 W5 HY0.out (own_ints Yg0.out HR0.out hm0) (own_ints Yw0_5.out HR0.out hm0)).mono ?_
  rintro e W6 ⟨rfl, b6⟩
  have B6 : Below w.heap.size w W6 := bel_then b6 B5.size B5
  have sB6 := b6.size
  have HA_6 := hidden (HA_5.out.below b6 HA_5.out.lt)
  clear HA_5
  have Yw0_6 := hidden (own_bel Yw0_5.out b6)
  clear Yw0_5
  have Yg0_6 := hidden (own_bel Yg0.out b6)
  clear Yg0
  clear b6
  go_wp2_with fail
  refine (mark_e (k := 1) _ y0 W6 Yg0_6.out hm0 (by omega) _ (by simp)).mono ?_
  rintro e W7 ⟨rfl, o7, gr7⟩
  have B7 : Below w.heap.size w W7 := bel_grown B6 gr7 Qg0 (by omega)
  have sB7 := gr7.size
  have HA_7 := hidden (HA_6.out.grown gr7 (ranged_box Qg0 (by omega)))
  clear HA_6
  have Yw0_7 := hidden (Yw0_6.out.kept gr7 (ranged_ne Qw0 Qg0 (by omega)))
  clear Yw0_6
  have Yg0_7 := hidden o7
  clear Yg0_6
  clear o7 gr7
  go_wp2_with fail
  refine (held_e _ W7 Yg0_7.out hm0).mono ?_
  rintro e _ ⟨rfl, rfl⟩
  have e7_HAa := HA_7.out.cell 0
  have e7_HAb := HA_7.out.cell 1
  have e7_HAc := HA_7.out.cell 2
  simp at e7_HAa e7_HAb e7_HAc
  go_wp2_with fail
  refine (toWay_e wm1 wb1 wt1 W7).mono ?_
  rintro e W8 ⟨rfl, b8⟩
  clear e7_HAa e7_HAb e7_HAc
  have B8 : Below w.heap.size w W8 := bel_then b8 B7.size B7
  have sB8 := b8.size
  have HA_8 := hidden (HA_7.out.below b8 HA_7.out.lt)
  clear HA_7
  have Yw0_8 := hidden (own_bel Yw0_7.out b8)
  clear Yw0_7
  have Yg0_8 := hidden (own_bel Yg0_7.out b8)
  clear Yg0_7
  clear b8
  go_wp2_with fail
  refine (KI.out W8  ).mono ?_
  rintro e W9 ⟨v0_9, rfl, o0_9, b9⟩
  obtain ⟨gh0, ch0, rfl⟩ := own_form o0_9
  have B9 : Below w.heap.size w W9 := bel_then b9 B8.size B8
  have sB9 := b9.size
  have HA_9 := hidden (HA_8.out.below b9 HA_8.out.lt)
  clear HA_8
  have Yw0_9 := hidden (own_bel Yw0_8.out b9)
  clear Yw0_8
  have Yg0_9 := hidden (own_bel Yg0_8.out b9)
  clear Yg0_8
  have Yh0 := hidden o0_9
  have Qh0 := own_ranged o0_9
  clear o0_9
  clear b9
  go_wp2_with fail
  refine (eq_e _ _ _ _ y0 W9 HY0.out (own_ints Yh0.out HR0.out hm0) (own_ints Yw0_9.out HR0.out hm0)).mono ?_
  rintro e W10 ⟨rfl, b10⟩
  have B10 : Below w.heap.size w W10 := bel_then b10 B9.size B9
  have sB10 := b10.size
  have HA_10 := hidden (HA_9.out.below b10 HA_9.out.lt)
  clear HA_9
  have Yw0_10 := hidden (own_bel Yw0_9.out b10)
  clear Yw0_9
  have Yg0_10 := hidden (own_bel Yg0_9.out b10)
  clear Yg0_9
  have Yh0_10 := hidden (own_bel Yh0.out b10)
  clear Yh0
  clear b10
  go_wp2_with fail
  refine (held_e _ W10 Yg0_10.out hm0).mono ?_
  rintro e _ ⟨rfl, rfl⟩
  go_wp2
  go_ret
  exact ⟨rfl, B10⟩
set_option maxRecDepth 100000 in
theorem walk_FnExactStage (hM : MeetsStage) (w : World) (s0 : ByteArray) (w0 : s0.size ≤ maxLen) (wm1 : Int) (wb1 : Bool) (wt1 : Int) (b1 : -9223372036854775808 ≤ wm1) (d1 : wm1 ≤ 9223372036854775807) (bt1 : -9223372036854775808 ≤ wt1) (dt1 : wt1 ≤ 9223372036854775807) :
    Calls Tryz.prog 3 #[.string s0, .agg #[.int .i64 wm1, .bool wb1, .int .i64 wt1]] w fun e w' => e = .returned (.bool true) ∧ Below w.heap.size w w' := by
  by_cases hb0 : s0.size ≤ 1048576
  rotate_left
  · have hx : (1048576 : Int) < (s0.size : Int) := by omega
    unfold maxLen at *
    clear hM
    go_enter Tryz.func3, Tryz.ntmps3
    go_wp2
    go_ret
    first | exact ⟨rfl, Below.refl _ _⟩ | exact ⟨rfl, (Below.refl _ _).alloc (Nat.le_refl _) _⟩
  obtain ⟨y0, ⟨hm0, hr0⟩, hs, hi⟩ := hM s0 wm1 wb1 wt1 hb0 b1 d1 bt1 dt1
  exact in_FnExactStage w s0 hb0 wm1 wb1 wt1 b1 d1 bt1 dt1 y0 _ (hidden rfl) hm0 (hidden hr0) (hidden hs) (hidden hi)
end Go.Proofs.YtembljihmnmmfaaGreat
