/- Merged: ExA, WExRunSyms, WExRanksOk, WExMtf, WExUnMtf, WExRunLen, WExPackRuns, WExUnpackRuns. -/
import Derived.Test.YtpdicijoohahaaaNats
import Derived.Test.YtpdicijoohahaaaC3Arr
import Derived.Test.YtpdicijoohahaaaDr
import Derived.Deep.RegionHeld3
import Derived.Deep.Cut
import Derived.Deep.DeepCutAuto
namespace Go.Proofs.Ytpdicijoohahaaa
set_option linter.unusedVariables false
set_option linter.unusedSimpArgs false
open Go.RowKit Go.ChangeShapes Go.WideShapes Go.ChangeAt

theorem Ints.ofRowE {w : World} {a : Option Addr} {len cap : Nat} {zs : List Int} (h : IsRow .i64 w a len cap zs) (hle : len ≤ 1048576) : ∃ ys : List Int, ys.length = len ∧ Ints w w.heap.size a ys := by
  rcases h with ⟨rfl, rfl, rfl, rfl⟩ | ⟨x, rfl, hl, hm, hz, hc, hwz⟩
  · exact ⟨[], rfl, by simp, by simp, fun h => by simp at h⟩
  · have hlen : (zs.take len).length = len := by rw [List.length_take]; omega
    refine ⟨zs.take len, hlen, by rw [hlen]; omega, fun n hn => ?_, fun h0 => ?_⟩
    · exact bounds_i64 (hwz n (List.mem_of_mem_take hn))
    · have h1 := hc 0 (by omega)
      obtain ⟨b, off, spot⟩ := x
      have hspot : spot = none := by simpa [Addr.add] using World.cell?_spot h1
      subst hspot
      refine ⟨b, off, rfl, ?_, fun i hi => ?_⟩
      · have := cell_lt h1
        simpa [Addr.add] using this
      · rw [hlen] at hi
        have := hc i (by omega)
        have e2 : (zs.take len).getD i 0 = zs.getD i 0 := by simp [List.getD_eq_getElem?_getD, List.getElem?_take, hi]
        rw [e2]
        by_cases e : i = 0
        · subst e; simpa [Addr.add] using this
        · simpa [Addr.add, e] using this
theorem isrow_lenE {w : World} {a : Option Addr} {len cap : Nat} {zs : List Int} (h : IsRow .i64 w a len cap zs) : len ≤ maxLen := by
  rcases h with ⟨rfl, rfl, rfl, rfl⟩ | ⟨x, rfl, hl, hm, hz, hc, hwz⟩ <;> omega
/-- A row of integers of one's own is a slice of integers. -/
theorem own_ints {w : World} {base n c : Nat} {a : Option Addr} {zs : List Int} (h : w.ownsRow base 3 1 (.slice a n c) n (intsV zs)) (hr : ∀ x ∈ zs, -9223372036854775808 ≤ x ∧ x ≤ 9223372036854775807) (hn : n ≤ 1048576) : Ints w w.heap.size a zs := (Ints.ofOwn h (by omega) hr).2
theorem own_form {w : World} {base n : Nat} {v : Value} {xs : List Value} {E : TypeId} {S : Nat} (h : w.ownsRow base E S v n xs) : ∃ a c, v = .slice a n c := by
  rcases h.2 with ⟨rfl, rfl⟩ | ⟨g, cap, cur, rfl, _⟩
  · exact ⟨none, 0, rfl⟩
  · exact ⟨_, cap, rfl⟩
theorem own_blk {w w' : World} {base : Nat} {e : TypeId} {size : Nat} {v : Value} {n : Nat} {xs : List Value} (h : w.ownsRow base e size v n xs) (hb : ∀ i, i < w.heap.size → w'.heap[i]? = w.heap[i]?) : w'.ownsRow base e size v n xs := by
  refine ⟨h.1, ?_⟩
  rcases h.2 with h2 | ⟨g, cap, cur, hv, hg, hc, hr⟩
  · exact .inl h2
  · refine .inr ⟨g, cap, cur, hv, hg, ?_, hr⟩
    rw [hb g (Array.getElem?_eq_some_iff.1 hc).1]; exact hc
/-- Where a row lies. -/
def Ranged (v : Value) (lo hi : Nat) : Prop := ∀ k, v.ownBlock = some k → lo ≤ k ∧ k < hi
theorem own_ranged {w : World} {base n S : Nat} {v : Value} {xs : List Value} {E : TypeId} (h : w.ownsRow base E S v n xs) : Ranged v base w.heap.size := h.lt
theorem ranged_ne {v1 v2 : Value} {l1 h1 l2 h2 : Nat} (r1 : Ranged v1 l1 h1) (r2 : Ranged v2 l2 h2) (h : h1 ≤ l2 ∨ h2 ≤ l1) : v1.ownBlock = none ∨ v1.ownBlock ≠ v2.ownBlock := by
  cases e : v1.ownBlock with
  | none => exact .inl rfl
  | some k =>
    refine .inr fun e2 => ?_
    have a := r1 k e
    have b := r2 k e2.symm
    omega
theorem ranged_box {v : Value} {l h g : Nat} (r : Ranged v l h) (hg : g < l ∨ h ≤ g) : some g ≠ v.ownBlock := fun e => by have := r g e.symm; omega
theorem bel_grown {w W W' : World} {v : Value} {lo hi : Nat} (B : Below w.heap.size w W) (gr : W.grownBy W' v.ownBlock) (r : Ranged v lo hi) (hlo : w.heap.size ≤ lo) : Below w.heap.size w W' :=
  B.grown gr B.size (fun b hb => Nat.le_trans hlo (r b hb).1)
theorem toInt_e {n : Nat} (a : Option Addr) (cap : Nat) (zs : List Int) (w0 w : World) (hn : zs.length = n) (hz : Ints w0 w0.heap.size a zs) (B : Below w0.heap.size w0 w) (hlen : n ≤ 1048576) :
    Calls Try.prog 14 #[.slice a n cap] w fun e w' => ∃ g, e = .returned (.slice (some ⟨g, 0, none⟩) n n) ∧ w'.ownsRow w.heap.size 3 1 (.slice (some ⟨g, 0, none⟩) n n) n (intsV zs) ∧ Below w.heap.size w w' := by
  subst hn
  exact toIntS_any a cap w0.heap.size zs w (hz.below B) B.size hlen
theorem eq_e {n : Nat} (p q : Option Addr) (c c2 : Nat) (zs : List Int) (w : World) (hn : zs.length = n) (hz : Ints w w.heap.size p zs) (hy : Ints w w.heap.size q zs) :
    Calls Try.prog 16 #[.slice p n c, .slice q n c2] w fun e w' => e = .returned (.bool true) ∧ Below w.heap.size w w' := by
  subst hn
  have := eqIntS_any p q c c2 w.heap.size zs zs w hz hy
  simpa using this
theorem mark_e {n k : Nat} {v : Value} (base : Nat) (zs : List Int) (w : World) (h : w.ownsRow base 3 1 v n (intsV zs)) (hn : n ≤ 1048576) (hk : k ≤ 1000000000) (x : Int) (hx : x = (k : Int)) :
    Calls Try.prog 17 #[v, .int .i64 x] w fun e w' => e = .returned (.int .i64 (x + (n : Int))) ∧ w'.ownsRow base 3 1 v n (intsV (upFrom k n)) ∧ w.grownBy w' v.ownBlock := by
  subst hx
  refine (markIntS_any base k n _ zs w h hn hk).mono ?_
  rintro e w' ⟨rfl, h1, h2⟩
  exact ⟨by simp, h1, h2⟩
theorem held_e {n c : Nat} {a : Option Addr} (base : Nat) (w : World) (h : w.ownsRow base 3 1 (.slice a n c) n (intsV (upFrom 1 n))) (hn : n ≤ 1048576) :
    Calls Try.prog 18 #[.slice a n c, .int .i64 1] w fun e w' => e = .returned (.int .i64 (1 + (n : Int))) ∧ w = w' := by
  have hI := (Ints.ofOwn h (by omega) (fun x hx => by
    obtain ⟨j, hj, e⟩ := mem_getD hx
    rw [upFrom_len] at hj
    rw [upFrom_get 1 n j hj] at e
    omega)).2
  refine (heldIntS_any a c _ 1 n w hI hn (by omega)).mono ?_
  rintro e w' ⟨rfl, h1⟩
  exact ⟨by simp, h1.symm⟩
end Go.Proofs.Ytpdicijoohahaaa
namespace Go.Proofs.Ytpdicijoohahaaa
set_option linter.unusedVariables false
set_option linter.unusedSimpArgs false
open Go.RowKit Go.ChangeShapes Go.WideShapes Go.ChangeAt

/-- For all arguments in bounds the model and the program answer the same. -/
def MeetsRunSyms : Prop := ∀ (a0 : Int), -9223372036854775808 ≤ a0 → a0 ≤ 9223372036854775807 → ∃ (y0 : List Int), (y0.length ≤ 1048576 ∧ ∀ x ∈ y0, -9223372036854775808 ≤ x ∧ x ≤ 9223372036854775807) ∧ (∀ (W : World), Calls Try.prog 19 #[.int .i64 a0] W fun e w' => ∃ v0, e = .returned (v0) ∧ w'.ownsRow W.heap.size 3 1 v0 y0.length (intsV y0) ∧ Below W.heap.size W w') ∧ (∀ (W : World), Calls Try.prog 20 #[.int .i64 a0] W fun e w' => ∃ v0, e = .returned (v0) ∧ w'.ownsRow W.heap.size 3 1 v0 y0.length (intsV y0) ∧ Below W.heap.size W w')
set_option maxHeartbeats 4000000 in
set_option maxRecDepth 100000 in
theorem in_FnExactRunSyms (w : World) (a0 : Int) (b0 : -9223372036854775808 ≤ a0) (d0 : a0 ≤ 9223372036854775807) (y0 : List Int)
    (m0 : Nat) (HY0 : Hid (y0.length = m0)) (hm0 : m0 ≤ 1048576) (HR0 : Hid (∀ x ∈ y0, -9223372036854775808 ≤ x ∧ x ≤ 9223372036854775807))
    (KS : Hid (∀ (W : World), Calls Try.prog 19 #[.int .i64 a0] W fun e w' => ∃ v0, e = .returned (v0) ∧ w'.ownsRow W.heap.size 3 1 v0 m0 (intsV y0) ∧ Below W.heap.size W w'))
    (KI : Hid (∀ (W : World), Calls Try.prog 20 #[.int .i64 a0] W fun e w' => ∃ v0, e = .returned (v0) ∧ w'.ownsRow W.heap.size 3 1 v0 m0 (intsV y0) ∧ Below W.heap.size W w')) :
    Calls Try.prog 4 #[.int .i64 a0] w fun e w' => e = .returned (.bool true) ∧ Below w.heap.size w w' := by
  have hn0 : ¬ (1 : Int) + (m0 : Int) < 0 := by omega
  have hq0 : (1 : Int) + (m0 : Int) ≠ (1 : Int) + (m0 : Int) → False := fun h => h rfl
  go_enter Try.func4, Try.ntmps4
  go_wp2_with fail
  refine (KS.out w  ).mono ?_
  rintro e W1 ⟨v0_1, rfl, o0_1, b1⟩
  obtain ⟨gw0, cw0, rfl⟩ := own_form o0_1
  have B1 : Below w.heap.size w W1 := bel_then b1 (Below.refl w.heap.size w).size (Below.refl w.heap.size w)
  have sB1 := b1.size
  have Yw0 := hidden o0_1
  have Qw0 := own_ranged o0_1
  clear o0_1
  clear b1
  go_wp2_with fail
  refine (KI.out W1  ).mono ?_
  rintro e W2 ⟨v0_2, rfl, o0_2, b2⟩
  obtain ⟨gg0, cg0, rfl⟩ := own_form o0_2
  have B2 : Below w.heap.size w W2 := bel_then b2 B1.size B1
  have sB2 := b2.size
  have Yw0_2 := hidden (own_bel Yw0.out b2)
  clear Yw0
  have Yg0 := hidden o0_2
  have Qg0 := own_ranged o0_2
  clear o0_2
  clear b2
  go_wp2_with fail
  refine (eq_e _ _ _ _ y0 W2 HY0.out (own_ints Yg0.out HR0.out hm0) (own_ints Yw0_2.out HR0.out hm0)).mono ?_
  rintro e W3 ⟨rfl, b3⟩
  have B3 : Below w.heap.size w W3 := bel_then b3 B2.size B2
  have sB3 := b3.size
  have Yw0_3 := hidden (own_bel Yw0_2.out b3)
  clear Yw0_2
  have Yg0_3 := hidden (own_bel Yg0.out b3)
  clear Yg0
  clear b3
  go_wp2_with fail
  refine (mark_e (k := 1) _ y0 W3 Yg0_3.out hm0 (by omega) _ (by simp)).mono ?_
  rintro e W4 ⟨rfl, o4, gr4⟩
  have B4 : Below w.heap.size w W4 := bel_grown B3 gr4 Qg0 (by omega)
  have sB4 := gr4.size
  have Yw0_4 := hidden (Yw0_3.out.kept gr4 (ranged_ne Qw0 Qg0 (by omega)))
  clear Yw0_3
  have Yg0_4 := hidden o4
  clear Yg0_3
  clear o4 gr4
  go_wp2_with fail
  refine (held_e _ W4 Yg0_4.out hm0).mono ?_
  rintro e _ ⟨rfl, rfl⟩
  go_wp2_with fail
  refine (KI.out W4  ).mono ?_
  rintro e W5 ⟨v0_5, rfl, o0_5, b5⟩
  obtain ⟨gh0, ch0, rfl⟩ := own_form o0_5
  have B5 : Below w.heap.size w W5 := bel_then b5 B4.size B4
  have sB5 := b5.size
  have Yw0_5 := hidden (own_bel Yw0_4.out b5)
  clear Yw0_4
  have Yg0_5 := hidden (own_bel Yg0_4.out b5)
  clear Yg0_4
  have Yh0 := hidden o0_5
  have Qh0 := own_ranged o0_5
  clear o0_5
  clear b5
  go_wp2_with fail
  refine (eq_e _ _ _ _ y0 W5 HY0.out (own_ints Yh0.out HR0.out hm0) (own_ints Yw0_5.out HR0.out hm0)).mono ?_
  rintro e W6 ⟨rfl, b6⟩
  have B6 : Below w.heap.size w W6 := bel_then b6 B5.size B5
  have sB6 := b6.size
  have Yw0_6 := hidden (own_bel Yw0_5.out b6)
  clear Yw0_5
  have Yg0_6 := hidden (own_bel Yg0_5.out b6)
  clear Yg0_5
  have Yh0_6 := hidden (own_bel Yh0.out b6)
  clear Yh0
  clear b6
  go_wp2_with fail
  refine (held_e _ W6 Yg0_6.out hm0).mono ?_
  rintro e _ ⟨rfl, rfl⟩
  go_wp2
  go_ret
  exact ⟨rfl, B6⟩
set_option maxRecDepth 100000 in
theorem walk_FnExactRunSyms (hM : MeetsRunSyms) (w : World) (a0 : Int) (b0 : -9223372036854775808 ≤ a0) (d0 : a0 ≤ 9223372036854775807) :
    Calls Try.prog 4 #[.int .i64 a0] w fun e w' => e = .returned (.bool true) ∧ Below w.heap.size w w' := by
  obtain ⟨y0, ⟨hm0, hr0⟩, hs, hi⟩ := hM a0 b0 d0
  exact in_FnExactRunSyms w a0 b0 d0 y0 _ (hidden rfl) hm0 (hidden hr0) (hidden hs) (hidden hi)
end Go.Proofs.Ytpdicijoohahaaa
namespace Go.Proofs.Ytpdicijoohahaaa
set_option linter.unusedVariables false
set_option linter.unusedSimpArgs false
open Go.RowKit Go.ChangeShapes Go.WideShapes Go.ChangeAt

/-- For all arguments in bounds the model and the program answer the same. -/
def MeetsRanksOk : Prop := ∀ (z0 : List Int) (a1 : Int), z0.length ≤ 1048576 → (∀ x ∈ z0, -9223372036854775808 ≤ x ∧ x ≤ 9223372036854775807) → -9223372036854775808 ≤ a1 → a1 ≤ 9223372036854775807 → ∃ (r0 : Bool), (∀ (W : World) (p0 : Addr) (c0 : Nat), Ints W W.heap.size (some p0) z0 → Calls Try.prog 29 #[.slice (some p0) z0.length c0, .int .i64 a1] W fun e w' => e = .returned (.bool r0) ∧ Below W.heap.size W w') ∧ (∀ (W : World) (p0 : Addr) (c0 : Nat), Ints W W.heap.size (some p0) z0 → Calls Try.prog 33 #[.slice (some p0) z0.length c0, .int .i64 a1] W fun e w' => e = .returned (.bool r0) ∧ Below W.heap.size W w')
end Go.Proofs.Ytpdicijoohahaaa
namespace Go.Proofs.Ytpdicijoohahaaa
set_option linter.unusedVariables false
set_option linter.unusedSimpArgs false
open Go.RowKit Go.ChangeShapes Go.WideShapes Go.ChangeAt

/-- For all arguments in bounds the model and the program answer the same. -/
def MeetsMtf : Prop := ∀ (z0 : List Int) (a1 : Int), z0.length ≤ 1048576 → (∀ x ∈ z0, -9223372036854775808 ≤ x ∧ x ≤ 9223372036854775807) → -9223372036854775808 ≤ a1 → a1 ≤ 9223372036854775807 → ∃ (y0 : List Int), (y0.length ≤ 1048576 ∧ ∀ x ∈ y0, -9223372036854775808 ≤ x ∧ x ≤ 9223372036854775807) ∧ (∀ (W : World) (p0 : Addr) (c0 : Nat), Ints W W.heap.size (some p0) z0 → Calls Try.prog 57 #[.slice (some p0) z0.length c0, .int .i64 a1] W fun e w' => ∃ v0, e = .returned (v0) ∧ w'.ownsRow W.heap.size 3 1 v0 y0.length (intsV y0) ∧ Below W.heap.size W w') ∧ (∀ (W : World) (p0 : Addr) (c0 : Nat), Ints W W.heap.size (some p0) z0 → Calls Try.prog 28 #[.slice (some p0) z0.length c0, .int .i64 a1] W fun e w' => ∃ v0, e = .returned (v0) ∧ w'.ownsRow W.heap.size 3 1 v0 y0.length (intsV y0) ∧ Below W.heap.size W w')
end Go.Proofs.Ytpdicijoohahaaa
namespace Go.Proofs.Ytpdicijoohahaaa
set_option linter.unusedVariables false
set_option linter.unusedSimpArgs false
open Go.RowKit Go.ChangeShapes Go.WideShapes Go.ChangeAt

end Go.Proofs.Ytpdicijoohahaaa
namespace Go.Proofs.Ytpdicijoohahaaa
set_option linter.unusedVariables false
set_option linter.unusedSimpArgs false
open Go.RowKit Go.ChangeShapes Go.WideShapes Go.ChangeAt

/-- For all arguments in bounds the model and the program answer the same. -/
def MeetsRunLen : Prop := ∀ (z0 : List Int), z0.length ≤ 1048576 → (∀ x ∈ z0, -9223372036854775808 ≤ x ∧ x ≤ 9223372036854775807) → ∃ (r0 : Int), (∀ (W : World) (p0 : Addr) (c0 : Nat), Ints W W.heap.size (some p0) z0 → Calls Try.prog 21 #[.slice (some p0) z0.length c0] W fun e w' => e = .returned (.int .i64 r0) ∧ Below W.heap.size W w') ∧ (∀ (W : World) (p0 : Addr) (c0 : Nat), Ints W W.heap.size (some p0) z0 → Calls Try.prog 22 #[.slice (some p0) z0.length c0] W fun e w' => e = .returned (.int .i64 r0) ∧ Below W.heap.size W w')
set_option maxHeartbeats 4000000 in
set_option maxRecDepth 100000 in
theorem in_FnExactRunLen (w : World) (a0 : Option Addr) (len0 cap0 : Nat) (z0 : List Int) (HI0 : Hid (Ints w w.heap.size a0 z0)) (HL0 : Hid (z0.length = len0)) (hb0 : len0 ≤ 1048576) (r0 : Int)
    (KS : Hid (∀ (W : World) (p0 : Addr) (c0 : Nat), Ints W W.heap.size (some p0) z0 → Calls Try.prog 21 #[.slice (some p0) len0 c0] W fun e w' => e = .returned (.int .i64 r0) ∧ Below W.heap.size W w'))
    (KI : Hid (∀ (W : World) (p0 : Addr) (c0 : Nat), Ints W W.heap.size (some p0) z0 → Calls Try.prog 22 #[.slice (some p0) len0 c0] W fun e w' => e = .returned (.int .i64 r0) ∧ Below W.heap.size W w')) :
    Calls Try.prog 5 #[.slice a0 len0 cap0] w fun e w' => e = .returned (.bool true) ∧ Below w.heap.size w w' := by
  have hg0 : ¬ (1048576 : Int) < (len0 : Int) := by omega
  have hk0 : ¬ (1 : Int) + (len0 : Int) < 0 := by omega
  go_enter Try.func5, Try.ntmps5
  go_wp2_with fail
  refine (toInt_e a0 cap0 z0 w w HL0.out HI0.out (Below.refl w.heap.size w) hb0).mono ?_
  rintro e W1 ⟨g1, rfl, o1, b1⟩
  have B1 : Below w.heap.size w W1 := bel_then b1 (Below.refl w.heap.size w).size (Below.refl w.heap.size w)
  have sB1 := b1.size
  have X1 := hidden o1
  have Q1 := own_ranged o1
  clear o1 b1
  go_wp2_with fail
  refine (KS.out W1 _ _ (own_ints X1.out HI0.out.2.1 hb0)).mono ?_
  rintro e W2 ⟨rfl, b2⟩
  have B2 : Below w.heap.size w W2 := bel_then b2 B1.size B1
  have sB2 := b2.size
  have X1_2 := hidden (own_bel X1.out b2)
  clear X1
  clear b2
  clear X1_2
  go_wp2_with fail
  refine (toInt_e a0 cap0 z0 w W2 HL0.out HI0.out B2 hb0).mono ?_
  rintro e W3 ⟨g3, rfl, o3, b3⟩
  have B3 : Below w.heap.size w W3 := bel_then b3 B2.size B2
  have sB3 := b3.size
  have X3 := hidden o3
  have Q3 := own_ranged o3
  clear o3 b3
  go_wp2_with fail
  refine (KI.out W3 _ _ (own_ints X3.out HI0.out.2.1 hb0)).mono ?_
  rintro e W4 ⟨rfl, b4⟩
  have B4 : Below w.heap.size w W4 := bel_then b4 B3.size B3
  have sB4 := b4.size
  have X3_4 := hidden (own_bel X3.out b4)
  clear X3
  clear b4
  go_wp2_with fail
  refine (toInt_e a0 cap0 z0 w W4 HL0.out HI0.out B4 hb0).mono ?_
  rintro e W5 ⟨g5, rfl, o5, b5⟩
  have B5 : Below w.heap.size w W5 := bel_then b5 B4.size B4
  have sB5 := b5.size
  have X3_5 := hidden (own_bel X3_4.out b5)
  clear X3_4
  have X5 := hidden o5
  have Q5 := own_ranged o5
  clear o5 b5
  go_wp2_with fail
  refine (eq_e _ _ _ _ z0 W5 HL0.out (own_ints X3_5.out HI0.out.2.1 hb0) (own_ints X5.out HI0.out.2.1 hb0)).mono ?_
  rintro e W6 ⟨rfl, b6⟩
  clear X5
  have B6 : Below w.heap.size w W6 := bel_then b6 B5.size B5
  have sB6 := b6.size
  have X3_6 := hidden (own_bel X3_5.out b6)
  clear X3_5
  clear b6
  go_wp2
  go_ret
  exact ⟨rfl, B6⟩
set_option maxRecDepth 100000 in
theorem walk_FnExactRunLen (hM : MeetsRunLen) (w : World) (a0 : Option Addr) (len0 cap0 : Nat) (z0 : List Int) (w0 : IsRow .i64 w a0 len0 cap0 z0) :
    Calls Try.prog 5 #[.slice a0 len0 cap0] w fun e w' => e = .returned (.bool true) ∧ Below w.heap.size w w' := by
  have hl0 := isrow_lenE w0
  by_cases hb0 : len0 ≤ 1048576
  rotate_left
  · have hx : (1048576 : Int) < (len0 : Int) := by omega
    clear hM
    go_enter Try.func5, Try.ntmps5
    go_wp2
    go_ret
    first | exact ⟨rfl, Below.refl _ _⟩ | exact ⟨rfl, (Below.refl _ _).alloc (Nat.le_refl _) _⟩
  obtain ⟨y0', hl0', hI0⟩ := Ints.ofRowE w0 hb0
  obtain ⟨r0, hs, hi⟩ := hM y0' (by rw [hl0']; exact hb0) hI0.2.1
  rw [hl0'] at hs hi
  exact in_FnExactRunLen w a0 len0 cap0 y0' (hidden hI0) (hidden hl0') hb0 r0  (hidden hs) (hidden hi)
end Go.Proofs.Ytpdicijoohahaaa
namespace Go.Proofs.Ytpdicijoohahaaa
set_option linter.unusedVariables false
set_option linter.unusedSimpArgs false
open Go.RowKit Go.ChangeShapes Go.WideShapes Go.ChangeAt

/-- For all arguments in bounds the model and the program answer the same. -/
def MeetsPackRuns : Prop := ∀ (z0 : List Int) (a1 : Int), z0.length ≤ 1048576 → (∀ x ∈ z0, -9223372036854775808 ≤ x ∧ x ≤ 9223372036854775807) → -9223372036854775808 ≤ a1 → a1 ≤ 9223372036854775807 → ∃ (y0 : List Int), (y0.length ≤ 1048576 ∧ ∀ x ∈ y0, -9223372036854775808 ≤ x ∧ x ≤ 9223372036854775807) ∧ (∀ (W : World) (p0 : Nat) (c0 : Nat), Ints W W.heap.size (some ⟨p0, 0, none⟩) z0 → z0.length ≤ c0 → Calls Try.prog 23 #[.slice (some ⟨p0, 0, none⟩) z0.length c0, .int .i64 a1] W fun e w' => ∃ v0, e = .returned (v0) ∧ w'.ownsRow W.heap.size 3 1 v0 y0.length (intsV y0) ∧ Below W.heap.size W w') ∧ (∀ (W : World) (p0 : Nat) (c0 : Nat), Ints W W.heap.size (some ⟨p0, 0, none⟩) z0 → z0.length ≤ c0 → Calls Try.prog 24 #[.slice (some ⟨p0, 0, none⟩) z0.length c0, .int .i64 a1] W fun e w' => ∃ v0, e = .returned (v0) ∧ w'.ownsRow W.heap.size 3 1 v0 y0.length (intsV y0) ∧ Below W.heap.size W w')
set_option maxHeartbeats 4000000 in
set_option maxRecDepth 100000 in
theorem in_FnExactPackRuns (w : World) (a0 : Option Addr) (len0 cap0 : Nat) (z0 : List Int) (HI0 : Hid (Ints w w.heap.size a0 z0)) (HL0 : Hid (z0.length = len0)) (hb0 : len0 ≤ 1048576) (a1 : Int) (b1 : -9223372036854775808 ≤ a1) (d1 : a1 ≤ 9223372036854775807) (y0 : List Int)
    (m0 : Nat) (HY0 : Hid (y0.length = m0)) (hm0 : m0 ≤ 1048576) (HR0 : Hid (∀ x ∈ y0, -9223372036854775808 ≤ x ∧ x ≤ 9223372036854775807))
    (KS : Hid (∀ (W : World) (p0 : Nat) (c0 : Nat), Ints W W.heap.size (some ⟨p0, 0, none⟩) z0 → len0 ≤ c0 → Calls Try.prog 23 #[.slice (some ⟨p0, 0, none⟩) len0 c0, .int .i64 a1] W fun e w' => ∃ v0, e = .returned (v0) ∧ w'.ownsRow W.heap.size 3 1 v0 m0 (intsV y0) ∧ Below W.heap.size W w'))
    (KI : Hid (∀ (W : World) (p0 : Nat) (c0 : Nat), Ints W W.heap.size (some ⟨p0, 0, none⟩) z0 → len0 ≤ c0 → Calls Try.prog 24 #[.slice (some ⟨p0, 0, none⟩) len0 c0, .int .i64 a1] W fun e w' => ∃ v0, e = .returned (v0) ∧ w'.ownsRow W.heap.size 3 1 v0 m0 (intsV y0) ∧ Below W.heap.size W w')) :
    Calls Try.prog 6 #[.slice a0 len0 cap0, .int .i64 a1] w fun e w' => e = .returned (.bool true) ∧ Below w.heap.size w w' := by
  have hg0 : ¬ (1048576 : Int) < (len0 : Int) := by omega
  have hn0 : ¬ (1 : Int) + (m0 : Int) < 0 := by omega
  have hk0 : ¬ (1 : Int) + (len0 : Int) < 0 := by omega
  have hq0 : (1 : Int) + (m0 : Int) ≠ (1 : Int) + (m0 : Int) → False := fun h => h rfl
  go_enter Try.func6, Try.ntmps6
  go_wp2_with fail
  refine (toInt_e a0 cap0 z0 w w HL0.out HI0.out (Below.refl w.heap.size w) hb0).mono ?_
  rintro e W1 ⟨g1, rfl, o1, b1⟩
  have B1 : Below w.heap.size w W1 := bel_then b1 (Below.refl w.heap.size w).size (Below.refl w.heap.size w)
  have sB1 := b1.size
  have X1 := hidden o1
  have Q1 := own_ranged o1
  clear o1 b1
  go_wp2_with fail
  refine (KS.out W1 _ _ (own_ints X1.out HI0.out.2.1 hb0) (Nat.le_refl _)).mono ?_
  rintro e W2 ⟨v0_2, rfl, o0_2, b2⟩
  obtain ⟨gw0, cw0, rfl⟩ := own_form o0_2
  have B2 : Below w.heap.size w W2 := bel_then b2 B1.size B1
  have sB2 := b2.size
  have X1_2 := hidden (own_bel X1.out b2)
  clear X1
  have Yw0 := hidden o0_2
  have Qw0 := own_ranged o0_2
  clear o0_2
  clear b2
  clear X1_2
  go_wp2_with fail
  refine (toInt_e a0 cap0 z0 w W2 HL0.out HI0.out B2 hb0).mono ?_
  rintro e W3 ⟨g3, rfl, o3, b3⟩
  have B3 : Below w.heap.size w W3 := bel_then b3 B2.size B2
  have sB3 := b3.size
  have Yw0_3 := hidden (own_bel Yw0.out b3)
  clear Yw0
  have X3 := hidden o3
  have Q3 := own_ranged o3
  clear o3 b3
  go_wp2_with fail
  refine (KI.out W3 _ _ (own_ints X3.out HI0.out.2.1 hb0) (Nat.le_refl _)).mono ?_
  rintro e W4 ⟨v0_4, rfl, o0_4, b4⟩
  obtain ⟨gg0, cg0, rfl⟩ := own_form o0_4
  have B4 : Below w.heap.size w W4 := bel_then b4 B3.size B3
  have sB4 := b4.size
  have Yw0_4 := hidden (own_bel Yw0_3.out b4)
  clear Yw0_3
  have X3_4 := hidden (own_bel X3.out b4)
  clear X3
  have Yg0 := hidden o0_4
  have Qg0 := own_ranged o0_4
  clear o0_4
  clear b4
  go_wp2_with fail
  refine (eq_e _ _ _ _ y0 W4 HY0.out (own_ints Yg0.out HR0.out hm0) (own_ints Yw0_4.out HR0.out hm0)).mono ?_
  rintro e W5 ⟨rfl, b5⟩
  have B5 : Below w.heap.size w W5 := bel_then b5 B4.size B4
  have sB5 := b5.size
  have Yw0_5 := hidden (own_bel Yw0_4.out b5)
  clear Yw0_4
  have X3_5 := hidden (own_bel X3_4.out b5)
  clear X3_4
  have Yg0_5 := hidden (own_bel Yg0.out b5)
  clear Yg0
  clear b5
  go_wp2_with fail
  refine (toInt_e a0 cap0 z0 w W5 HL0.out HI0.out B5 hb0).mono ?_
  rintro e W6 ⟨g6, rfl, o6, b6⟩
  have B6 : Below w.heap.size w W6 := bel_then b6 B5.size B5
  have sB6 := b6.size
  have Yw0_6 := hidden (own_bel Yw0_5.out b6)
  clear Yw0_5
  have X3_6 := hidden (own_bel X3_5.out b6)
  clear X3_5
  have Yg0_6 := hidden (own_bel Yg0_5.out b6)
  clear Yg0_5
  have X6 := hidden o6
  have Q6 := own_ranged o6
  clear o6 b6
  go_wp2_with fail
  refine (eq_e _ _ _ _ z0 W6 HL0.out (own_ints X3_6.out HI0.out.2.1 hb0) (own_ints X6.out HI0.out.2.1 hb0)).mono ?_
  rintro e W7 ⟨rfl, b7⟩
  clear X6
  have B7 : Below w.heap.size w W7 := bel_then b7 B6.size B6
  have sB7 := b7.size
  have Yw0_7 := hidden (own_bel Yw0_6.out b7)
  clear Yw0_6
  have X3_7 := hidden (own_bel X3_6.out b7)
  clear X3_6
  have Yg0_7 := hidden (own_bel Yg0_6.out b7)
  clear Yg0_6
  clear b7
  go_wp2_with fail
  refine (mark_e (k := 1) _ z0 W7 X3_7.out hb0 (by omega) _ (by simp)).mono ?_
  rintro e W8 ⟨rfl, o8, gr8⟩
  have B8 : Below w.heap.size w W8 := bel_grown B7 gr8 Q3 (by omega)
  have sB8 := gr8.size
  have Yw0_8 := hidden (Yw0_7.out.kept gr8 (ranged_ne Qw0 Q3 (by omega)))
  clear Yw0_7
  have X3_8 := hidden o8
  clear X3_7
  have Yg0_8 := hidden (Yg0_7.out.kept gr8 (ranged_ne Qg0 Q3 (by omega)))
  clear Yg0_7
  clear o8 gr8
  clear X3_8
  go_wp2_with fail
  refine (eq_e _ _ _ _ y0 W8 HY0.out (own_ints Yg0_8.out HR0.out hm0) (own_ints Yw0_8.out HR0.out hm0)).mono ?_
  rintro e W9 ⟨rfl, b9⟩
  have B9 : Below w.heap.size w W9 := bel_then b9 B8.size B8
  have sB9 := b9.size
  have Yw0_9 := hidden (own_bel Yw0_8.out b9)
  clear Yw0_8
  have Yg0_9 := hidden (own_bel Yg0_8.out b9)
  clear Yg0_8
  clear b9
  go_wp2_with fail
  refine (mark_e (k := 1) _ y0 W9 Yg0_9.out hm0 (by omega) _ (by simp)).mono ?_
  rintro e W10 ⟨rfl, o10, gr10⟩
  have B10 : Below w.heap.size w W10 := bel_grown B9 gr10 Qg0 (by omega)
  have sB10 := gr10.size
  have Yw0_10 := hidden (Yw0_9.out.kept gr10 (ranged_ne Qw0 Qg0 (by omega)))
  clear Yw0_9
  have Yg0_10 := hidden o10
  clear Yg0_9
  clear o10 gr10
  go_wp2_with fail
  refine (held_e _ W10 Yg0_10.out hm0).mono ?_
  rintro e _ ⟨rfl, rfl⟩
  go_wp2_with fail
  refine (toInt_e a0 cap0 z0 w W10 HL0.out HI0.out B10 hb0).mono ?_
  rintro e W11 ⟨g11, rfl, o11, b11⟩
  have B11 : Below w.heap.size w W11 := bel_then b11 B10.size B10
  have sB11 := b11.size
  have Yw0_11 := hidden (own_bel Yw0_10.out b11)
  clear Yw0_10
  have Yg0_11 := hidden (own_bel Yg0_10.out b11)
  clear Yg0_10
  have X11 := hidden o11
  have Q11 := own_ranged o11
  clear o11 b11
  go_wp2_with fail
  refine (KI.out W11 _ _ (own_ints X11.out HI0.out.2.1 hb0) (Nat.le_refl _)).mono ?_
  rintro e W12 ⟨v0_12, rfl, o0_12, b12⟩
  obtain ⟨gh0, ch0, rfl⟩ := own_form o0_12
  have B12 : Below w.heap.size w W12 := bel_then b12 B11.size B11
  have sB12 := b12.size
  have Yw0_12 := hidden (own_bel Yw0_11.out b12)
  clear Yw0_11
  have Yg0_12 := hidden (own_bel Yg0_11.out b12)
  clear Yg0_11
  have X11_12 := hidden (own_bel X11.out b12)
  clear X11
  have Yh0 := hidden o0_12
  have Qh0 := own_ranged o0_12
  clear o0_12
  clear b12
  clear X11_12
  go_wp2_with fail
  refine (eq_e _ _ _ _ y0 W12 HY0.out (own_ints Yh0.out HR0.out hm0) (own_ints Yw0_12.out HR0.out hm0)).mono ?_
  rintro e W13 ⟨rfl, b13⟩
  have B13 : Below w.heap.size w W13 := bel_then b13 B12.size B12
  have sB13 := b13.size
  have Yw0_13 := hidden (own_bel Yw0_12.out b13)
  clear Yw0_12
  have Yg0_13 := hidden (own_bel Yg0_12.out b13)
  clear Yg0_12
  have Yh0_13 := hidden (own_bel Yh0.out b13)
  clear Yh0
  clear b13
  go_wp2_with fail
  refine (held_e _ W13 Yg0_13.out hm0).mono ?_
  rintro e _ ⟨rfl, rfl⟩
  go_wp2
  go_ret
  exact ⟨rfl, B13⟩
set_option maxRecDepth 100000 in
theorem walk_FnExactPackRuns (hM : MeetsPackRuns) (w : World) (a0 : Option Addr) (len0 cap0 : Nat) (z0 : List Int) (w0 : IsRow .i64 w a0 len0 cap0 z0) (a1 : Int) (b1 : -9223372036854775808 ≤ a1) (d1 : a1 ≤ 9223372036854775807) :
    Calls Try.prog 6 #[.slice a0 len0 cap0, .int .i64 a1] w fun e w' => e = .returned (.bool true) ∧ Below w.heap.size w w' := by
  have hl0 := isrow_lenE w0
  by_cases hb0 : len0 ≤ 1048576
  rotate_left
  · have hx : (1048576 : Int) < (len0 : Int) := by omega
    clear hM
    go_enter Try.func6, Try.ntmps6
    go_wp2
    go_ret
    first | exact ⟨rfl, Below.refl _ _⟩ | exact ⟨rfl, (Below.refl _ _).alloc (Nat.le_refl _) _⟩
  obtain ⟨y0', hl0', hI0⟩ := Ints.ofRowE w0 hb0
  obtain ⟨y0, ⟨hm0, hr0⟩, hs, hi⟩ := hM y0' a1 (by rw [hl0']; exact hb0) hI0.2.1 b1 d1
  rw [hl0'] at hs hi
  exact in_FnExactPackRuns w a0 len0 cap0 y0' (hidden hI0) (hidden hl0') hb0 a1 b1 d1 y0 _ (hidden rfl) hm0 (hidden hr0) (hidden hs) (hidden hi)
end Go.Proofs.Ytpdicijoohahaaa
namespace Go.Proofs.Ytpdicijoohahaaa
set_option linter.unusedVariables false
set_option linter.unusedSimpArgs false
open Go.RowKit Go.ChangeShapes Go.WideShapes Go.ChangeAt

/-- For all arguments in bounds the model and the program answer the same. -/
def MeetsUnpackRuns : Prop := ∀ (z0 : List Int) (a1 : Int) (a2 : Int), z0.length ≤ 1048576 → (∀ x ∈ z0, -9223372036854775808 ≤ x ∧ x ≤ 9223372036854775807) → -9223372036854775808 ≤ a1 → a1 ≤ 9223372036854775807 → -9223372036854775808 ≤ a2 → a2 ≤ 9223372036854775807 → ∃ (y0 : List Int) (r1 : Bool), (y0.length ≤ 1048576 ∧ ∀ x ∈ y0, -9223372036854775808 ≤ x ∧ x ≤ 9223372036854775807) ∧ (∀ (W : World) (p0 : Nat) (c0 : Nat), Ints W W.heap.size (some ⟨p0, 0, none⟩) z0 → z0.length ≤ c0 → Calls Try.prog 25 #[.slice (some ⟨p0, 0, none⟩) z0.length c0, .int .i64 a1, .int .i64 a2] W fun e w' => ∃ v0, e = .returned (.tuple #[v0, .bool r1]) ∧ w'.ownsRow W.heap.size 3 1 v0 y0.length (intsV y0) ∧ Below W.heap.size W w') ∧ (∀ (W : World) (p0 : Nat) (c0 : Nat), Ints W W.heap.size (some ⟨p0, 0, none⟩) z0 → z0.length ≤ c0 → Calls Try.prog 26 #[.slice (some ⟨p0, 0, none⟩) z0.length c0, .int .i64 a1, .int .i64 a2] W fun e w' => ∃ v0, e = .returned (.tuple #[v0, .bool r1]) ∧ w'.ownsRow W.heap.size 3 1 v0 y0.length (intsV y0) ∧ Below W.heap.size W w')
set_option maxHeartbeats 4000000 in
set_option maxRecDepth 100000 in
theorem in_FnExactUnpackRuns (w : World) (a0 : Option Addr) (len0 cap0 : Nat) (z0 : List Int) (HI0 : Hid (Ints w w.heap.size a0 z0)) (HL0 : Hid (z0.length = len0)) (hb0 : len0 ≤ 1048576) (a1 : Int) (b1 : -9223372036854775808 ≤ a1) (d1 : a1 ≤ 9223372036854775807) (a2 : Int) (b2 : -9223372036854775808 ≤ a2) (d2 : a2 ≤ 9223372036854775807) (y0 : List Int) (r1 : Bool)
    (m0 : Nat) (HY0 : Hid (y0.length = m0)) (hm0 : m0 ≤ 1048576) (HR0 : Hid (∀ x ∈ y0, -9223372036854775808 ≤ x ∧ x ≤ 9223372036854775807))
    (KS : Hid (∀ (W : World) (p0 : Nat) (c0 : Nat), Ints W W.heap.size (some ⟨p0, 0, none⟩) z0 → len0 ≤ c0 → Calls Try.prog 25 #[.slice (some ⟨p0, 0, none⟩) len0 c0, .int .i64 a1, .int .i64 a2] W fun e w' => ∃ v0, e = .returned (.tuple #[v0, .bool r1]) ∧ w'.ownsRow W.heap.size 3 1 v0 m0 (intsV y0) ∧ Below W.heap.size W w'))
    (KI : Hid (∀ (W : World) (p0 : Nat) (c0 : Nat), Ints W W.heap.size (some ⟨p0, 0, none⟩) z0 → len0 ≤ c0 → Calls Try.prog 26 #[.slice (some ⟨p0, 0, none⟩) len0 c0, .int .i64 a1, .int .i64 a2] W fun e w' => ∃ v0, e = .returned (.tuple #[v0, .bool r1]) ∧ w'.ownsRow W.heap.size 3 1 v0 m0 (intsV y0) ∧ Below W.heap.size W w')) :
    Calls Try.prog 7 #[.slice a0 len0 cap0, .int .i64 a1, .int .i64 a2] w fun e w' => e = .returned (.bool true) ∧ Below w.heap.size w w' := by
  have hg0 : ¬ (1048576 : Int) < (len0 : Int) := by omega
  have hn0 : ¬ (1 : Int) + (m0 : Int) < 0 := by omega
  have hk0 : ¬ (1 : Int) + (len0 : Int) < 0 := by omega
  have hq0 : (1 : Int) + (m0 : Int) ≠ (1 : Int) + (m0 : Int) → False := fun h => h rfl
  go_enter Try.func7, Try.ntmps7
  go_wp2_with fail
  refine (toInt_e a0 cap0 z0 w w HL0.out HI0.out (Below.refl w.heap.size w) hb0).mono ?_
  rintro e W1 ⟨g1, rfl, o1, b1⟩
  have B1 : Below w.heap.size w W1 := bel_then b1 (Below.refl w.heap.size w).size (Below.refl w.heap.size w)
  have sB1 := b1.size
  have X1 := hidden o1
  have Q1 := own_ranged o1
  clear o1 b1
  go_wp2_with fail
  refine (KS.out W1 _ _ (own_ints X1.out HI0.out.2.1 hb0) (Nat.le_refl _)).mono ?_
  rintro e W2 ⟨v0_2, rfl, o0_2, b2⟩
  obtain ⟨gw0, cw0, rfl⟩ := own_form o0_2
  have B2 : Below w.heap.size w W2 := bel_then b2 B1.size B1
  have sB2 := b2.size
  have X1_2 := hidden (own_bel X1.out b2)
  clear X1
  have Yw0 := hidden o0_2
  have Qw0 := own_ranged o0_2
  clear o0_2
  clear b2
  clear X1_2
  go_wp2_with fail
  refine (toInt_e a0 cap0 z0 w W2 HL0.out HI0.out B2 hb0).mono ?_
  rintro e W3 ⟨g3, rfl, o3, b3⟩
  have B3 : Below w.heap.size w W3 := bel_then b3 B2.size B2
  have sB3 := b3.size
  have Yw0_3 := hidden (own_bel Yw0.out b3)
  clear Yw0
  have X3 := hidden o3
  have Q3 := own_ranged o3
  clear o3 b3
  go_wp2_with fail
  refine (KI.out W3 _ _ (own_ints X3.out HI0.out.2.1 hb0) (Nat.le_refl _)).mono ?_
  rintro e W4 ⟨v0_4, rfl, o0_4, b4⟩
  obtain ⟨gg0, cg0, rfl⟩ := own_form o0_4
  have B4 : Below w.heap.size w W4 := bel_then b4 B3.size B3
  have sB4 := b4.size
  have Yw0_4 := hidden (own_bel Yw0_3.out b4)
  clear Yw0_3
  have X3_4 := hidden (own_bel X3.out b4)
  clear X3
  have Yg0 := hidden o0_4
  have Qg0 := own_ranged o0_4
  clear o0_4
  clear b4
  go_wp2_with fail
  refine (eq_e _ _ _ _ y0 W4 HY0.out (own_ints Yg0.out HR0.out hm0) (own_ints Yw0_4.out HR0.out hm0)).mono ?_
  rintro e W5 ⟨rfl, b5⟩
  have B5 : Below w.heap.size w W5 := bel_then b5 B4.size B4
  have sB5 := b5.size
  have Yw0_5 := hidden (own_bel Yw0_4.out b5)
  clear Yw0_4
  have X3_5 := hidden (own_bel X3_4.out b5)
  clear X3_4
  have Yg0_5 := hidden (own_bel Yg0.out b5)
  clear Yg0
  clear b5
  go_wp2_with fail
  refine (toInt_e a0 cap0 z0 w W5 HL0.out HI0.out B5 hb0).mono ?_
  rintro e W6 ⟨g6, rfl, o6, b6⟩
  have B6 : Below w.heap.size w W6 := bel_then b6 B5.size B5
  have sB6 := b6.size
  have Yw0_6 := hidden (own_bel Yw0_5.out b6)
  clear Yw0_5
  have X3_6 := hidden (own_bel X3_5.out b6)
  clear X3_5
  have Yg0_6 := hidden (own_bel Yg0_5.out b6)
  clear Yg0_5
  have X6 := hidden o6
  have Q6 := own_ranged o6
  clear o6 b6
  go_wp2_with fail
  refine (eq_e _ _ _ _ z0 W6 HL0.out (own_ints X3_6.out HI0.out.2.1 hb0) (own_ints X6.out HI0.out.2.1 hb0)).mono ?_
  rintro e W7 ⟨rfl, b7⟩
  clear X6
  have B7 : Below w.heap.size w W7 := bel_then b7 B6.size B6
  have sB7 := b7.size
  have Yw0_7 := hidden (own_bel Yw0_6.out b7)
  clear Yw0_6
  have X3_7 := hidden (own_bel X3_6.out b7)
  clear X3_6
  have Yg0_7 := hidden (own_bel Yg0_6.out b7)
  clear Yg0_6
  clear b7
  go_wp2_with fail
  refine (mark_e (k := 1) _ z0 W7 X3_7.out hb0 (by omega) _ (by simp)).mono ?_
  rintro e W8 ⟨rfl, o8, gr8⟩
  have B8 : Below w.heap.size w W8 := bel_grown B7 gr8 Q3 (by omega)
  have sB8 := gr8.size
  have Yw0_8 := hidden (Yw0_7.out.kept gr8 (ranged_ne Qw0 Q3 (by omega)))
  clear Yw0_7
  have X3_8 := hidden o8
  clear X3_7
  have Yg0_8 := hidden (Yg0_7.out.kept gr8 (ranged_ne Qg0 Q3 (by omega)))
  clear Yg0_7
  clear o8 gr8
  clear X3_8
  go_wp2_with fail
  refine (eq_e _ _ _ _ y0 W8 HY0.out (own_ints Yg0_8.out HR0.out hm0) (own_ints Yw0_8.out HR0.out hm0)).mono ?_
  rintro e W9 ⟨rfl, b9⟩
  have B9 : Below w.heap.size w W9 := bel_then b9 B8.size B8
  have sB9 := b9.size
  have Yw0_9 := hidden (own_bel Yw0_8.out b9)
  clear Yw0_8
  have Yg0_9 := hidden (own_bel Yg0_8.out b9)
  clear Yg0_8
  clear b9
  go_wp2_with fail
  refine (mark_e (k := 1) _ y0 W9 Yg0_9.out hm0 (by omega) _ (by simp)).mono ?_
  rintro e W10 ⟨rfl, o10, gr10⟩
  have B10 : Below w.heap.size w W10 := bel_grown B9 gr10 Qg0 (by omega)
  have sB10 := gr10.size
  have Yw0_10 := hidden (Yw0_9.out.kept gr10 (ranged_ne Qw0 Qg0 (by omega)))
  clear Yw0_9
  have Yg0_10 := hidden o10
  clear Yg0_9
  clear o10 gr10
  go_wp2_with fail
  refine (held_e _ W10 Yg0_10.out hm0).mono ?_
  rintro e _ ⟨rfl, rfl⟩
  go_wp2_with fail
  refine (toInt_e a0 cap0 z0 w W10 HL0.out HI0.out B10 hb0).mono ?_
  rintro e W11 ⟨g11, rfl, o11, b11⟩
  have B11 : Below w.heap.size w W11 := bel_then b11 B10.size B10
  have sB11 := b11.size
  have Yw0_11 := hidden (own_bel Yw0_10.out b11)
  clear Yw0_10
  have Yg0_11 := hidden (own_bel Yg0_10.out b11)
  clear Yg0_10
  have X11 := hidden o11
  have Q11 := own_ranged o11
  clear o11 b11
  go_wp2_with fail
  refine (KI.out W11 _ _ (own_ints X11.out HI0.out.2.1 hb0) (Nat.le_refl _)).mono ?_
  rintro e W12 ⟨v0_12, rfl, o0_12, b12⟩
  obtain ⟨gh0, ch0, rfl⟩ := own_form o0_12
  have B12 : Below w.heap.size w W12 := bel_then b12 B11.size B11
  have sB12 := b12.size
  have Yw0_12 := hidden (own_bel Yw0_11.out b12)
  clear Yw0_11
  have Yg0_12 := hidden (own_bel Yg0_11.out b12)
  clear Yg0_11
  have X11_12 := hidden (own_bel X11.out b12)
  clear X11
  have Yh0 := hidden o0_12
  have Qh0 := own_ranged o0_12
  clear o0_12
  clear b12
  clear X11_12
  go_wp2_with fail
  refine (eq_e _ _ _ _ y0 W12 HY0.out (own_ints Yh0.out HR0.out hm0) (own_ints Yw0_12.out HR0.out hm0)).mono ?_
  rintro e W13 ⟨rfl, b13⟩
  have B13 : Below w.heap.size w W13 := bel_then b13 B12.size B12
  have sB13 := b13.size
  have Yw0_13 := hidden (own_bel Yw0_12.out b13)
  clear Yw0_12
  have Yg0_13 := hidden (own_bel Yg0_12.out b13)
  clear Yg0_12
  have Yh0_13 := hidden (own_bel Yh0.out b13)
  clear Yh0
  clear b13
  go_wp2_with fail
  refine (held_e _ W13 Yg0_13.out hm0).mono ?_
  rintro e _ ⟨rfl, rfl⟩
  go_wp2
  go_ret
  exact ⟨rfl, B13⟩
set_option maxRecDepth 100000 in
theorem walk_FnExactUnpackRuns (hM : MeetsUnpackRuns) (w : World) (a0 : Option Addr) (len0 cap0 : Nat) (z0 : List Int) (w0 : IsRow .i64 w a0 len0 cap0 z0) (a1 : Int) (b1 : -9223372036854775808 ≤ a1) (d1 : a1 ≤ 9223372036854775807) (a2 : Int) (b2 : -9223372036854775808 ≤ a2) (d2 : a2 ≤ 9223372036854775807) :
    Calls Try.prog 7 #[.slice a0 len0 cap0, .int .i64 a1, .int .i64 a2] w fun e w' => e = .returned (.bool true) ∧ Below w.heap.size w w' := by
  have hl0 := isrow_lenE w0
  by_cases hb0 : len0 ≤ 1048576
  rotate_left
  · have hx : (1048576 : Int) < (len0 : Int) := by omega
    clear hM
    go_enter Try.func7, Try.ntmps7
    go_wp2
    go_ret
    first | exact ⟨rfl, Below.refl _ _⟩ | exact ⟨rfl, (Below.refl _ _).alloc (Nat.le_refl _) _⟩
  obtain ⟨y0', hl0', hI0⟩ := Ints.ofRowE w0 hb0
  obtain ⟨y0, r1, ⟨hm0, hr0⟩, hs, hi⟩ := hM y0' a1 a2 (by rw [hl0']; exact hb0) hI0.2.1 b1 d1 b2 d2
  rw [hl0'] at hs hi
  exact in_FnExactUnpackRuns w a0 len0 cap0 y0' (hidden hI0) (hidden hl0') hb0 a1 b1 d1 a2 b2 d2 y0 r1 _ (hidden rfl) hm0 (hidden hr0) (hidden hs) (hidden hi)
end Go.Proofs.Ytpdicijoohahaaa
