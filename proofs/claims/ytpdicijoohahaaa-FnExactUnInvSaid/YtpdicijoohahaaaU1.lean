/- Merged: ExA, WExUnInv, WExRanksOk, WExMtf, WExUnMtf. -/
import Derived.Test.YtpdicijoohahaaaNats
import Derived.Test.YtpdicijoohahaaaC3Arr
import Derived.Test.YtpdicijoohahaaaDr
import Derived.Deep.RegionHeld3
import Derived.Deep.Cut
import Derived.Deep.DeepCutAuto
namespace Go.Proofs.Ytpdicijoohahaaa
set_option linter.unusedVariables false
set_option linter.unusedSimpArgs false
open Go.RowKit Go.ChangeShapes Go.WideShapes Go.ChangeAt

theorem Ints.ofRowE {w : World} {a : Option Addr} {len cap : Nat} {zs : List Int} (h : IsRow .i64 w a len cap zs) (hle : len ≤ 1048576) : ∃ ys : List Int, ys.length = len ∧ Ints w w.heap.size a ys := by
  rcases h with ⟨rfl, rfl, rfl, rfl⟩ | ⟨x, rfl, hl, hm, hz, hc, hwz⟩
  · exact ⟨[], rfl, by simp, by simp, fun h => by simp at h⟩
  · have hlen : (zs.take len).length = len := by rw [List.length_take]; omega
    refine ⟨zs.take len, hlen, by rw [hlen]; omega, fun n hn => ?_, fun h0 => ?_⟩
    · exact bounds_i64 (hwz n (List.mem_of_mem_take hn))
    · have h1 := hc 0 (by omega)
      obtain ⟨b, off, spot⟩ := x
      have hspot : spot = none := by simpa [Addr.add] using World.cell?_spot h1
      subst hspot
      refine ⟨b, off, rfl, ?_, fun i hi => ?_⟩
      · have := cell_lt h1
        simpa [Addr.add] using this
      · rw [hlen] at hi
        have := hc i (by omega)
        have e2 : (zs.take len).getD i 0 = zs.getD i 0 := by simp [List.getD_eq_getElem?_getD, List.getElem?_take, hi]
        rw [e2]
        by_cases e : i = 0
        · subst e; simpa [Addr.add] using this
        · simpa [Addr.add, e] using this
theorem isrow_lenE {w : World} {a : Option Addr} {len cap : Nat} {zs : List Int} (h : IsRow .i64 w a len cap zs) : len ≤ maxLen := by
  rcases h with ⟨rfl, rfl, rfl, rfl⟩ | ⟨x, rfl, hl, hm, hz, hc, hwz⟩ <;> omega
/-- A row of integers of one's own is a slice of integers. -/
theorem own_ints {w : World} {base n c : Nat} {a : Option Addr} {zs : List Int} (h : w.ownsRow base 3 1 (.slice a n c) n (intsV zs)) (hr : ∀ x ∈ zs, -9223372036854775808 ≤ x ∧ x ≤ 9223372036854775807) (hn : n ≤ 1048576) : Ints w w.heap.size a zs := (Ints.ofOwn h (by omega) hr).2
theorem own_form {w : World} {base n : Nat} {v : Value} {xs : List Value} {E : TypeId} {S : Nat} (h : w.ownsRow base E S v n xs) : ∃ a c, v = .slice a n c := by
  rcases h.2 with ⟨rfl, rfl⟩ | ⟨g, cap, cur, rfl, _⟩
  · exact ⟨none, 0, rfl⟩
  · exact ⟨_, cap, rfl⟩
theorem own_blk {w w' : World} {base : Nat} {e : TypeId} {size : Nat} {v : Value} {n : Nat} {xs : List Value} (h : w.ownsRow base e size v n xs) (hb : ∀ i, i < w.heap.size → w'.heap[i]? = w.heap[i]?) : w'.ownsRow base e size v n xs := by
  refine ⟨h.1, ?_⟩
  rcases h.2 with h2 | ⟨g, cap, cur, hv, hg, hc, hr⟩
  · exact .inl h2
  · refine .inr ⟨g, cap, cur, hv, hg, ?_, hr⟩
    rw [hb g (Array.getElem?_eq_some_iff.1 hc).1]; exact hc
/-- Where a row lies. -/
def Ranged (v : Value) (lo hi : Nat) : Prop := ∀ k, v.ownBlock = some k → lo ≤ k ∧ k < hi
theorem own_ranged {w : World} {base n S : Nat} {v : Value} {xs : List Value} {E : TypeId} (h : w.ownsRow base E S v n xs) : Ranged v base w.heap.size := h.lt
theorem ranged_ne {v1 v2 : Value} {l1 h1 l2 h2 : Nat} (r1 : Ranged v1 l1 h1) (r2 : Ranged v2 l2 h2) (h : h1 ≤ l2 ∨ h2 ≤ l1) : v1.ownBlock = none ∨ v1.ownBlock ≠ v2.ownBlock := by
  cases e : v1.ownBlock with
  | none => exact .inl rfl
  | some k =>
    refine .inr fun e2 => ?_
    have a := r1 k e
    have b := r2 k e2.symm
    omega
theorem ranged_box {v : Value} {l h g : Nat} (r : Ranged v l h) (hg : g < l ∨ h ≤ g) : some g ≠ v.ownBlock := fun e => by have := r g e.symm; omega
theorem bel_grown {w W W' : World} {v : Value} {lo hi : Nat} (B : Below w.heap.size w W) (gr : W.grownBy W' v.ownBlock) (r : Ranged v lo hi) (hlo : w.heap.size ≤ lo) : Below w.heap.size w W' :=
  B.grown gr B.size (fun b hb => Nat.le_trans hlo (r b hb).1)
theorem toInt_e {n : Nat} (a : Option Addr) (cap : Nat) (zs : List Int) (w0 w : World) (hn : zs.length = n) (hz : Ints w0 w0.heap.size a zs) (B : Below w0.heap.size w0 w) (hlen : n ≤ 1048576) :
    Calls Try.prog 14 #[.slice a n cap] w fun e w' => ∃ g, e = .returned (.slice (some ⟨g, 0, none⟩) n n) ∧ w'.ownsRow w.heap.size 3 1 (.slice (some ⟨g, 0, none⟩) n n) n (intsV zs) ∧ Below w.heap.size w w' := by
  subst hn
  exact toIntS_any a cap w0.heap.size zs w (hz.below B) B.size hlen
theorem eq_e {n : Nat} (p q : Option Addr) (c c2 : Nat) (zs : List Int) (w : World) (hn : zs.length = n) (hz : Ints w w.heap.size p zs) (hy : Ints w w.heap.size q zs) :
    Calls Try.prog 16 #[.slice p n c, .slice q n c2] w fun e w' => e = .returned (.bool true) ∧ Below w.heap.size w w' := by
  subst hn
  have := eqIntS_any p q c c2 w.heap.size zs zs w hz hy
  simpa using this
theorem mark_e {n k : Nat} {v : Value} (base : Nat) (zs : List Int) (w : World) (h : w.ownsRow base 3 1 v n (intsV zs)) (hn : n ≤ 1048576) (hk : k ≤ 1000000000) (x : Int) (hx : x = (k : Int)) :
    Calls Try.prog 17 #[v, .int .i64 x] w fun e w' => e = .returned (.int .i64 (x + (n : Int))) ∧ w'.ownsRow base 3 1 v n (intsV (upFrom k n)) ∧ w.grownBy w' v.ownBlock := by
  subst hx
  refine (markIntS_any base k n _ zs w h hn hk).mono ?_
  rintro e w' ⟨rfl, h1, h2⟩
  exact ⟨by simp, h1, h2⟩
theorem held_e {n c : Nat} {a : Option Addr} (base : Nat) (w : World) (h : w.ownsRow base 3 1 (.slice a n c) n (intsV (upFrom 1 n))) (hn : n ≤ 1048576) :
    Calls Try.prog 18 #[.slice a n c, .int .i64 1] w fun e w' => e = .returned (.int .i64 (1 + (n : Int))) ∧ w = w' := by
  have hI := (Ints.ofOwn h (by omega) (fun x hx => by
    obtain ⟨j, hj, e⟩ := mem_getD hx
    rw [upFrom_len] at hj
    rw [upFrom_get 1 n j hj] at e
    omega)).2
  refine (heldIntS_any a c _ 1 n w hI hn (by omega)).mono ?_
  rintro e w' ⟨rfl, h1⟩
  exact ⟨by simp, h1.symm⟩
end Go.Proofs.Ytpdicijoohahaaa
namespace Go.Proofs.Ytpdicijoohahaaa
set_option linter.unusedVariables false
set_option linter.unusedSimpArgs false
open Go.RowKit Go.ChangeShapes Go.WideShapes Go.ChangeAt

/-- For all arguments in bounds the model and the program answer the same. -/
def MeetsUnInv : Prop := ∀ (z0 : List Int) (z1 : List Int) (a2 : Int), z0.length ≤ 1048576 → (∀ x ∈ z0, -9223372036854775808 ≤ x ∧ x ≤ 9223372036854775807) → z1.length ≤ 1048576 → (∀ x ∈ z1, -9223372036854775808 ≤ x ∧ x ≤ 9223372036854775807) → -9223372036854775808 ≤ a2 → a2 ≤ 9223372036854775807 → ∃ (y0 : List Int) (r1 : Bool), (y0.length ≤ 1048576 ∧ ∀ x ∈ y0, -9223372036854775808 ≤ x ∧ x ≤ 9223372036854775807) ∧ (∀ (W : World) (p0 : Nat) (c0 : Nat) (p1 : Nat) (c1 : Nat), Ints W W.heap.size (some ⟨p0, 0, none⟩) z0 → Ints W W.heap.size (some ⟨p1, 0, none⟩) z1 → z0.length ≤ c0 → z1.length ≤ c1 → Calls Try.prog 13 #[.slice (some ⟨p0, 0, none⟩) z0.length c0, .slice (some ⟨p1, 0, none⟩) z1.length c1, .int .i64 a2] W fun e w' => ∃ v0, e = .returned (.tuple #[v0, .bool r1]) ∧ w'.ownsRow W.heap.size 3 1 v0 y0.length (intsV y0) ∧ Below W.heap.size W w') ∧ (∀ (W : World) (p0 : Nat) (c0 : Nat) (p1 : Nat) (c1 : Nat), Ints W W.heap.size (some ⟨p0, 0, none⟩) z0 → Ints W W.heap.size (some ⟨p1, 0, none⟩) z1 → z0.length ≤ c0 → z1.length ≤ c1 → Calls Try.prog 15 #[.slice (some ⟨p0, 0, none⟩) z0.length c0, .slice (some ⟨p1, 0, none⟩) z1.length c1, .int .i64 a2] W fun e w' => ∃ v0, e = .returned (.tuple #[v0, .bool r1]) ∧ w'.ownsRow W.heap.size 3 1 v0 y0.length (intsV y0) ∧ Below W.heap.size W w')
set_option maxHeartbeats 4000000 in
set_option maxRecDepth 100000 in
theorem in_FnExactUnInv (w : World) (a0 : Option Addr) (len0 cap0 : Nat) (z0 : List Int) (HI0 : Hid (Ints w w.heap.size a0 z0)) (HL0 : Hid (z0.length = len0)) (hb0 : len0 ≤ 1048576) (a1 : Option Addr) (len1 cap1 : Nat) (z1 : List Int) (HI1 : Hid (Ints w w.heap.size a1 z1)) (HL1 : Hid (z1.length = len1)) (hb1 : len1 ≤ 1048576) (a2 : Int) (b2 : -9223372036854775808 ≤ a2) (d2 : a2 ≤ 9223372036854775807) (y0 : List Int) (r1 : Bool)
    (m0 : Nat) (HY0 : Hid (y0.length = m0)) (hm0 : m0 ≤ 1048576) (HR0 : Hid (∀ x ∈ y0, -9223372036854775808 ≤ x ∧ x ≤ 9223372036854775807))
    (KS : Hid (∀ (W : World) (p0 : Nat) (c0 : Nat) (p1 : Nat) (c1 : Nat), Ints W W.heap.size (some ⟨p0, 0, none⟩) z0 → Ints W W.heap.size (some ⟨p1, 0, none⟩) z1 → len0 ≤ c0 → len1 ≤ c1 → Calls Try.prog 13 #[.slice (some ⟨p0, 0, none⟩) len0 c0, .slice (some ⟨p1, 0, none⟩) len1 c1, .int .i64 a2] W fun e w' => ∃ v0, e = .returned (.tuple #[v0, .bool r1]) ∧ w'.ownsRow W.heap.size 3 1 v0 m0 (intsV y0) ∧ Below W.heap.size W w'))
    (KI : Hid (∀ (W : World) (p0 : Nat) (c0 : Nat) (p1 : Nat) (c1 : Nat), Ints W W.heap.size (some ⟨p0, 0, none⟩) z0 → Ints W W.heap.size (some ⟨p1, 0, none⟩) z1 → len0 ≤ c0 → len1 ≤ c1 → Calls Try.prog 15 #[.slice (some ⟨p0, 0, none⟩) len0 c0, .slice (some ⟨p1, 0, none⟩) len1 c1, .int .i64 a2] W fun e w' => ∃ v0, e = .returned (.tuple #[v0, .bool r1]) ∧ w'.ownsRow W.heap.size 3 1 v0 m0 (intsV y0) ∧ Below W.heap.size W w')) :
    Calls Try.prog 3 #[.slice a0 len0 cap0, .slice a1 len1 cap1, .int .i64 a2] w fun e w' => e = .returned (.bool true) ∧ Below w.heap.size w w' := by
  have hg0 : ¬ (1048576 : Int) < (len0 : Int) := by omega
  have hg1 : ¬ (1048576 : Int) < (len1 : Int) := by omega
  have hn0 : ¬ (1 : Int) + (m0 : Int) < 0 := by omega
  have hk0 : ¬ (1 : Int) + (len0 : Int) < 0 := by omega
  have hk1 : ¬ (1 : Int) + (len0 : Int) + (len1 : Int) < 0 := by omega
  have hq0 : (1 : Int) + (m0 : Int) ≠ (1 : Int) + (m0 : Int) → False := fun h => h rfl
  go_enter Try.func3, Try.ntmps3
  go_wp2_with fail
  refine (toInt_e a0 cap0 z0 w w HL0.out HI0.out (Below.refl w.heap.size w) hb0).mono ?_
  rintro e W1 ⟨g1, rfl, o1, b1⟩
  have B1 : Below w.heap.size w W1 := bel_then b1 (Below.refl w.heap.size w).size (Below.refl w.heap.size w)
  have sB1 := b1.size
  have X1 := hidden o1
  have Q1 := own_ranged o1
  clear o1 b1
  go_wp2_with fail
  refine (toInt_e a1 cap1 z1 w W1 HL1.out HI1.out B1 hb1).mono ?_
  rintro e W2 ⟨g2, rfl, o2, b2⟩
  have B2 : Below w.heap.size w W2 := bel_then b2 B1.size B1
  have sB2 := b2.size
  have X1_2 := hidden (own_bel X1.out b2)
  clear X1
  have X2 := hidden o2
  have Q2 := own_ranged o2
  clear o2 b2
  go_wp2_with fail
  refine (KS.out W2 _ _ _ _ (own_ints X1_2.out HI0.out.2.1 hb0) (own_ints X2.out HI1.out.2.1 hb1) (Nat.le_refl _) (Nat.le_refl _)).mono ?_
  rintro e W3 ⟨v0_3, rfl, o0_3, b3⟩
  obtain ⟨gw0, cw0, rfl⟩ := own_form o0_3
  have B3 : Below w.heap.size w W3 := bel_then b3 B2.size B2
  have sB3 := b3.size
  have X1_3 := hidden (own_bel X1_2.out b3)
  clear X1_2
  have X2_3 := hidden (own_bel X2.out b3)
  clear X2
  have Yw0 := hidden o0_3
  have Qw0 := own_ranged o0_3
  clear o0_3
  clear b3
  clear X1_3
  clear X2_3
  go_wp2_with fail
  refine (toInt_e a0 cap0 z0 w W3 HL0.out HI0.out B3 hb0).mono ?_
  rintro e W4 ⟨g4, rfl, o4, b4⟩
  have B4 : Below w.heap.size w W4 := bel_then b4 B3.size B3
  have sB4 := b4.size
  have Yw0_4 := hidden (own_bel Yw0.out b4)
  clear Yw0
  have X4 := hidden o4
  have Q4 := own_ranged o4
  clear o4 b4
  go_wp2_with fail
  refine (toInt_e a1 cap1 z1 w W4 HL1.out HI1.out B4 hb1).mono ?_
  rintro e W5 ⟨g5, rfl, o5, b5⟩
  have B5 : Below w.heap.size w W5 := bel_then b5 B4.size B4
  have sB5 := b5.size
  have Yw0_5 := hidden (own_bel Yw0_4.out b5)
  clear Yw0_4
  have X4_5 := hidden (own_bel X4.out b5)
  clear X4
  have X5 := hidden o5
  have Q5 := own_ranged o5
  clear o5 b5
  go_wp2_with fail
  refine (KI.out W5 _ _ _ _ (own_ints X4_5.out HI0.out.2.1 hb0) (own_ints X5.out HI1.out.2.1 hb1) (Nat.le_refl _) (Nat.le_refl _)).mono ?_
  rintro e W6 ⟨v0_6, rfl, o0_6, b6⟩
  obtain ⟨gg0, cg0, rfl⟩ := own_form o0_6
  have B6 : Below w.heap.size w W6 := bel_then b6 B5.size B5
  have sB6 := b6.size
  have Yw0_6 := hidden (own_bel Yw0_5.out b6)
  clear Yw0_5
  have X4_6 := hidden (own_bel X4_5.out b6)
  clear X4_5
  have X5_6 := hidden (own_bel X5.out b6)
  clear X5
  have Yg0 := hidden o0_6
  have Qg0 := own_ranged o0_6
  clear o0_6
  clear b6
  go_wp2_with fail
  refine (eq_e _ _ _ _ y0 W6 HY0.out (own_ints Yg0.out HR0.out hm0) (own_ints Yw0_6.out HR0.out hm0)).mono ?_
  rintro e W7 ⟨rfl, b7⟩
  have B7 : Below w.heap.size w W7 := bel_then b7 B6.size B6
  have sB7 := b7.size
  have Yw0_7 := hidden (own_bel Yw0_6.out b7)
  clear Yw0_6
  have X4_7 := hidden (own_bel X4_6.out b7)
  clear X4_6
  have X5_7 := hidden (own_bel X5_6.out b7)
  clear X5_6
  have Yg0_7 := hidden (own_bel Yg0.out b7)
  clear Yg0
  clear b7
  go_wp2_with fail
  refine (toInt_e a0 cap0 z0 w W7 HL0.out HI0.out B7 hb0).mono ?_
  rintro e W8 ⟨g8, rfl, o8, b8⟩
  have B8 : Below w.heap.size w W8 := bel_then b8 B7.size B7
  have sB8 := b8.size
  have Yw0_8 := hidden (own_bel Yw0_7.out b8)
  clear Yw0_7
  have X4_8 := hidden (own_bel X4_7.out b8)
  clear X4_7
  have X5_8 := hidden (own_bel X5_7.out b8)
  clear X5_7
  have Yg0_8 := hidden (own_bel Yg0_7.out b8)
  clear Yg0_7
  have X8 := hidden o8
  have Q8 := own_ranged o8
  clear o8 b8
  go_wp2_with fail
  refine (eq_e _ _ _ _ z0 W8 HL0.out (own_ints X4_8.out HI0.out.2.1 hb0) (own_ints X8.out HI0.out.2.1 hb0)).mono ?_
  rintro e W9 ⟨rfl, b9⟩
  clear X8
  have B9 : Below w.heap.size w W9 := bel_then b9 B8.size B8
  have sB9 := b9.size
  have Yw0_9 := hidden (own_bel Yw0_8.out b9)
  clear Yw0_8
  have X4_9 := hidden (own_bel X4_8.out b9)
  clear X4_8
  have X5_9 := hidden (own_bel X5_8.out b9)
  clear X5_8
  have Yg0_9 := hidden (own_bel Yg0_8.out b9)
  clear Yg0_8
  clear b9
  go_wp2_with fail
  refine (toInt_e a1 cap1 z1 w W9 HL1.out HI1.out B9 hb1).mono ?_
  rintro e W10 ⟨g10, rfl, o10, b10⟩
  have B10 : Below w.heap.size w W10 := bel_then b10 B9.size B9
  have sB10 := b10.size
  have Yw0_10 := hidden (own_bel Yw0_9.out b10)
  clear Yw0_9
  have X4_10 := hidden (own_bel X4_9.out b10)
  clear X4_9
  have X5_10 := hidden (own_bel X5_9.out b10)
  clear X5_9
  have Yg0_10 := hidden (own_bel Yg0_9.out b10)
  clear Yg0_9
  have X10 := hidden o10
  have Q10 := own_ranged o10
  clear o10 b10
  go_wp2_with fail
  refine (eq_e _ _ _ _ z1 W10 HL1.out (own_ints X5_10.out HI1.out.2.1 hb1) (own_ints X10.out HI1.out.2.1 hb1)).mono ?_
  rintro e W11 ⟨rfl, b11⟩
  clear X10
  have B11 : Below w.heap.size w W11 := bel_then b11 B10.size B10
  have sB11 := b11.size
  have Yw0_11 := hidden (own_bel Yw0_10.out b11)
  clear Yw0_10
  have X4_11 := hidden (own_bel X4_10.out b11)
  clear X4_10
  have X5_11 := hidden (own_bel X5_10.out b11)
  clear X5_10
  have Yg0_11 := hidden (own_bel Yg0_10.out b11)
  clear Yg0_10
  clear b11
  go_wp2_with fail
  refine (mark_e (k := 1) _ z0 W11 X4_11.out hb0 (by omega) _ (by simp)).mono ?_
  rintro e W12 ⟨rfl, o12, gr12⟩
  have B12 : Below w.heap.size w W12 := bel_grown B11 gr12 Q4 (by omega)
  have sB12 := gr12.size
  have Yw0_12 := hidden (Yw0_11.out.kept gr12 (ranged_ne Qw0 Q4 (by omega)))
  clear Yw0_11
  have X4_12 := hidden o12
  clear X4_11
  have X5_12 := hidden (X5_11.out.kept gr12 (ranged_ne Q5 Q4 (by omega)))
  clear X5_11
  have Yg0_12 := hidden (Yg0_11.out.kept gr12 (ranged_ne Qg0 Q4 (by omega)))
  clear Yg0_11
  clear o12 gr12
  clear X4_12
  go_wp2_with fail
  refine (mark_e (k := (1 + len0)) _ z1 W12 X5_12.out hb1 (by omega) _ (by simp)).mono ?_
  rintro e W13 ⟨rfl, o13, gr13⟩
  have B13 : Below w.heap.size w W13 := bel_grown B12 gr13 Q5 (by omega)
  have sB13 := gr13.size
  have Yw0_13 := hidden (Yw0_12.out.kept gr13 (ranged_ne Qw0 Q5 (by omega)))
  clear Yw0_12
  have X5_13 := hidden o13
  clear X5_12
  have Yg0_13 := hidden (Yg0_12.out.kept gr13 (ranged_ne Qg0 Q5 (by omega)))
  clear Yg0_12
  clear o13 gr13
  clear X5_13
  go_wp2_with fail
  refine (eq_e _ _ _ _ y0 W13 HY0.out (own_ints Yg0_13.out HR0.out hm0) (own_ints Yw0_13.out HR0.out hm0)).mono ?_
  rintro e W14 ⟨rfl, b14⟩
  have B14 : Below w.heap.size w W14 := bel_then b14 B13.size B13
  have sB14 := b14.size
  have Yw0_14 := hidden (own_bel Yw0_13.out b14)
  clear Yw0_13
  have Yg0_14 := hidden (own_bel Yg0_13.out b14)
  clear Yg0_13
  clear b14
  go_wp2_with fail
  refine (mark_e (k := 1) _ y0 W14 Yg0_14.out hm0 (by omega) _ (by simp)).mono ?_
  rintro e W15 ⟨rfl, o15, gr15⟩
  have B15 : Below w.heap.size w W15 := bel_grown B14 gr15 Qg0 (by omega)
  have sB15 := gr15.size
  have Yw0_15 := hidden (Yw0_14.out.kept gr15 (ranged_ne Qw0 Qg0 (by omega)))
  clear Yw0_14
  have Yg0_15 := hidden o15
  clear Yg0_14
  clear o15 gr15
  go_wp2_with fail
  refine (held_e _ W15 Yg0_15.out hm0).mono ?_
  rintro e _ ⟨rfl, rfl⟩
  go_wp2_with fail
  refine (toInt_e a0 cap0 z0 w W15 HL0.out HI0.out B15 hb0).mono ?_
  rintro e W16 ⟨g16, rfl, o16, b16⟩
  have B16 : Below w.heap.size w W16 := bel_then b16 B15.size B15
  have sB16 := b16.size
  have Yw0_16 := hidden (own_bel Yw0_15.out b16)
  clear Yw0_15
  have Yg0_16 := hidden (own_bel Yg0_15.out b16)
  clear Yg0_15
  have X16 := hidden o16
  have Q16 := own_ranged o16
  clear o16 b16
  go_wp2_with fail
  refine (toInt_e a1 cap1 z1 w W16 HL1.out HI1.out B16 hb1).mono ?_
  rintro e W17 ⟨g17, rfl, o17, b17⟩
  have B17 : Below w.heap.size w W17 := bel_then b17 B16.size B16
  have sB17 := b17.size
  have Yw0_17 := hidden (own_bel Yw0_16.out b17)
  clear Yw0_16
  have Yg0_17 := hidden (own_bel Yg0_16.out b17)
  clear Yg0_16
  have X16_17 := hidden (own_bel X16.out b17)
  clear X16
  have X17 := hidden o17
  have Q17 := own_ranged o17
  clear o17 b17
  go_wp2_with fail
  refine (KI.out W17 _ _ _ _ (own_ints X16_17.out HI0.out.2.1 hb0) (own_ints X17.out HI1.out.2.1 hb1) (Nat.le_refl _) (Nat.le_refl _)).mono ?_
  rintro e W18 ⟨v0_18, rfl, o0_18, b18⟩
  obtain ⟨gh0, ch0, rfl⟩ := own_form o0_18
  have B18 : Below w.heap.size w W18 := bel_then b18 B17.size B17
  have sB18 := b18.size
  have Yw0_18 := hidden (own_bel Yw0_17.out b18)
  clear Yw0_17
  have Yg0_18 := hidden (own_bel Yg0_17.out b18)
  clear Yg0_17
  have X16_18 := hidden (own_bel X16_17.out b18)
  clear X16_17
  have X17_18 := hidden (own_bel X17.out b18)
  clear X17
  have Yh0 := hidden o0_18
  have Qh0 := own_ranged o0_18
  clear o0_18
  clear b18
  clear X16_18
  clear X17_18
  go_wp2_with fail
  refine (eq_e _ _ _ _ y0 W18 HY0.out (own_ints Yh0.out HR0.out hm0) (own_ints Yw0_18.out HR0.out hm0)).mono ?_
  rintro e W19 ⟨rfl, b19⟩
  have B19 : Below w.heap.size w W19 := bel_then b19 B18.size B18
  have sB19 := b19.size
  have Yw0_19 := hidden (own_bel Yw0_18.out b19)
  clear Yw0_18
  have Yg0_19 := hidden (own_bel Yg0_18.out b19)
  clear Yg0_18
  have Yh0_19 := hidden (own_bel Yh0.out b19)
  clear Yh0
  clear b19
  go_wp2_with fail
  refine (held_e _ W19 Yg0_19.out hm0).mono ?_
  rintro e _ ⟨rfl, rfl⟩
  go_wp2
  go_ret
  exact ⟨rfl, B19⟩
set_option maxRecDepth 100000 in
theorem walk_FnExactUnInv (hM : MeetsUnInv) (w : World) (a0 : Option Addr) (len0 cap0 : Nat) (z0 : List Int) (w0 : IsRow .i64 w a0 len0 cap0 z0) (a1 : Option Addr) (len1 cap1 : Nat) (z1 : List Int) (w1 : IsRow .i64 w a1 len1 cap1 z1) (a2 : Int) (b2 : -9223372036854775808 ≤ a2) (d2 : a2 ≤ 9223372036854775807) :
    Calls Try.prog 3 #[.slice a0 len0 cap0, .slice a1 len1 cap1, .int .i64 a2] w fun e w' => e = .returned (.bool true) ∧ Below w.heap.size w w' := by
  have hl0 := isrow_lenE w0
  have hl1 := isrow_lenE w1
  by_cases hb0 : len0 ≤ 1048576
  rotate_left
  · have hx : (1048576 : Int) < (len0 : Int) := by omega
    clear hM
    go_enter Try.func3, Try.ntmps3
    go_wp2
    go_ret
    first | exact ⟨rfl, Below.refl _ _⟩ | exact ⟨rfl, (Below.refl _ _).alloc (Nat.le_refl _) _⟩
  by_cases hb1 : len1 ≤ 1048576
  rotate_left
  · have hx : (1048576 : Int) < (len1 : Int) := by omega
    have hx0 : ¬ (1048576 : Int) < (len0 : Int) := by omega
    clear hM
    go_enter Try.func3, Try.ntmps3
    go_wp2
    go_ret
    first | exact ⟨rfl, Below.refl _ _⟩ | exact ⟨rfl, (Below.refl _ _).alloc (Nat.le_refl _) _⟩
  obtain ⟨y0', hl0', hI0⟩ := Ints.ofRowE w0 hb0
  obtain ⟨y1', hl1', hI1⟩ := Ints.ofRowE w1 hb1
  obtain ⟨y0, r1, ⟨hm0, hr0⟩, hs, hi⟩ := hM y0' y1' a2 (by rw [hl0']; exact hb0) hI0.2.1 (by rw [hl1']; exact hb1) hI1.2.1 b2 d2
  rw [hl0'] at hs hi
  rw [hl1'] at hs hi
  exact in_FnExactUnInv w a0 len0 cap0 y0' (hidden hI0) (hidden hl0') hb0 a1 len1 cap1 y1' (hidden hI1) (hidden hl1') hb1 a2 b2 d2 y0 r1 _ (hidden rfl) hm0 (hidden hr0) (hidden hs) (hidden hi)
end Go.Proofs.Ytpdicijoohahaaa
namespace Go.Proofs.Ytpdicijoohahaaa
set_option linter.unusedVariables false
set_option linter.unusedSimpArgs false
open Go.RowKit Go.ChangeShapes Go.WideShapes Go.ChangeAt

/-- For all arguments in bounds the model and the program answer the same. -/
def MeetsRanksOk : Prop := ∀ (z0 : List Int) (a1 : Int), z0.length ≤ 1048576 → (∀ x ∈ z0, -9223372036854775808 ≤ x ∧ x ≤ 9223372036854775807) → -9223372036854775808 ≤ a1 → a1 ≤ 9223372036854775807 → ∃ (r0 : Bool), (∀ (W : World) (p0 : Addr) (c0 : Nat), Ints W W.heap.size (some p0) z0 → Calls Try.prog 29 #[.slice (some p0) z0.length c0, .int .i64 a1] W fun e w' => e = .returned (.bool r0) ∧ Below W.heap.size W w') ∧ (∀ (W : World) (p0 : Addr) (c0 : Nat), Ints W W.heap.size (some p0) z0 → Calls Try.prog 33 #[.slice (some p0) z0.length c0, .int .i64 a1] W fun e w' => e = .returned (.bool r0) ∧ Below W.heap.size W w')
end Go.Proofs.Ytpdicijoohahaaa
namespace Go.Proofs.Ytpdicijoohahaaa
set_option linter.unusedVariables false
set_option linter.unusedSimpArgs false
open Go.RowKit Go.ChangeShapes Go.WideShapes Go.ChangeAt

/-- For all arguments in bounds the model and the program answer the same. -/
def MeetsMtf : Prop := ∀ (z0 : List Int) (a1 : Int), z0.length ≤ 1048576 → (∀ x ∈ z0, -9223372036854775808 ≤ x ∧ x ≤ 9223372036854775807) → -9223372036854775808 ≤ a1 → a1 ≤ 9223372036854775807 → ∃ (y0 : List Int), (y0.length ≤ 1048576 ∧ ∀ x ∈ y0, -9223372036854775808 ≤ x ∧ x ≤ 9223372036854775807) ∧ (∀ (W : World) (p0 : Addr) (c0 : Nat), Ints W W.heap.size (some p0) z0 → Calls Try.prog 57 #[.slice (some p0) z0.length c0, .int .i64 a1] W fun e w' => ∃ v0, e = .returned (v0) ∧ w'.ownsRow W.heap.size 3 1 v0 y0.length (intsV y0) ∧ Below W.heap.size W w') ∧ (∀ (W : World) (p0 : Addr) (c0 : Nat), Ints W W.heap.size (some p0) z0 → Calls Try.prog 28 #[.slice (some p0) z0.length c0, .int .i64 a1] W fun e w' => ∃ v0, e = .returned (v0) ∧ w'.ownsRow W.heap.size 3 1 v0 y0.length (intsV y0) ∧ Below W.heap.size W w')
end Go.Proofs.Ytpdicijoohahaaa
namespace Go.Proofs.Ytpdicijoohahaaa
set_option linter.unusedVariables false
set_option linter.unusedSimpArgs false
open Go.RowKit Go.ChangeShapes Go.WideShapes Go.ChangeAt

end Go.Proofs.Ytpdicijoohahaaa
