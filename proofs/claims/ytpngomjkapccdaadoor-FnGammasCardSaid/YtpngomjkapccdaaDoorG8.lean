/- Texts of one reach, one behind the other: ExA, WExPutLens, WExLensCost, WExGetLens, WExPutGamma, WExGammaBits, WExGetGamma. What each is about stands in its theorems. -/
import Derived.Test.YtpngomjkapccdaaDoorG1
import Derived.Test.YtpngomjkapccdaaDoorG4
import Derived.Test.YtpngomjkapccdaaDoorG3
import Derived.Deep.Cut
import Derived.Deep.DeepCutAuto
import Derived.Deep.RegionHeld3
namespace Go.Proofs.YtpngomjkapccdaaDoor
set_option linter.unusedVariables false
set_option linter.unusedSimpArgs false
open Go.RowKit Go.ChangeShapes Go.WideShapes Go.ChangeAt

theorem Ints.ofRowE {w : World} {a : Option Addr} {len cap : Nat} {zs : List Int} (h : IsRow .i64 w a len cap zs) (hle : len ≤ 1048576) : ∃ ys : List Int, ys.length = len ∧ Ints w w.heap.size a ys := by
  rcases h with ⟨rfl, rfl, rfl, rfl⟩ | ⟨x, rfl, hl, hm, hz, hc, hwz⟩
  · exact ⟨[], rfl, by simp, by simp, fun h => by simp at h⟩
  · have hlen : (zs.take len).length = len := by rw [List.length_take]; omega
    refine ⟨zs.take len, hlen, by rw [hlen]; omega, fun n hn => ?_, fun h0 => ?_⟩
    · exact bounds_i64 (hwz n (List.mem_of_mem_take hn))
    · have h1 := hc 0 (by omega)
      obtain ⟨b, off, spot⟩ := x
      have hspot : spot = none := by simpa [Addr.add] using World.cell?_spot h1
      subst hspot
      refine ⟨b, off, rfl, ?_, fun i hi => ?_⟩
      · have := cell_lt h1
        simpa [Addr.add] using this
      · rw [hlen] at hi
        have := hc i (by omega)
        have e2 : (zs.take len).getD i 0 = zs.getD i 0 := by simp [List.getD_eq_getElem?_getD, List.getElem?_take, hi]
        rw [e2]
        by_cases e : i = 0
        · subst e; simpa [Addr.add] using this
        · simpa [Addr.add, e] using this
theorem isrow_lenE {w : World} {a : Option Addr} {len cap : Nat} {zs : List Int} (h : IsRow .i64 w a len cap zs) : len ≤ maxLen := by
  rcases h with ⟨rfl, rfl, rfl, rfl⟩ | ⟨x, rfl, hl, hm, hz, hc, hwz⟩ <;> omega
/-- A row of integers of one's own is a slice of integers. -/
theorem own_ints {w : World} {base n c : Nat} {a : Option Addr} {zs : List Int} (h : w.ownsRow base 3 1 (.slice a n c) n (intsV zs)) (hr : ∀ x ∈ zs, -9223372036854775808 ≤ x ∧ x ≤ 9223372036854775807) (hn : n ≤ 1048576) : Ints w w.heap.size a zs := (Ints.ofOwn h (by omega) hr).2
theorem own_form {w : World} {base n : Nat} {v : Value} {xs : List Value} {E : TypeId} {S : Nat} (h : w.ownsRow base E S v n xs) : ∃ a c, v = .slice a n c := by
  rcases h.2 with ⟨rfl, rfl⟩ | ⟨g, cap, cur, rfl, _⟩
  · exact ⟨none, 0, rfl⟩
  · exact ⟨_, cap, rfl⟩
theorem own_blk {w w' : World} {base : Nat} {e : TypeId} {size : Nat} {v : Value} {n : Nat} {xs : List Value} (h : w.ownsRow base e size v n xs) (hb : ∀ i, i < w.heap.size → w'.heap[i]? = w.heap[i]?) : w'.ownsRow base e size v n xs := by
  refine ⟨h.1, ?_⟩
  rcases h.2 with h2 | ⟨g, cap, cur, hv, hg, hc, hr⟩
  · exact .inl h2
  · refine .inr ⟨g, cap, cur, hv, hg, ?_, hr⟩
    rw [hb g (Array.getElem?_eq_some_iff.1 hc).1]; exact hc
/-- Where a row lies. -/
def Ranged (v : Value) (lo hi : Nat) : Prop := ∀ k, v.ownBlock = some k → lo ≤ k ∧ k < hi
theorem own_ranged {w : World} {base n S : Nat} {v : Value} {xs : List Value} {E : TypeId} (h : w.ownsRow base E S v n xs) : Ranged v base w.heap.size := h.lt
theorem ranged_ne {v1 v2 : Value} {l1 h1 l2 h2 : Nat} (r1 : Ranged v1 l1 h1) (r2 : Ranged v2 l2 h2) (h : h1 ≤ l2 ∨ h2 ≤ l1) : v1.ownBlock = none ∨ v1.ownBlock ≠ v2.ownBlock := by
  cases e : v1.ownBlock with
  | none => exact .inl rfl
  | some k =>
    refine .inr fun e2 => ?_
    have a := r1 k e
    have b := r2 k e2.symm
    omega
theorem ranged_box {v : Value} {l h g : Nat} (r : Ranged v l h) (hg : g < l ∨ h ≤ g) : some g ≠ v.ownBlock := fun e => by have := r g e.symm; omega
theorem bel_grown {w W W' : World} {v : Value} {lo hi : Nat} (B : Below w.heap.size w W) (gr : W.grownBy W' v.ownBlock) (r : Ranged v lo hi) (hlo : w.heap.size ≤ lo) : Below w.heap.size w W' :=
  B.grown gr B.size (fun b hb => Nat.le_trans hlo (r b hb).1)
theorem toRd_e (s : ByteArray) (n : Int) (w : World) :
    Calls Tryd.prog 14 #[.agg #[.string s, .int .i64 n]] w fun e w' => e = .returned (.agg #[.string s, .int .i64 n]) ∧ Below w.heap.size w w' := by
  go_enter Tryd.func14, Tryd.ntmps14
  go_wp2
  refine bodyPost_ret (v := .agg #[.string s, .int .i64 n]) (by simp [results, Tryd.results14, go_sem]) rfl ⟨rfl, ?_⟩
  repeat (first | exact Below.refl _ _ | refine Below.alloc ?_ (by (try simp); (try omega)) _ | refine Below.setCell ?_ (by (try simp); (try omega)) _ | refine Below.drew ?_)
theorem szRd_ok (s : ByteArray) (n : Int) (l : Nat) (w : World) (hs : s.size ≤ l) (hl : l ≤ 1048576) :
    Calls Tryd.prog 12 #[.agg #[.string s, .int .i64 n], .int .i64 l] w fun e w' => e = .returned (.int .i64 ((l - s.size : Nat) : Int)) ∧ Below w.heap.size w w' := by
  have e1 : ((l - s.size : Nat) : Int) = (l : Int) - (s.size : Int) := by omega
  rw [e1]
  go_enter Tryd.func12, Tryd.ntmps12
  go_wp2
  go_ret
  exact ⟨rfl, (Below.refl _ _).alloc (Nat.le_refl _) _⟩
theorem szRd_no (s : ByteArray) (n : Int) (l : Nat) (w : World) (hs : l < s.size) (hm : s.size ≤ maxLen) (hl : l ≤ 1048576) :
    Calls Tryd.prog 12 #[.agg #[.string s, .int .i64 n], .int .i64 l] w fun e w' => e = .returned (.int .i64 (-1)) ∧ Below w.heap.size w w' := by
  unfold maxLen at hm
  go_enter Tryd.func12, Tryd.ntmps12
  go_wp2
  go_ret
  exact ⟨rfl, (Below.refl _ _).alloc (Nat.le_refl _) _⟩
theorem eqRd_e (s : ByteArray) (n : Int) (w : World) :
    Calls Tryd.prog 15 #[.agg #[.string s, .int .i64 n], .agg #[.string s, .int .i64 n]] w fun e w' => e = .returned (.bool true) ∧ Below w.heap.size w w' := by
  go_enter Tryd.func15, Tryd.ntmps15
  go_wp2
  go_ret
  refine ⟨rfl, ?_⟩
  repeat (first | exact Below.refl _ _ | refine Below.alloc ?_ (by (try simp); (try omega)) _ | refine Below.setCell ?_ (by (try simp); (try omega)) _ | refine Below.drew ?_)
end Go.Proofs.YtpngomjkapccdaaDoor
namespace Go.Proofs.YtpngomjkapccdaaDoor
set_option linter.unusedVariables false
set_option linter.unusedSimpArgs false
open Go.RowKit Go.ChangeShapes Go.WideShapes Go.ChangeAt

end Go.Proofs.YtpngomjkapccdaaDoor
namespace Go.Proofs.YtpngomjkapccdaaDoor
set_option linter.unusedVariables false
set_option linter.unusedSimpArgs false
open Go.RowKit Go.ChangeShapes Go.WideShapes Go.ChangeAt

end Go.Proofs.YtpngomjkapccdaaDoor
namespace Go.Proofs.YtpngomjkapccdaaDoor
set_option linter.unusedVariables false
set_option linter.unusedSimpArgs false
open Go.RowKit Go.ChangeShapes Go.WideShapes Go.ChangeAt

end Go.Proofs.YtpngomjkapccdaaDoor
namespace Go.Proofs.YtpngomjkapccdaaDoor
set_option linter.unusedVariables false
set_option linter.unusedSimpArgs false
open Go.RowKit Go.ChangeShapes Go.WideShapes Go.ChangeAt

end Go.Proofs.YtpngomjkapccdaaDoor
namespace Go.Proofs.YtpngomjkapccdaaDoor
set_option linter.unusedVariables false
set_option linter.unusedSimpArgs false
open Go.RowKit Go.ChangeShapes Go.WideShapes Go.ChangeAt

end Go.Proofs.YtpngomjkapccdaaDoor
namespace Go.Proofs.YtpngomjkapccdaaDoor
set_option linter.unusedVariables false
set_option linter.unusedSimpArgs false
open Go.RowKit Go.ChangeShapes Go.WideShapes Go.ChangeAt

/-- For all arguments in bounds the model and the program answer the same. -/
def MeetsGetGamma : Prop := ∀ (s0 : ByteArray) (a0 : Int), s0.size ≤ 1048576 → -9223372036854775808 ≤ a0 → a0 ≤ 9223372036854775807 → ∃ (r0 : Int) (t1 : ByteArray) (r1 : Int) (r2 : Bool), (∀ (W : World), Calls Tryd.prog 13 #[.agg #[.string s0, .int .i64 a0]] W fun e w' => e = .returned (.tuple #[.int .i64 r0, .agg #[.string t1, .int .i64 r1], .bool r2]) ∧ Below W.heap.size W w') ∧ (∀ (W : World), Sent W → Calls Tryd.prog 11 #[.agg #[.string s0, .int .i64 a0]] W fun e w' => e = .returned (.tuple #[.int .i64 r0, .agg #[.string t1, .int .i64 r1], .bool r2]) ∧ Below W.heap.size W w')
set_option maxHeartbeats 4000000 in
set_option maxRecDepth 100000 in
theorem in_FnExactGetGamma (w : World) (hS : Hid (Sent w)) (s0 : ByteArray) (a0 : Int) (hb0 : s0.size ≤ 1048576) (b0 : -9223372036854775808 ≤ a0) (d0 : a0 ≤ 9223372036854775807) (r0 : Int) (t1 : ByteArray) (r1 : Int) (r2 : Bool)
    (KS : Hid (∀ (W : World), Calls Tryd.prog 13 #[.agg #[.string s0, .int .i64 a0]] W fun e w' => e = .returned (.tuple #[.int .i64 r0, .agg #[.string t1, .int .i64 r1], .bool r2]) ∧ Below W.heap.size W w'))
    (KI : Hid (∀ (W : World), Sent W → Calls Tryd.prog 11 #[.agg #[.string s0, .int .i64 a0]] W fun e w' => e = .returned (.tuple #[.int .i64 r0, .agg #[.string t1, .int .i64 r1], .bool r2]) ∧ Below W.heap.size W w')) :
    Calls Tryd.prog 4 #[.agg #[.string s0, .int .i64 a0]] w fun e w' => e = .returned (.bool true) ∧ Below w.heap.size w w' := by
  go_enter Tryd.func4, Tryd.ntmps4
  obtain ⟨N1, hN1⟩ : ∃ N, N = (w.alloc (.cells #[.string s0, .int .i64 a0] 37)) := ⟨_, rfl⟩
  have hb1_ : Below w.heap.size w N1 := by rw [hN1]; exact (Below.refl _ _).alloc (Nat.le_refl _) _
  have HA : Hid (Has N1 w.heap.size 37 #[.string s0, .int .i64 a0]) := hidden (by rw [hN1]; exact Has.fresh _ _ _)
  have lHA := HA.out.lt
  go_wp2_with fail
  rw [← hN1]
  refine (szRd_ok s0 a0 1048576 N1 hb0 (Nat.le_refl _)).mono ?_
  rintro e W2 ⟨rfl, b2⟩
  clear hN1
  have B2 : Below w.heap.size w W2 := bel_then b2 hb1_.size hb1_
  have sB2 := b2.size
  have HA_2 := hidden (HA.out.below b2 HA.out.lt)
  clear HA
  clear b2
  have e2_HAa := HA_2.out.cell 0
  have e2_HAb := HA_2.out.cell 1
  simp at e2_HAa e2_HAb
  go_wp2_with fail
  refine (toRd_e s0 a0 W2).mono ?_
  rintro e W3 ⟨rfl, b3⟩
  clear e2_HAa e2_HAb
  have B3 : Below w.heap.size w W3 := bel_then b3 B2.size B2
  have sB3 := b3.size
  have HA_3 := hidden (HA_2.out.below b3 HA_2.out.lt)
  clear HA_2
  clear b3
  go_wp2_with fail
  refine (KS.out W3  ).mono ?_
  rintro e W4 ⟨rfl, b4⟩
  have B4 : Below w.heap.size w W4 := bel_then b4 B3.size B3
  have sB4 := b4.size
  have HA_4 := hidden (HA_3.out.below b4 HA_3.out.lt)
  clear HA_3
  clear b4
  have q5_HAa := HA_4.out.cell 0
  have q5_HAb := HA_4.out.cell 1
  have q5_HAl := HA_4.out.lt
  simp at q5_HAa q5_HAb
  have q5_HAn : ¬ w.heap.size = W4.heap.size := by omega
  obtain ⟨N5, hN5⟩ : ∃ N, N = (W4.alloc (.cells #[.string t1, .int .i64 r1] 33)) := ⟨_, rfl⟩
  have hb5_ : Below W4.heap.size W4 N5 := by rw [hN5]; exact (Below.refl _ _).alloc (Nat.le_refl _) _
  have Hw1 : Hid (Has N5 W4.heap.size 33 #[.string t1, .int .i64 r1]) := hidden (by rw [hN5]; exact Has.fresh _ _ _)
  have lHw1 := Hw1.out.lt
  have B5 : Below w.heap.size w N5 := bel_then hb5_ B4.size B4
  have sB5 := hb5_.size
  have HA_5 := hidden (HA_4.out.below hb5_ HA_4.out.lt)
  clear HA_4
  clear hb5_
  have e5_HAa := HA_5.out.cell 0
  have e5_HAb := HA_5.out.cell 1
  simp at e5_HAa e5_HAb
  go_wp2_with fail
  rw [← hN5]
  refine (toRd_e s0 a0 N5).mono ?_
  rintro e W6 ⟨rfl, b6⟩
  clear e5_HAa e5_HAb hN5 q5_HAa q5_HAb q5_HAl q5_HAn
  have B6 : Below w.heap.size w W6 := bel_then b6 B5.size B5
  have sB6 := b6.size
  have HA_6 := hidden (HA_5.out.below b6 HA_5.out.lt)
  clear HA_5
  have Hw1_6 := hidden (Hw1.out.below b6 Hw1.out.lt)
  clear Hw1
  clear b6
  go_wp2_with fail
  refine (KI.out W6 (hS.out.below B6)).mono ?_
  rintro e W7 ⟨rfl, b7⟩
  have B7 : Below w.heap.size w W7 := bel_then b7 B6.size B6
  have sB7 := b7.size
  have HA_7 := hidden (HA_6.out.below b7 HA_6.out.lt)
  clear HA_6
  have Hw1_7 := hidden (Hw1_6.out.below b7 Hw1_6.out.lt)
  clear Hw1_6
  clear b7
  have q8_HAa := HA_7.out.cell 0
  have q8_HAb := HA_7.out.cell 1
  have q8_HAl := HA_7.out.lt
  simp at q8_HAa q8_HAb
  have q8_HAn : ¬ w.heap.size = W7.heap.size := by omega
  have q8_Hw1a := Hw1_7.out.cell 0
  have q8_Hw1b := Hw1_7.out.cell 1
  have q8_Hw1l := Hw1_7.out.lt
  simp at q8_Hw1a q8_Hw1b
  have q8_Hw1n : ¬ W4.heap.size = W7.heap.size := by omega
  obtain ⟨N8, hN8⟩ : ∃ N, N = (W7.alloc (.cells #[.string t1, .int .i64 r1] 33)) := ⟨_, rfl⟩
  have hb8_ : Below W7.heap.size W7 N8 := by rw [hN8]; exact (Below.refl _ _).alloc (Nat.le_refl _) _
  have Hg1 : Hid (Has N8 W7.heap.size 33 #[.string t1, .int .i64 r1]) := hidden (by rw [hN8]; exact Has.fresh _ _ _)
  have lHg1 := Hg1.out.lt
  have B8 : Below w.heap.size w N8 := bel_then hb8_ B7.size B7
  have sB8 := hb8_.size
  have HA_8 := hidden (HA_7.out.below hb8_ HA_7.out.lt)
  clear HA_7
  have Hw1_8 := hidden (Hw1_7.out.below hb8_ Hw1_7.out.lt)
  clear Hw1_7
  clear hb8_
  have e8_Hg1a := Hg1.out.cell 0
  have e8_Hg1b := Hg1.out.cell 1
  simp at e8_Hg1a e8_Hg1b
  have e8_Hw1a := Hw1_8.out.cell 0
  have e8_Hw1b := Hw1_8.out.cell 1
  simp at e8_Hw1a e8_Hw1b
  go_wp2_with fail
  rw [← hN8]
  refine (eqRd_e t1 r1 N8).mono ?_
  rintro e W9 ⟨rfl, b9⟩
  clear e8_Hg1a e8_Hg1b e8_Hw1a e8_Hw1b hN8 q8_HAa q8_HAb q8_HAl q8_HAn q8_Hw1a q8_Hw1b q8_Hw1l q8_Hw1n
  have B9 : Below w.heap.size w W9 := bel_then b9 B8.size B8
  have sB9 := b9.size
  have HA_9 := hidden (HA_8.out.below b9 HA_8.out.lt)
  clear HA_8
  have Hw1_9 := hidden (Hw1_8.out.below b9 Hw1_8.out.lt)
  clear Hw1_8
  have Hg1_9 := hidden (Hg1.out.below b9 Hg1.out.lt)
  clear Hg1
  clear b9
  go_wp2
  go_ret
  exact ⟨rfl, B9⟩
set_option maxRecDepth 100000 in
theorem walk_FnExactGetGamma (hM : MeetsGetGamma) (w : World) (hS : Sent w) (s0 : ByteArray) (a0 : Int) (w0 : s0.size ≤ maxLen) (b0 : -9223372036854775808 ≤ a0) (d0 : a0 ≤ 9223372036854775807) :
    Calls Tryd.prog 4 #[.agg #[.string s0, .int .i64 a0]] w fun e w' => e = .returned (.bool true) ∧ Below w.heap.size w w' := by
  by_cases hb0 : s0.size ≤ 1048576
  rotate_left
  · have hx : 1048576 < s0.size := by omega
    have c0 := (Has.fresh w 37 #[.string s0, .int .i64 a0]).cell 0
    have c1 := (Has.fresh w 37 #[.string s0, .int .i64 a0]).cell 1
    simp at c0 c1
    clear hM
    go_enter Tryd.func4, Tryd.ntmps4
    go_wp2_with fail
    refine (szRd_no s0 a0 1048576 _ hx w0 (Nat.le_refl _)).mono ?_
    rintro e w1 ⟨rfl, b1⟩
    go_wp2
    go_ret
    exact ⟨rfl, bel_then b1 (by simp) ((Below.refl _ _).alloc (Nat.le_refl _) _)⟩
  obtain ⟨r0, t1, r1, r2, hs, hi⟩ := hM s0 a0 hb0 b0 d0
  exact in_FnExactGetGamma w (hidden hS) s0 a0 hb0 b0 d0 r0 t1 r1 r2  (hidden hs) (hidden hi)
end Go.Proofs.YtpngomjkapccdaaDoor
