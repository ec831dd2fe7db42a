/- Texts of one reach, one behind the other: WExGetSym, WExGetSyms, C4A, C4L, I4P, I4Q, I4R, I4S, Ask4. What each is about stands in its theorems. -/
import Derived.Test.YtdfbpmkdmpdobaaG7
import Derived.Test.YtdfbpmkdmpdobaaG6
import Derived.Test.YtdfbpmkdmpdobaaG4
import Derived.Test.YtdfbpmkdmpdobaaG8
import Derived.Test.YtdfbpmkdmpdobaaG3
import Derived.Test.YtdfbpmkdmpdobaaG14
import Derived.Test.YtdfbpmkdmpdobaaG16
import Derived.BigQuiet
import Derived.ChangeAlike
import Derived.Deep.QuietTactic
import Derived.OwnWalk
import Derived.RegionTactic
import Derived.Deep.RegionHeld3
namespace Go.Proofs.Ytdfbpmkdmpdobaa
set_option linter.unusedVariables false
set_option linter.unusedSimpArgs false
open Go.RowKit Go.ChangeShapes Go.WideShapes Go.ChangeAt

/-- For all arguments in bounds the model and the program answer the same. -/
def MeetsGetSym : Prop := ∀ (z0 : List Int) (s1 : ByteArray) (a1 : Int), z0.length ≤ 1048576 → (∀ x ∈ z0, -9223372036854775808 ≤ x ∧ x ≤ 9223372036854775807) → s1.size ≤ 1048576 → -9223372036854775808 ≤ a1 → a1 ≤ 9223372036854775807 → ∃ (r0 : Int) (t1 : ByteArray) (r1 : Int) (r2 : Bool), (∀ (W : World) (p0 : Addr) (c0 : Nat), Ints W W.heap.size (some p0) z0 → Calls Try.prog 35 #[.slice (some p0) z0.length c0, .agg #[.string s1, .int .i64 a1]] W fun e w' => e = .returned (.tuple #[.int .i64 r0, .agg #[.string t1, .int .i64 r1], .bool r2]) ∧ Below W.heap.size W w') ∧ (∀ (W : World) (p0 : Addr) (c0 : Nat), Ints W W.heap.size (some p0) z0 → Calls Try.prog 24 #[.slice (some p0) z0.length c0, .agg #[.string s1, .int .i64 a1]] W fun e w' => e = .returned (.tuple #[.int .i64 r0, .agg #[.string t1, .int .i64 r1], .bool r2]) ∧ Below W.heap.size W w')
attribute [local go_sem ↓] Go.wp_at_zero Go.wp_at_succ
set_option maxHeartbeats 4000000 in
set_option maxRecDepth 100000 in
theorem in_FnExactGetSym (w : World) (a0 : Option Addr) (len0 cap0 : Nat) (z0 : List Int) (HI0 : Hid (Ints w w.heap.size a0 z0)) (HL0 : Hid (z0.length = len0)) (hb0 : len0 ≤ 1048576) (s1 : ByteArray) (a1 : Int) (hb1 : s1.size ≤ 1048576) (b1 : -9223372036854775808 ≤ a1) (d1 : a1 ≤ 9223372036854775807) (r0 : Int) (t1 : ByteArray) (r1 : Int) (r2 : Bool)
    (KS : Hid (∀ (W : World) (p0 : Addr) (c0 : Nat), Ints W W.heap.size (some p0) z0 → Calls Try.prog 35 #[.slice (some p0) len0 c0, .agg #[.string s1, .int .i64 a1]] W fun e w' => e = .returned (.tuple #[.int .i64 r0, .agg #[.string t1, .int .i64 r1], .bool r2]) ∧ Below W.heap.size W w'))
    (KI : Hid (∀ (W : World) (p0 : Addr) (c0 : Nat), Ints W W.heap.size (some p0) z0 → Calls Try.prog 24 #[.slice (some p0) len0 c0, .agg #[.string s1, .int .i64 a1]] W fun e w' => e = .returned (.tuple #[.int .i64 r0, .agg #[.string t1, .int .i64 r1], .bool r2]) ∧ Below W.heap.size W w')) :
    Calls Try.prog 10 #[.slice a0 len0 cap0, .agg #[.string s1, .int .i64 a1]] w fun e w' => e = .returned (.bool true) ∧ Below w.heap.size w w' := by
  have hg0 : ¬ (1048576 : Int) < (len0 : Int) := by omega
  have hk0 : ¬ (1 : Int) + (len0 : Int) < 0 := by omega
  go_enter Try.func10, Try.ntmps10
  obtain ⟨N1, hN1⟩ : ∃ N, N = (w.alloc (.cells #[.string s1, .int .i64 a1] 47)) := ⟨_, rfl⟩
  have hb1_ : Below w.heap.size w N1 := by rw [hN1]; exact (Below.refl _ _).alloc (Nat.le_refl _) _
  have HA : Hid (Has N1 w.heap.size 47 #[.string s1, .int .i64 a1]) := hidden (by rw [hN1]; exact Has.fresh _ _ _)
  have lHA := HA.out.lt
  go_wp2_with fail
  rw [← hN1]
  refine (szRd_ok s1 a1 1048576 N1 hb1 (Nat.le_refl _)).mono ?_
  rintro e W2 ⟨rfl, b2⟩
  clear hN1
  have B2 : Below w.heap.size w W2 := bel_then b2 hb1_.size hb1_
  have sB2 := b2.size
  have HA_2 := hidden (HA.out.below b2 HA.out.lt)
  clear HA
  clear b2
  go_wp2
  have hA := HA_2.out
  have x0 := hA.cell 0
  have x1 := hA.cell 1
  simp at x0 x1
  have lA := hA.lt
  have n0a : ¬ w.heap.size = W2.heap.size := by omega
  have n0b : ¬ W2.heap.size = w.heap.size := by omega
  have bc : Below W2.heap.size W2 W2 := Below.refl _ _
  have KT := hidden (fun (W : World) (hW : Below W2.heap.size W2 W) => toInt_e a0 cap0 z0 w W HL0.out HI0.out (bel_then hW B2.size B2) hb0)
  have KD := hidden (fun (W : World) => toRd_e s1 a1 W)
  go_cut [6, 7, 8] (fun q0 q1 q2 wx => ∃ (gw1 : Nat), q0 = .int .i64 r0 ∧ q1 = .pointer (some ⟨gw1, 0, none⟩) ∧ q2 = .bool r2 ∧ Has wx gw1 37 #[.string t1, .int .i64 r1] ∧ W2.heap.size ≤ gw1 ∧ Below W2.heap.size W2 wx)
  case first =>
    go_region_held3 (fun w' => w'.cell? ⟨w.heap.size, 0, none⟩ = some (.string s1) ∧ w'.cell? ⟨w.heap.size, 1, none⟩ = some (.int .i64 a1)) (go_keep) (first | (go_at_call 26; (with_reducible refine (KT.out _ ?hW).mono ?_); (case hW => (first | exact ⟨bc.os, bc.tape, bc.output, bc.size, bc.block⟩ | exact ⟨(bc.alloc bc.size (.cells #[.string ⟨#[]⟩, .int .i64 0] 37)).os, (bc.alloc bc.size (.cells #[.string ⟨#[]⟩, .int .i64 0] 37)).tape, (bc.alloc bc.size (.cells #[.string ⟨#[]⟩, .int .i64 0] 37)).output, (bc.alloc bc.size (.cells #[.string ⟨#[]⟩, .int .i64 0] 37)).size, (bc.alloc bc.size (.cells #[.string ⟨#[]⟩, .int .i64 0] 37)).block⟩)); rintro e xa ⟨ga, rfl, oa, ba⟩; have yxa := ba.size; (try simp at yxa); (first | (have hG := (ba.block _ hG.lt).trans hG) | (have hG := (ba.block _ (Has.fresh W2 37 #[.string ⟨#[]⟩, .int .i64 0]).lt).trans (Has.fresh W2 37 #[.string ⟨#[]⟩, .int .i64 0])) | skip); (try (replace hG : Has xa _ _ _ := hG; have hq0 := hG.cell 0; have hq1 := hG.cell 1; have hr0 := hG.free 0; have hr1 := hG.free 1; simp at hq0 hq1; have hGl := hG.lt)); (first | (replace hA : Has xa _ _ _ := (ba.block _ hA.lt).trans hA) | (replace hA : Has xa _ _ _ := (ba.block _ (hA.alloc (.cells #[.string ⟨#[]⟩, .int .i64 0] 37)).lt).trans (hA.alloc (.cells #[.string ⟨#[]⟩, .int .i64 0] 37)))); (first | (replace bc : Below W2.heap.size W2 xa := bel_then ba bc.size ⟨bc.os, bc.tape, bc.output, bc.size, bc.block⟩) | (replace bc : Below W2.heap.size W2 xa := bel_then ba (bc.alloc bc.size (.cells #[.string ⟨#[]⟩, .int .i64 0] 37)).size ⟨(bc.alloc bc.size (.cells #[.string ⟨#[]⟩, .int .i64 0] 37)).os, (bc.alloc bc.size (.cells #[.string ⟨#[]⟩, .int .i64 0] 37)).tape, (bc.alloc bc.size (.cells #[.string ⟨#[]⟩, .int .i64 0] 37)).output, (bc.alloc bc.size (.cells #[.string ⟨#[]⟩, .int .i64 0] 37)).size, (bc.alloc bc.size (.cells #[.string ⟨#[]⟩, .int .i64 0] 37)).block⟩)); have x0 := hA.cell 0; have x1 := hA.cell 1; simp at x0 x1; have lA := hA.lt; have nxa1 : ¬ w.heap.size = xa.heap.size := (by omega); have nxa2 : ¬ xa.heap.size = w.heap.size := (by omega)) | (go_at_call 36; (with_reducible refine (KD.out _).mono ?_); rintro e xb ⟨rfl, bb⟩; (first | (replace oa := own_blk oa (fun i hi => bb.block i hi)) | (replace oa := own_blk (oa.alloc (.cells #[.string ⟨#[]⟩, .int .i64 0] 37)) (fun i hi => bb.block i hi))); have yxb := bb.size; (try simp at yxb); (first | (have hG := (bb.block _ hG.lt).trans hG) | (have hG := (bb.block _ (Has.fresh xa 37 #[.string ⟨#[]⟩, .int .i64 0]).lt).trans (Has.fresh xa 37 #[.string ⟨#[]⟩, .int .i64 0])) | skip); (try (replace hG : Has xb _ _ _ := hG; have hq0 := hG.cell 0; have hq1 := hG.cell 1; have hr0 := hG.free 0; have hr1 := hG.free 1; simp at hq0 hq1; have hGl := hG.lt)); (first | (replace hA : Has xb _ _ _ := (bb.block _ hA.lt).trans hA) | (replace hA : Has xb _ _ _ := (bb.block _ (hA.alloc (.cells #[.string ⟨#[]⟩, .int .i64 0] 37)).lt).trans (hA.alloc (.cells #[.string ⟨#[]⟩, .int .i64 0] 37)))); (first | (replace bc : Below W2.heap.size W2 xb := bel_then bb bc.size ⟨bc.os, bc.tape, bc.output, bc.size, bc.block⟩) | (replace bc : Below W2.heap.size W2 xb := bel_then bb (bc.alloc bc.size (.cells #[.string ⟨#[]⟩, .int .i64 0] 37)).size ⟨(bc.alloc bc.size (.cells #[.string ⟨#[]⟩, .int .i64 0] 37)).os, (bc.alloc bc.size (.cells #[.string ⟨#[]⟩, .int .i64 0] 37)).tape, (bc.alloc bc.size (.cells #[.string ⟨#[]⟩, .int .i64 0] 37)).output, (bc.alloc bc.size (.cells #[.string ⟨#[]⟩, .int .i64 0] 37)).size, (bc.alloc bc.size (.cells #[.string ⟨#[]⟩, .int .i64 0] 37)).block⟩)); have x0 := hA.cell 0; have x1 := hA.cell 1; simp at x0 x1; have lA := hA.lt; have nxb1 : ¬ w.heap.size = xb.heap.size := (by omega); have nxb2 : ¬ xb.heap.size = w.heap.size := (by omega)) | (go_at_call 35; (with_reducible refine (KS.out _ _ _ ?hI).mono ?_); (case hI => first | exact own_ints oa HI0.out.2.1 hb0 | exact own_ints (oa.alloc (.cells #[.string ⟨#[]⟩, .int .i64 0] 37)) HI0.out.2.1 hb0); rintro e xc ⟨rfl, bf⟩; have yxc := bf.size; (try simp at yxc); (first | (have hG := (bf.block _ hG.lt).trans hG) | (have hG := (bf.block _ (Has.fresh xb 37 #[.string ⟨#[]⟩, .int .i64 0]).lt).trans (Has.fresh xb 37 #[.string ⟨#[]⟩, .int .i64 0])) | skip); (try (replace hG : Has xc _ _ _ := hG; have hq0 := hG.cell 0; have hq1 := hG.cell 1; have hr0 := hG.free 0; have hr1 := hG.free 1; simp at hq0 hq1; have hGl := hG.lt)); (first | (replace hA : Has xc _ _ _ := (bf.block _ hA.lt).trans hA) | (replace hA : Has xc _ _ _ := (bf.block _ (hA.alloc (.cells #[.string ⟨#[]⟩, .int .i64 0] 37)).lt).trans (hA.alloc (.cells #[.string ⟨#[]⟩, .int .i64 0] 37)))); (first | (replace bc : Below W2.heap.size W2 xc := bel_then bf bc.size ⟨bc.os, bc.tape, bc.output, bc.size, bc.block⟩) | (replace bc : Below W2.heap.size W2 xc := bel_then bf (bc.alloc bc.size (.cells #[.string ⟨#[]⟩, .int .i64 0] 37)).size ⟨(bc.alloc bc.size (.cells #[.string ⟨#[]⟩, .int .i64 0] 37)).os, (bc.alloc bc.size (.cells #[.string ⟨#[]⟩, .int .i64 0] 37)).tape, (bc.alloc bc.size (.cells #[.string ⟨#[]⟩, .int .i64 0] 37)).output, (bc.alloc bc.size (.cells #[.string ⟨#[]⟩, .int .i64 0] 37)).size, (bc.alloc bc.size (.cells #[.string ⟨#[]⟩, .int .i64 0] 37)).block⟩)); have x0 := hA.cell 0; have x1 := hA.cell 1; simp at x0 x1; have lA := hA.lt; have nxc1 : ¬ w.heap.size = xc.heap.size := (by omega); have nxc2 : ¬ xc.heap.size = w.heap.size := (by omega)))
    all_goals
      go_wp2
      go_meet
      first
      | exact ⟨_, rfl, rfl, rfl, Has.fresh _ _ _, (by (try simp); (try omega)), bc.alloc bc.size _⟩
      | exact ⟨_, rfl, rfl, rfl, (by simpa using (hG.store 0 (.string t1)).store 1 (.int .i64 r1)), (by (try simp); (try omega)), (bc.setCell (p := ⟨_, 0, none⟩) (by (try simp); (try omega)) _).setCell (p := ⟨_, 1, none⟩) (by (try simp); (try omega)) _⟩
  case rest =>
    obtain ⟨gw1, rfl, rfl, rfl, h1_3, l1_3, b3⟩ := hcut
    obtain ⟨W3, hW3⟩ : ∃ W, W = wc := ⟨_, rfl⟩
    rw [← hW3] at h1_3 b3 ⊢
    clear hW3 hA x0 x1 lA n0a n0b bc KT KD
    have B3 : Below w.heap.size w W3 := bel_then b3 B2.size B2
    have sB3 := b3.size
    have HA_3 := hidden (HA_2.out.below b3 HA_2.out.lt)
    clear HA_2
    have Hw1 := hidden h1_3
    have ltHw1 := h1_3.lt
    clear h1_3
    clear b3
    go_wp2_with fail
    refine (toInt_e a0 cap0 z0 w W3 HL0.out HI0.out B3 hb0).mono ?_
    rintro e W4 ⟨g4, rfl, o4, b4⟩
    have B4 : Below w.heap.size w W4 := bel_then b4 B3.size B3
    have sB4 := b4.size
    have HA_4 := hidden (HA_3.out.below b4 HA_3.out.lt)
    clear HA_3
    have Hw1_4 := hidden (Hw1.out.below b4 Hw1.out.lt)
    clear Hw1
    have X4 := hidden o4
    have Q4 := own_ranged o4
    clear o4 b4
    have e4_HAa := HA_4.out.cell 0
    have e4_HAb := HA_4.out.cell 1
    simp at e4_HAa e4_HAb
    go_wp2_with fail
    refine (toRd_e s1 a1 W4).mono ?_
    rintro e W5 ⟨rfl, b5⟩
    clear e4_HAa e4_HAb
    have B5 : Below w.heap.size w W5 := bel_then b5 B4.size B4
    have sB5 := b5.size
    have HA_5 := hidden (HA_4.out.below b5 HA_4.out.lt)
    clear HA_4
    have Hw1_5 := hidden (Hw1_4.out.below b5 Hw1_4.out.lt)
    clear Hw1_4
    have X4_5 := hidden (own_bel X4.out b5)
    clear X4
    clear b5
    go_wp2_with fail
    refine (KI.out W5 _ _ (own_ints X4_5.out HI0.out.2.1 hb0)).mono ?_
    rintro e W6 ⟨rfl, b6⟩
    have B6 : Below w.heap.size w W6 := bel_then b6 B5.size B5
    have sB6 := b6.size
    have HA_6 := hidden (HA_5.out.below b6 HA_5.out.lt)
    clear HA_5
    have Hw1_6 := hidden (Hw1_5.out.below b6 Hw1_5.out.lt)
    clear Hw1_5
    have X4_6 := hidden (own_bel X4_5.out b6)
    clear X4_5
    clear b6
    have q7_HAa := HA_6.out.cell 0
    have q7_HAb := HA_6.out.cell 1
    have q7_HAl := HA_6.out.lt
    simp at q7_HAa q7_HAb
    have q7_HAn : ¬ w.heap.size = W6.heap.size := by omega
    have q7_Hw1a := Hw1_6.out.cell 0
    have q7_Hw1b := Hw1_6.out.cell 1
    have q7_Hw1l := Hw1_6.out.lt
    simp at q7_Hw1a q7_Hw1b
    have q7_Hw1n : ¬ gw1 = W6.heap.size := by omega
    obtain ⟨N7, hN7⟩ : ∃ N, N = (W6.alloc (.cells #[.string t1, .int .i64 r1] 37)) := ⟨_, rfl⟩
    have hb7_ : Below W6.heap.size W6 N7 := by rw [hN7]; exact (Below.refl _ _).alloc (Nat.le_refl _) _
    have Hg1 : Hid (Has N7 W6.heap.size 37 #[.string t1, .int .i64 r1]) := hidden (by rw [hN7]; exact Has.fresh _ _ _)
    have lHg1 := Hg1.out.lt
    have B7 : Below w.heap.size w N7 := bel_then hb7_ B6.size B6
    have sB7 := hb7_.size
    have HA_7 := hidden (HA_6.out.below hb7_ HA_6.out.lt)
    clear HA_6
    have Hw1_7 := hidden (Hw1_6.out.below hb7_ Hw1_6.out.lt)
    clear Hw1_6
    have X4_7 := hidden (own_bel X4_6.out hb7_)
    clear X4_6
    clear hb7_
    have e7_Hg1a := Hg1.out.cell 0
    have e7_Hg1b := Hg1.out.cell 1
    simp at e7_Hg1a e7_Hg1b
    have e7_Hw1a := Hw1_7.out.cell 0
    have e7_Hw1b := Hw1_7.out.cell 1
    simp at e7_Hw1a e7_Hw1b
    go_wp2_with fail
    rw [← hN7]
    refine (eqRd_e t1 r1 N7).mono ?_
    rintro e W8 ⟨rfl, b8⟩
    clear e7_Hg1a e7_Hg1b e7_Hw1a e7_Hw1b hN7 q7_HAa q7_HAb q7_HAl q7_HAn q7_Hw1a q7_Hw1b q7_Hw1l q7_Hw1n
    have B8 : Below w.heap.size w W8 := bel_then b8 B7.size B7
    have sB8 := b8.size
    have HA_8 := hidden (HA_7.out.below b8 HA_7.out.lt)
    clear HA_7
    have Hw1_8 := hidden (Hw1_7.out.below b8 Hw1_7.out.lt)
    clear Hw1_7
    have X4_8 := hidden (own_bel X4_7.out b8)
    clear X4_7
    have Hg1_8 := hidden (Hg1.out.below b8 Hg1.out.lt)
    clear Hg1
    clear b8
    go_wp2_with fail
    refine (toInt_e a0 cap0 z0 w W8 HL0.out HI0.out B8 hb0).mono ?_
    rintro e W9 ⟨g9, rfl, o9, b9⟩
    have B9 : Below w.heap.size w W9 := bel_then b9 B8.size B8
    have sB9 := b9.size
    have HA_9 := hidden (HA_8.out.below b9 HA_8.out.lt)
    clear HA_8
    have Hw1_9 := hidden (Hw1_8.out.below b9 Hw1_8.out.lt)
    clear Hw1_8
    have X4_9 := hidden (own_bel X4_8.out b9)
    clear X4_8
    have Hg1_9 := hidden (Hg1_8.out.below b9 Hg1_8.out.lt)
    clear Hg1_8
    have X9 := hidden o9
    have Q9 := own_ranged o9
    clear o9 b9
    go_wp2_with fail
    refine (eq_e _ _ _ _ z0 W9 HL0.out (own_ints X4_9.out HI0.out.2.1 hb0) (own_ints X9.out HI0.out.2.1 hb0)).mono ?_
    rintro e W10 ⟨rfl, b10⟩
    clear X9
    have B10 : Below w.heap.size w W10 := bel_then b10 B9.size B9
    have sB10 := b10.size
    have HA_10 := hidden (HA_9.out.below b10 HA_9.out.lt)
    clear HA_9
    have Hw1_10 := hidden (Hw1_9.out.below b10 Hw1_9.out.lt)
    clear Hw1_9
    have X4_10 := hidden (own_bel X4_9.out b10)
    clear X4_9
    have Hg1_10 := hidden (Hg1_9.out.below b10 Hg1_9.out.lt)
    clear Hg1_9
    clear b10
    go_wp2
    go_ret
    exact ⟨rfl, B10⟩
set_option maxRecDepth 100000 in
theorem walk_FnExactGetSym (hM : MeetsGetSym) (w : World) (a0 : Option Addr) (len0 cap0 : Nat) (z0 : List Int) (w0 : IsRow .i64 w a0 len0 cap0 z0) (s1 : ByteArray) (a1 : Int) (w1 : s1.size ≤ maxLen) (b1 : -9223372036854775808 ≤ a1) (d1 : a1 ≤ 9223372036854775807) :
    Calls Try.prog 10 #[.slice a0 len0 cap0, .agg #[.string s1, .int .i64 a1]] w fun e w' => e = .returned (.bool true) ∧ Below w.heap.size w w' := by
  have hl0 := isrow_lenE w0
  by_cases hb0 : len0 ≤ 1048576
  rotate_left
  · have hx : (1048576 : Int) < (len0 : Int) := by omega
    clear hM
    go_enter Try.func10, Try.ntmps10
    go_wp2
    go_ret
    first | exact ⟨rfl, Below.refl _ _⟩ | exact ⟨rfl, (Below.refl _ _).alloc (Nat.le_refl _) _⟩
  by_cases hb1 : s1.size ≤ 1048576
  rotate_left
  · have hx : 1048576 < s1.size := by omega
    have hx0 : ¬ (1048576 : Int) < (len0 : Int) := by omega
    have c0 := (Has.fresh w 47 #[.string s1, .int .i64 a1]).cell 0
    have c1 := (Has.fresh w 47 #[.string s1, .int .i64 a1]).cell 1
    simp at c0 c1
    clear hM
    go_enter Try.func10, Try.ntmps10
    go_wp2_with fail
    refine (szRd_no s1 a1 1048576 _ hx w1 (Nat.le_refl _)).mono ?_
    rintro e w1 ⟨rfl, b1⟩
    go_wp2
    go_ret
    exact ⟨rfl, bel_then b1 (by simp) ((Below.refl _ _).alloc (Nat.le_refl _) _)⟩
  obtain ⟨y0', hl0', hI0⟩ := Ints.ofRowE w0 hb0
  obtain ⟨r0, t1, r1, r2, hs, hi⟩ := hM y0' s1 a1 (by rw [hl0']; exact hb0) hI0.2.1 hb1 b1 d1
  rw [hl0'] at hs hi
  exact in_FnExactGetSym w a0 len0 cap0 y0' (hidden hI0) (hidden hl0') hb0 s1 a1 hb1 b1 d1 r0 t1 r1 r2  (hidden hs) (hidden hi)
end Go.Proofs.Ytdfbpmkdmpdobaa
namespace Go.Proofs.Ytdfbpmkdmpdobaa
set_option linter.unusedVariables false
set_option linter.unusedSimpArgs false
open Go.RowKit Go.ChangeShapes Go.WideShapes Go.ChangeAt

/-- For all arguments in bounds the model and the program answer the same. -/
def MeetsGetSyms : Prop := ∀ (z0 : List Int) (s1 : ByteArray) (a1 : Int) (a2 : Int), z0.length ≤ 1048576 → (∀ x ∈ z0, -9223372036854775808 ≤ x ∧ x ≤ 9223372036854775807) → s1.size ≤ 1048576 → -9223372036854775808 ≤ a1 → a1 ≤ 9223372036854775807 → -9223372036854775808 ≤ a2 → a2 ≤ 9223372036854775807 → ∃ (y0 : List Int) (t1 : ByteArray) (r1 : Int) (r2 : Bool), (y0.length ≤ 1048576 ∧ ∀ x ∈ y0, -9223372036854775808 ≤ x ∧ x ≤ 9223372036854775807) ∧ (∀ (W : World) (p0 : Addr) (c0 : Nat), Ints W W.heap.size (some p0) z0 → Calls Try.prog 23 #[.slice (some p0) z0.length c0, .agg #[.string s1, .int .i64 a1], .int .i64 a2] W fun e w' => ∃ v0, e = .returned (.tuple #[v0, .agg #[.string t1, .int .i64 r1], .bool r2]) ∧ w'.ownsRow W.heap.size 3 1 v0 y0.length (intsV y0) ∧ Below W.heap.size W w') ∧ (∀ (W : World) (p0 : Addr) (c0 : Nat), Ints W W.heap.size (some p0) z0 → Calls Try.prog 20 #[.slice (some p0) z0.length c0, .agg #[.string s1, .int .i64 a1], .int .i64 a2] W fun e w' => ∃ v0, e = .returned (.tuple #[v0, .agg #[.string t1, .int .i64 r1], .bool r2]) ∧ w'.ownsRow W.heap.size 3 1 v0 y0.length (intsV y0) ∧ Below W.heap.size W w')
attribute [local go_sem ↓] Go.wp_at_zero Go.wp_at_succ
set_option maxHeartbeats 4000000 in
set_option maxRecDepth 100000 in
theorem in_FnExactGetSyms (w : World) (a0 : Option Addr) (len0 cap0 : Nat) (z0 : List Int) (HI0 : Hid (Ints w w.heap.size a0 z0)) (HL0 : Hid (z0.length = len0)) (hb0 : len0 ≤ 1048576) (s1 : ByteArray) (a1 : Int) (hb1 : s1.size ≤ 1048576) (b1 : -9223372036854775808 ≤ a1) (d1 : a1 ≤ 9223372036854775807) (a2 : Int) (b2 : -9223372036854775808 ≤ a2) (d2 : a2 ≤ 9223372036854775807) (y0 : List Int) (t1 : ByteArray) (r1 : Int) (r2 : Bool)
    (m0 : Nat) (HY0 : Hid (y0.length = m0)) (hm0 : m0 ≤ 1048576) (HR0 : Hid (∀ x ∈ y0, -9223372036854775808 ≤ x ∧ x ≤ 9223372036854775807))
    (KS : Hid (∀ (W : World) (p0 : Addr) (c0 : Nat), Ints W W.heap.size (some p0) z0 → Calls Try.prog 23 #[.slice (some p0) len0 c0, .agg #[.string s1, .int .i64 a1], .int .i64 a2] W fun e w' => ∃ v0, e = .returned (.tuple #[v0, .agg #[.string t1, .int .i64 r1], .bool r2]) ∧ w'.ownsRow W.heap.size 3 1 v0 m0 (intsV y0) ∧ Below W.heap.size W w'))
    (KI : Hid (∀ (W : World) (p0 : Addr) (c0 : Nat), Ints W W.heap.size (some p0) z0 → Calls Try.prog 20 #[.slice (some p0) len0 c0, .agg #[.string s1, .int .i64 a1], .int .i64 a2] W fun e w' => ∃ v0, e = .returned (.tuple #[v0, .agg #[.string t1, .int .i64 r1], .bool r2]) ∧ w'.ownsRow W.heap.size 3 1 v0 m0 (intsV y0) ∧ Below W.heap.size W w')) :
    Calls Try.prog 11 #[.slice a0 len0 cap0, .agg #[.string s1, .int .i64 a1], .int .i64 a2] w fun e w' => e = .returned (.bool true) ∧ Below w.heap.size w w' := by
  have hg0 : ¬ (1048576 : Int) < (len0 : Int) := by omega
  have hn0 : ¬ (1 : Int) + (m0 : Int) < 0 := by omega
  have hk0 : ¬ (1 : Int) + (len0 : Int) < 0 := by omega
  have hq0 : (1 : Int) + (m0 : Int) ≠ (1 : Int) + (m0 : Int) → False := fun h => h rfl
  go_enter Try.func11, Try.ntmps11
  obtain ⟨N1, hN1⟩ : ∃ N, N = (w.alloc (.cells #[.string s1, .int .i64 a1] 47)) := ⟨_, rfl⟩
  have hb1_ : Below w.heap.size w N1 := by rw [hN1]; exact (Below.refl _ _).alloc (Nat.le_refl _) _
  have HA : Hid (Has N1 w.heap.size 47 #[.string s1, .int .i64 a1]) := hidden (by rw [hN1]; exact Has.fresh _ _ _)
  have lHA := HA.out.lt
  go_wp2_with fail
  rw [← hN1]
  refine (szRd_ok s1 a1 1048576 N1 hb1 (Nat.le_refl _)).mono ?_
  rintro e W2 ⟨rfl, b2⟩
  clear hN1
  have B2 : Below w.heap.size w W2 := bel_then b2 hb1_.size hb1_
  have sB2 := b2.size
  have HA_2 := hidden (HA.out.below b2 HA.out.lt)
  clear HA
  clear b2
  go_wp2
  have hA := HA_2.out
  have x0 := hA.cell 0
  have x1 := hA.cell 1
  simp at x0 x1
  have lA := hA.lt
  have n0a : ¬ w.heap.size = W2.heap.size := by omega
  have n0b : ¬ W2.heap.size = w.heap.size := by omega
  have bc : Below W2.heap.size W2 W2 := Below.refl _ _
  have KT := hidden (fun (W : World) (hW : Below W2.heap.size W2 W) => toInt_e a0 cap0 z0 w W HL0.out HI0.out (bel_then hW B2.size B2) hb0)
  have KD := hidden (fun (W : World) => toRd_e s1 a1 W)
  go_cut [8, 9, 10] (fun q0 q1 q2 wx => ∃ (aw0 : Option Addr) (cw0 : Nat) (gw1 : Nat), q0 = .slice aw0 m0 cw0 ∧ q1 = .pointer (some ⟨gw1, 0, none⟩) ∧ q2 = .bool r2 ∧ wx.ownsRow W2.heap.size 3 1 (.slice aw0 m0 cw0) m0 (intsV y0) ∧ Has wx gw1 37 #[.string t1, .int .i64 r1] ∧ W2.heap.size ≤ gw1 ∧ Below W2.heap.size W2 wx)
  case first =>
    go_region_held3 (fun w' => w'.cell? ⟨w.heap.size, 0, none⟩ = some (.string s1) ∧ w'.cell? ⟨w.heap.size, 1, none⟩ = some (.int .i64 a1)) (go_keep) (first | (go_at_call 26; (with_reducible refine (KT.out _ ?hW).mono ?_); (case hW => (first | exact ⟨bc.os, bc.tape, bc.output, bc.size, bc.block⟩ | exact ⟨(bc.alloc bc.size (.cells #[.string ⟨#[]⟩, .int .i64 0] 37)).os, (bc.alloc bc.size (.cells #[.string ⟨#[]⟩, .int .i64 0] 37)).tape, (bc.alloc bc.size (.cells #[.string ⟨#[]⟩, .int .i64 0] 37)).output, (bc.alloc bc.size (.cells #[.string ⟨#[]⟩, .int .i64 0] 37)).size, (bc.alloc bc.size (.cells #[.string ⟨#[]⟩, .int .i64 0] 37)).block⟩)); rintro e xa ⟨ga, rfl, oa, ba⟩; have yxa := ba.size; (try simp at yxa); (first | (have hG := (ba.block _ hG.lt).trans hG) | (have hG := (ba.block _ (Has.fresh W2 37 #[.string ⟨#[]⟩, .int .i64 0]).lt).trans (Has.fresh W2 37 #[.string ⟨#[]⟩, .int .i64 0])) | skip); (try (replace hG : Has xa _ _ _ := hG; have hq0 := hG.cell 0; have hq1 := hG.cell 1; have hr0 := hG.free 0; have hr1 := hG.free 1; simp at hq0 hq1; have hGl := hG.lt)); (first | (replace hA : Has xa _ _ _ := (ba.block _ hA.lt).trans hA) | (replace hA : Has xa _ _ _ := (ba.block _ (hA.alloc (.cells #[.string ⟨#[]⟩, .int .i64 0] 37)).lt).trans (hA.alloc (.cells #[.string ⟨#[]⟩, .int .i64 0] 37)))); (first | (replace bc : Below W2.heap.size W2 xa := bel_then ba bc.size ⟨bc.os, bc.tape, bc.output, bc.size, bc.block⟩) | (replace bc : Below W2.heap.size W2 xa := bel_then ba (bc.alloc bc.size (.cells #[.string ⟨#[]⟩, .int .i64 0] 37)).size ⟨(bc.alloc bc.size (.cells #[.string ⟨#[]⟩, .int .i64 0] 37)).os, (bc.alloc bc.size (.cells #[.string ⟨#[]⟩, .int .i64 0] 37)).tape, (bc.alloc bc.size (.cells #[.string ⟨#[]⟩, .int .i64 0] 37)).output, (bc.alloc bc.size (.cells #[.string ⟨#[]⟩, .int .i64 0] 37)).size, (bc.alloc bc.size (.cells #[.string ⟨#[]⟩, .int .i64 0] 37)).block⟩)); have x0 := hA.cell 0; have x1 := hA.cell 1; simp at x0 x1; have lA := hA.lt; have nxa1 : ¬ w.heap.size = xa.heap.size := (by omega); have nxa2 : ¬ xa.heap.size = w.heap.size := (by omega)) | (go_at_call 36; (with_reducible refine (KD.out _).mono ?_); rintro e xb ⟨rfl, bb⟩; (first | (replace oa := own_blk oa (fun i hi => bb.block i hi)) | (replace oa := own_blk (oa.alloc (.cells #[.string ⟨#[]⟩, .int .i64 0] 37)) (fun i hi => bb.block i hi))); have yxb := bb.size; (try simp at yxb); (first | (have hG := (bb.block _ hG.lt).trans hG) | (have hG := (bb.block _ (Has.fresh xa 37 #[.string ⟨#[]⟩, .int .i64 0]).lt).trans (Has.fresh xa 37 #[.string ⟨#[]⟩, .int .i64 0])) | skip); (try (replace hG : Has xb _ _ _ := hG; have hq0 := hG.cell 0; have hq1 := hG.cell 1; have hr0 := hG.free 0; have hr1 := hG.free 1; simp at hq0 hq1; have hGl := hG.lt)); (first | (replace hA : Has xb _ _ _ := (bb.block _ hA.lt).trans hA) | (replace hA : Has xb _ _ _ := (bb.block _ (hA.alloc (.cells #[.string ⟨#[]⟩, .int .i64 0] 37)).lt).trans (hA.alloc (.cells #[.string ⟨#[]⟩, .int .i64 0] 37)))); (first | (replace bc : Below W2.heap.size W2 xb := bel_then bb bc.size ⟨bc.os, bc.tape, bc.output, bc.size, bc.block⟩) | (replace bc : Below W2.heap.size W2 xb := bel_then bb (bc.alloc bc.size (.cells #[.string ⟨#[]⟩, .int .i64 0] 37)).size ⟨(bc.alloc bc.size (.cells #[.string ⟨#[]⟩, .int .i64 0] 37)).os, (bc.alloc bc.size (.cells #[.string ⟨#[]⟩, .int .i64 0] 37)).tape, (bc.alloc bc.size (.cells #[.string ⟨#[]⟩, .int .i64 0] 37)).output, (bc.alloc bc.size (.cells #[.string ⟨#[]⟩, .int .i64 0] 37)).size, (bc.alloc bc.size (.cells #[.string ⟨#[]⟩, .int .i64 0] 37)).block⟩)); have x0 := hA.cell 0; have x1 := hA.cell 1; simp at x0 x1; have lA := hA.lt; have nxb1 : ¬ w.heap.size = xb.heap.size := (by omega); have nxb2 : ¬ xb.heap.size = w.heap.size := (by omega)) | (go_at_call 23; (with_reducible refine (KS.out _ _ _ ?hI).mono ?_); (case hI => first | exact own_ints oa HI0.out.2.1 hb0 | exact own_ints (oa.alloc (.cells #[.string ⟨#[]⟩, .int .i64 0] 37)) HI0.out.2.1 hb0); rintro e xc ⟨vv0, rfl, oo0, bf⟩; obtain ⟨aw0, cw0, rfl⟩ := own_form oo0; have yxc := bf.size; (try simp at yxc); (first | (have hG := (bf.block _ hG.lt).trans hG) | (have hG := (bf.block _ (Has.fresh xb 37 #[.string ⟨#[]⟩, .int .i64 0]).lt).trans (Has.fresh xb 37 #[.string ⟨#[]⟩, .int .i64 0])) | skip); (try (replace hG : Has xc _ _ _ := hG; have hq0 := hG.cell 0; have hq1 := hG.cell 1; have hr0 := hG.free 0; have hr1 := hG.free 1; simp at hq0 hq1; have hGl := hG.lt)); (first | (replace hA : Has xc _ _ _ := (bf.block _ hA.lt).trans hA) | (replace hA : Has xc _ _ _ := (bf.block _ (hA.alloc (.cells #[.string ⟨#[]⟩, .int .i64 0] 37)).lt).trans (hA.alloc (.cells #[.string ⟨#[]⟩, .int .i64 0] 37)))); (first | (replace bc : Below W2.heap.size W2 xc := bel_then bf bc.size ⟨bc.os, bc.tape, bc.output, bc.size, bc.block⟩) | (replace bc : Below W2.heap.size W2 xc := bel_then bf (bc.alloc bc.size (.cells #[.string ⟨#[]⟩, .int .i64 0] 37)).size ⟨(bc.alloc bc.size (.cells #[.string ⟨#[]⟩, .int .i64 0] 37)).os, (bc.alloc bc.size (.cells #[.string ⟨#[]⟩, .int .i64 0] 37)).tape, (bc.alloc bc.size (.cells #[.string ⟨#[]⟩, .int .i64 0] 37)).output, (bc.alloc bc.size (.cells #[.string ⟨#[]⟩, .int .i64 0] 37)).size, (bc.alloc bc.size (.cells #[.string ⟨#[]⟩, .int .i64 0] 37)).block⟩)); have x0 := hA.cell 0; have x1 := hA.cell 1; simp at x0 x1; have lA := hA.lt; have nxc1 : ¬ w.heap.size = xc.heap.size := (by omega); have nxc2 : ¬ xc.heap.size = w.heap.size := (by omega)))
    all_goals
      go_wp2
      go_meet
      first
      | exact ⟨_, _, _, rfl, rfl, rfl, Joins.ownsRow_le (oo0.alloc _) (by (try simp); (try omega)), Has.fresh _ _ _, (by (try simp); (try omega)), bc.alloc bc.size _⟩
      | exact ⟨_, _, _, rfl, rfl, rfl, Joins.ownsRow_le (own_away (own_away oo0 (p := ⟨_, 0, none⟩) (by (try simp); (try omega)) _) (p := ⟨_, 1, none⟩) (by (try simp); (try omega)) _) (by (try simp); (try omega)), (by simpa using (hG.store 0 (.string t1)).store 1 (.int .i64 r1)), (by (try simp); (try omega)), (bc.setCell (p := ⟨_, 0, none⟩) (by (try simp); (try omega)) _).setCell (p := ⟨_, 1, none⟩) (by (try simp); (try omega)) _⟩
  case rest =>
    obtain ⟨aw0, cw0, gw1, rfl, rfl, rfl, o0_3, h1_3, l1_3, b3⟩ := hcut
    obtain ⟨W3, hW3⟩ : ∃ W, W = wc := ⟨_, rfl⟩
    rw [← hW3] at o0_3 h1_3 b3 ⊢
    clear hW3 hA x0 x1 lA n0a n0b bc KT KD
    have B3 : Below w.heap.size w W3 := bel_then b3 B2.size B2
    have sB3 := b3.size
    have HA_3 := hidden (HA_2.out.below b3 HA_2.out.lt)
    clear HA_2
    have Yw0 := hidden o0_3
    have Qw0 := own_ranged o0_3
    clear o0_3
    have Hw1 := hidden h1_3
    have ltHw1 := h1_3.lt
    clear h1_3
    clear b3
    go_wp2_with fail
    refine (toInt_e a0 cap0 z0 w W3 HL0.out HI0.out B3 hb0).mono ?_
    rintro e W4 ⟨g4, rfl, o4, b4⟩
    have B4 : Below w.heap.size w W4 := bel_then b4 B3.size B3
    have sB4 := b4.size
    have HA_4 := hidden (HA_3.out.below b4 HA_3.out.lt)
    clear HA_3
    have Yw0_4 := hidden (own_bel Yw0.out b4)
    clear Yw0
    have Hw1_4 := hidden (Hw1.out.below b4 Hw1.out.lt)
    clear Hw1
    have X4 := hidden o4
    have Q4 := own_ranged o4
    clear o4 b4
    have e4_HAa := HA_4.out.cell 0
    have e4_HAb := HA_4.out.cell 1
    simp at e4_HAa e4_HAb
    go_wp2_with fail
    refine (toRd_e s1 a1 W4).mono ?_
    rintro e W5 ⟨rfl, b5⟩
    clear e4_HAa e4_HAb
    have B5 : Below w.heap.size w W5 := bel_then b5 B4.size B4
    have sB5 := b5.size
    have HA_5 := hidden (HA_4.out.below b5 HA_4.out.lt)
    clear HA_4
    have Yw0_5 := hidden (own_bel Yw0_4.out b5)
    clear Yw0_4
    have Hw1_5 := hidden (Hw1_4.out.below b5 Hw1_4.out.lt)
    clear Hw1_4
    have X4_5 := hidden (own_bel X4.out b5)
    clear X4
    clear b5
    go_wp2_with fail
    refine (KI.out W5 _ _ (own_ints X4_5.out HI0.out.2.1 hb0)).mono ?_
    rintro e W6 ⟨v0_6, rfl, o0_6, b6⟩
    obtain ⟨gg0, cg0, rfl⟩ := own_form o0_6
    have B6 : Below w.heap.size w W6 := bel_then b6 B5.size B5
    have sB6 := b6.size
    have HA_6 := hidden (HA_5.out.below b6 HA_5.out.lt)
    clear HA_5
    have Yw0_6 := hidden (own_bel Yw0_5.out b6)
    clear Yw0_5
    have Hw1_6 := hidden (Hw1_5.out.below b6 Hw1_5.out.lt)
    clear Hw1_5
    have X4_6 := hidden (own_bel X4_5.out b6)
    clear X4_5
    have Yg0 := hidden o0_6
    have Qg0 := own_ranged o0_6
    clear o0_6
    clear b6
    have q7_HAa := HA_6.out.cell 0
    have q7_HAb := HA_6.out.cell 1
    have q7_HAl := HA_6.out.lt
    simp at q7_HAa q7_HAb
    have q7_HAn : ¬ w.heap.size = W6.heap.size := by omega
    have q7_Hw1a := Hw1_6.out.cell 0
    have q7_Hw1b := Hw1_6.out.cell 1
    have q7_Hw1l := Hw1_6.out.lt
    simp at q7_Hw1a q7_Hw1b
    have q7_Hw1n : ¬ gw1 = W6.heap.size := by omega
    obtain ⟨N7, hN7⟩ : ∃ N, N = (W6.alloc (.cells #[.string t1, .int .i64 r1] 37)) := ⟨_, rfl⟩
    have hb7_ : Below W6.heap.size W6 N7 := by rw [hN7]; exact (Below.refl _ _).alloc (Nat.le_refl _) _
    have Hg1 : Hid (Has N7 W6.heap.size 37 #[.string t1, .int .i64 r1]) := hidden (by rw [hN7]; exact Has.fresh _ _ _)
    have lHg1 := Hg1.out.lt
    have B7 : Below w.heap.size w N7 := bel_then hb7_ B6.size B6
    have sB7 := hb7_.size
    have HA_7 := hidden (HA_6.out.below hb7_ HA_6.out.lt)
    clear HA_6
    have Yw0_7 := hidden (own_bel Yw0_6.out hb7_)
    clear Yw0_6
    have Hw1_7 := hidden (Hw1_6.out.below hb7_ Hw1_6.out.lt)
    clear Hw1_6
    have X4_7 := hidden (own_bel X4_6.out hb7_)
    clear X4_6
    have Yg0_7 := hidden (own_bel Yg0.out hb7_)
    clear Yg0
    clear hb7_
    go_wp2_with fail
    rw [← hN7]
    refine (eq_e _ _ _ _ y0 N7 HY0.out (own_ints Yg0_7.out HR0.out hm0) (own_ints Yw0_7.out HR0.out hm0)).mono ?_
    rintro e W8 ⟨rfl, b8⟩
    clear hN7 q7_HAa q7_HAb q7_HAl q7_HAn q7_Hw1a q7_Hw1b q7_Hw1l q7_Hw1n
    have B8 : Below w.heap.size w W8 := bel_then b8 B7.size B7
    have sB8 := b8.size
    have HA_8 := hidden (HA_7.out.below b8 HA_7.out.lt)
    clear HA_7
    have Yw0_8 := hidden (own_bel Yw0_7.out b8)
    clear Yw0_7
    have Hw1_8 := hidden (Hw1_7.out.below b8 Hw1_7.out.lt)
    clear Hw1_7
    have X4_8 := hidden (own_bel X4_7.out b8)
    clear X4_7
    have Yg0_8 := hidden (own_bel Yg0_7.out b8)
    clear Yg0_7
    have Hg1_8 := hidden (Hg1.out.below b8 Hg1.out.lt)
    clear Hg1
    clear b8
    have e8_Hg1a := Hg1_8.out.cell 0
    have e8_Hg1b := Hg1_8.out.cell 1
    simp at e8_Hg1a e8_Hg1b
    have e8_Hw1a := Hw1_8.out.cell 0
    have e8_Hw1b := Hw1_8.out.cell 1
    simp at e8_Hw1a e8_Hw1b
    go_wp2_with fail
    refine (eqRd_e t1 r1 W8).mono ?_
    rintro e W9 ⟨rfl, b9⟩
    clear e8_Hg1a e8_Hg1b e8_Hw1a e8_Hw1b
    have B9 : Below w.heap.size w W9 := bel_then b9 B8.size B8
    have sB9 := b9.size
    have HA_9 := hidden (HA_8.out.below b9 HA_8.out.lt)
    clear HA_8
    have Yw0_9 := hidden (own_bel Yw0_8.out b9)
    clear Yw0_8
    have Hw1_9 := hidden (Hw1_8.out.below b9 Hw1_8.out.lt)
    clear Hw1_8
    have X4_9 := hidden (own_bel X4_8.out b9)
    clear X4_8
    have Yg0_9 := hidden (own_bel Yg0_8.out b9)
    clear Yg0_8
    have Hg1_9 := hidden (Hg1_8.out.below b9 Hg1_8.out.lt)
    clear Hg1_8
    clear b9
    go_wp2_with fail
    refine (toInt_e a0 cap0 z0 w W9 HL0.out HI0.out B9 hb0).mono ?_
    rintro e W10 ⟨g10, rfl, o10, b10⟩
    have B10 : Below w.heap.size w W10 := bel_then b10 B9.size B9
    have sB10 := b10.size
    have HA_10 := hidden (HA_9.out.below b10 HA_9.out.lt)
    clear HA_9
    have Yw0_10 := hidden (own_bel Yw0_9.out b10)
    clear Yw0_9
    have Hw1_10 := hidden (Hw1_9.out.below b10 Hw1_9.out.lt)
    clear Hw1_9
    have X4_10 := hidden (own_bel X4_9.out b10)
    clear X4_9
    have Yg0_10 := hidden (own_bel Yg0_9.out b10)
    clear Yg0_9
    have Hg1_10 := hidden (Hg1_9.out.below b10 Hg1_9.out.lt)
    clear Hg1_9
    have X10 := hidden o10
    have Q10 := own_ranged o10
    clear o10 b10
    go_wp2_with fail
    refine (eq_e _ _ _ _ z0 W10 HL0.out (own_ints X4_10.out HI0.out.2.1 hb0) (own_ints X10.out HI0.out.2.1 hb0)).mono ?_
    rintro e W11 ⟨rfl, b11⟩
    clear X10
    have B11 : Below w.heap.size w W11 := bel_then b11 B10.size B10
    have sB11 := b11.size
    have HA_11 := hidden (HA_10.out.below b11 HA_10.out.lt)
    clear HA_10
    have Yw0_11 := hidden (own_bel Yw0_10.out b11)
    clear Yw0_10
    have Hw1_11 := hidden (Hw1_10.out.below b11 Hw1_10.out.lt)
    clear Hw1_10
    have X4_11 := hidden (own_bel X4_10.out b11)
    clear X4_10
    have Yg0_11 := hidden (own_bel Yg0_10.out b11)
    clear Yg0_10
    have Hg1_11 := hidden (Hg1_10.out.below b11 Hg1_10.out.lt)
    clear Hg1_10
    clear b11
    go_wp2_with fail
    refine (mark_e (k := 1) _ z0 W11 X4_11.out hb0 (by omega) _ (by simp)).mono ?_
    rintro e W12 ⟨rfl, o12, gr12⟩
    have B12 : Below w.heap.size w W12 := bel_grown B11 gr12 Q4 (by omega)
    have sB12 := gr12.size
    have HA_12 := hidden (HA_11.out.grown gr12 (ranged_box Q4 (by omega)))
    clear HA_11
    have Yw0_12 := hidden (Yw0_11.out.kept gr12 (ranged_ne Qw0 Q4 (by omega)))
    clear Yw0_11
    have Hw1_12 := hidden (Hw1_11.out.grown gr12 (ranged_box Q4 (by omega)))
    clear Hw1_11
    have X4_12 := hidden o12
    clear X4_11
    have Yg0_12 := hidden (Yg0_11.out.kept gr12 (ranged_ne Qg0 Q4 (by omega)))
    clear Yg0_11
    have Hg1_12 := hidden (Hg1_11.out.grown gr12 (ranged_box Q4 (by omega)))
    clear Hg1_11
    clear o12 gr12
    clear X4_12
    go_wp2_with fail
    refine (eq_e _ _ _ _ y0 W12 HY0.out (own_ints Yg0_12.out HR0.out hm0) (own_ints Yw0_12.out HR0.out hm0)).mono ?_
    rintro e W13 ⟨rfl, b13⟩
    have B13 : Below w.heap.size w W13 := bel_then b13 B12.size B12
    have sB13 := b13.size
    have HA_13 := hidden (HA_12.out.below b13 HA_12.out.lt)
    clear HA_12
    have Yw0_13 := hidden (own_bel Yw0_12.out b13)
    clear Yw0_12
    have Hw1_13 := hidden (Hw1_12.out.below b13 Hw1_12.out.lt)
    clear Hw1_12
    have Yg0_13 := hidden (own_bel Yg0_12.out b13)
    clear Yg0_12
    have Hg1_13 := hidden (Hg1_12.out.below b13 Hg1_12.out.lt)
    clear Hg1_12
    clear b13
    have e13_Hg1a := Hg1_13.out.cell 0
    have e13_Hg1b := Hg1_13.out.cell 1
    simp at e13_Hg1a e13_Hg1b
    have e13_Hw1a := Hw1_13.out.cell 0
    have e13_Hw1b := Hw1_13.out.cell 1
    simp at e13_Hw1a e13_Hw1b
    go_wp2_with fail
    refine (eqRd_e t1 r1 W13).mono ?_
    rintro e W14 ⟨rfl, b14⟩
    clear e13_Hg1a e13_Hg1b e13_Hw1a e13_Hw1b
    have B14 : Below w.heap.size w W14 := bel_then b14 B13.size B13
    have sB14 := b14.size
    have HA_14 := hidden (HA_13.out.below b14 HA_13.out.lt)
    clear HA_13
    have Yw0_14 := hidden (own_bel Yw0_13.out b14)
    clear Yw0_13
    have Hw1_14 := hidden (Hw1_13.out.below b14 Hw1_13.out.lt)
    clear Hw1_13
    have Yg0_14 := hidden (own_bel Yg0_13.out b14)
    clear Yg0_13
    have Hg1_14 := hidden (Hg1_13.out.below b14 Hg1_13.out.lt)
    clear Hg1_13
    clear b14
    go_wp2_with fail
    refine (mark_e (k := 1) _ y0 W14 Yg0_14.out hm0 (by omega) _ (by simp)).mono ?_
    rintro e W15 ⟨rfl, o15, gr15⟩
    have B15 : Below w.heap.size w W15 := bel_grown B14 gr15 Qg0 (by omega)
    have sB15 := gr15.size
    have HA_15 := hidden (HA_14.out.grown gr15 (ranged_box Qg0 (by omega)))
    clear HA_14
    have Yw0_15 := hidden (Yw0_14.out.kept gr15 (ranged_ne Qw0 Qg0 (by omega)))
    clear Yw0_14
    have Hw1_15 := hidden (Hw1_14.out.grown gr15 (ranged_box Qg0 (by omega)))
    clear Hw1_14
    have Yg0_15 := hidden o15
    clear Yg0_14
    have Hg1_15 := hidden (Hg1_14.out.grown gr15 (ranged_box Qg0 (by omega)))
    clear Hg1_14
    clear o15 gr15
    go_wp2_with fail
    refine (held_e _ W15 Yg0_15.out hm0).mono ?_
    rintro e _ ⟨rfl, rfl⟩
    go_wp2
    have hA := HA_15.out
    have x0 := hA.cell 0
    have x1 := hA.cell 1
    simp at x0 x1
    have lA := hA.lt
    have n0a : ¬ w.heap.size = W15.heap.size := by omega
    have n0b : ¬ W15.heap.size = w.heap.size := by omega
    have bc : Below W15.heap.size W15 W15 := Below.refl _ _
    have KT := hidden (fun (W : World) (hW : Below W15.heap.size W15 W) => toInt_e a0 cap0 z0 w W HL0.out HI0.out (bel_then hW B15.size B15) hb0)
    have KD := hidden (fun (W : World) => toRd_e s1 a1 W)
    go_cut [18, 19, 20] (fun q0 q1 q2 wx => ∃ (aw0 : Option Addr) (cw0 : Nat) (gw1 : Nat), q0 = .slice aw0 m0 cw0 ∧ q1 = .pointer (some ⟨gw1, 0, none⟩) ∧ q2 = .bool r2 ∧ wx.ownsRow W15.heap.size 3 1 (.slice aw0 m0 cw0) m0 (intsV y0) ∧ Has wx gw1 37 #[.string t1, .int .i64 r1] ∧ W15.heap.size ≤ gw1 ∧ Below W15.heap.size W15 wx)
    case first =>
      go_region_held3 (fun w' => w'.cell? ⟨w.heap.size, 0, none⟩ = some (.string s1) ∧ w'.cell? ⟨w.heap.size, 1, none⟩ = some (.int .i64 a1)) (go_keep) (first | (go_at_call 26; (with_reducible refine (KT.out _ ?hW).mono ?_); (case hW => (first | exact ⟨bc.os, bc.tape, bc.output, bc.size, bc.block⟩ | exact ⟨(bc.alloc bc.size (.cells #[.string ⟨#[]⟩, .int .i64 0] 37)).os, (bc.alloc bc.size (.cells #[.string ⟨#[]⟩, .int .i64 0] 37)).tape, (bc.alloc bc.size (.cells #[.string ⟨#[]⟩, .int .i64 0] 37)).output, (bc.alloc bc.size (.cells #[.string ⟨#[]⟩, .int .i64 0] 37)).size, (bc.alloc bc.size (.cells #[.string ⟨#[]⟩, .int .i64 0] 37)).block⟩)); rintro e xa ⟨ga, rfl, oa, ba⟩; have yxa := ba.size; (try simp at yxa); (first | (have hG := (ba.block _ hG.lt).trans hG) | (have hG := (ba.block _ (Has.fresh W15 37 #[.string ⟨#[]⟩, .int .i64 0]).lt).trans (Has.fresh W15 37 #[.string ⟨#[]⟩, .int .i64 0])) | skip); (try (replace hG : Has xa _ _ _ := hG; have hq0 := hG.cell 0; have hq1 := hG.cell 1; have hr0 := hG.free 0; have hr1 := hG.free 1; simp at hq0 hq1; have hGl := hG.lt)); (first | (replace hA : Has xa _ _ _ := (ba.block _ hA.lt).trans hA) | (replace hA : Has xa _ _ _ := (ba.block _ (hA.alloc (.cells #[.string ⟨#[]⟩, .int .i64 0] 37)).lt).trans (hA.alloc (.cells #[.string ⟨#[]⟩, .int .i64 0] 37)))); (first | (replace bc : Below W15.heap.size W15 xa := bel_then ba bc.size ⟨bc.os, bc.tape, bc.output, bc.size, bc.block⟩) | (replace bc : Below W15.heap.size W15 xa := bel_then ba (bc.alloc bc.size (.cells #[.string ⟨#[]⟩, .int .i64 0] 37)).size ⟨(bc.alloc bc.size (.cells #[.string ⟨#[]⟩, .int .i64 0] 37)).os, (bc.alloc bc.size (.cells #[.string ⟨#[]⟩, .int .i64 0] 37)).tape, (bc.alloc bc.size (.cells #[.string ⟨#[]⟩, .int .i64 0] 37)).output, (bc.alloc bc.size (.cells #[.string ⟨#[]⟩, .int .i64 0] 37)).size, (bc.alloc bc.size (.cells #[.string ⟨#[]⟩, .int .i64 0] 37)).block⟩)); have x0 := hA.cell 0; have x1 := hA.cell 1; simp at x0 x1; have lA := hA.lt; have nxa1 : ¬ w.heap.size = xa.heap.size := (by omega); have nxa2 : ¬ xa.heap.size = w.heap.size := (by omega)) | (go_at_call 36; (with_reducible refine (KD.out _).mono ?_); rintro e xb ⟨rfl, bb⟩; (first | (replace oa := own_blk oa (fun i hi => bb.block i hi)) | (replace oa := own_blk (oa.alloc (.cells #[.string ⟨#[]⟩, .int .i64 0] 37)) (fun i hi => bb.block i hi))); have yxb := bb.size; (try simp at yxb); (first | (have hG := (bb.block _ hG.lt).trans hG) | (have hG := (bb.block _ (Has.fresh xa 37 #[.string ⟨#[]⟩, .int .i64 0]).lt).trans (Has.fresh xa 37 #[.string ⟨#[]⟩, .int .i64 0])) | skip); (try (replace hG : Has xb _ _ _ := hG; have hq0 := hG.cell 0; have hq1 := hG.cell 1; have hr0 := hG.free 0; have hr1 := hG.free 1; simp at hq0 hq1; have hGl := hG.lt)); (first | (replace hA : Has xb _ _ _ := (bb.block _ hA.lt).trans hA) | (replace hA : Has xb _ _ _ := (bb.block _ (hA.alloc (.cells #[.string ⟨#[]⟩, .int .i64 0] 37)).lt).trans (hA.alloc (.cells #[.string ⟨#[]⟩, .int .i64 0] 37)))); (first | (replace bc : Below W15.heap.size W15 xb := bel_then bb bc.size ⟨bc.os, bc.tape, bc.output, bc.size, bc.block⟩) | (replace bc : Below W15.heap.size W15 xb := bel_then bb (bc.alloc bc.size (.cells #[.string ⟨#[]⟩, .int .i64 0] 37)).size ⟨(bc.alloc bc.size (.cells #[.string ⟨#[]⟩, .int .i64 0] 37)).os, (bc.alloc bc.size (.cells #[.string ⟨#[]⟩, .int .i64 0] 37)).tape, (bc.alloc bc.size (.cells #[.string ⟨#[]⟩, .int .i64 0] 37)).output, (bc.alloc bc.size (.cells #[.string ⟨#[]⟩, .int .i64 0] 37)).size, (bc.alloc bc.size (.cells #[.string ⟨#[]⟩, .int .i64 0] 37)).block⟩)); have x0 := hA.cell 0; have x1 := hA.cell 1; simp at x0 x1; have lA := hA.lt; have nxb1 : ¬ w.heap.size = xb.heap.size := (by omega); have nxb2 : ¬ xb.heap.size = w.heap.size := (by omega)) | (go_at_call 20; (with_reducible refine (KI.out _ _ _ ?hI).mono ?_); (case hI => first | exact own_ints oa HI0.out.2.1 hb0 | exact own_ints (oa.alloc (.cells #[.string ⟨#[]⟩, .int .i64 0] 37)) HI0.out.2.1 hb0); rintro e xc ⟨vv0, rfl, oo0, bf⟩; obtain ⟨aw0, cw0, rfl⟩ := own_form oo0; have yxc := bf.size; (try simp at yxc); (first | (have hG := (bf.block _ hG.lt).trans hG) | (have hG := (bf.block _ (Has.fresh xb 37 #[.string ⟨#[]⟩, .int .i64 0]).lt).trans (Has.fresh xb 37 #[.string ⟨#[]⟩, .int .i64 0])) | skip); (try (replace hG : Has xc _ _ _ := hG; have hq0 := hG.cell 0; have hq1 := hG.cell 1; have hr0 := hG.free 0; have hr1 := hG.free 1; simp at hq0 hq1; have hGl := hG.lt)); (first | (replace hA : Has xc _ _ _ := (bf.block _ hA.lt).trans hA) | (replace hA : Has xc _ _ _ := (bf.block _ (hA.alloc (.cells #[.string ⟨#[]⟩, .int .i64 0] 37)).lt).trans (hA.alloc (.cells #[.string ⟨#[]⟩, .int .i64 0] 37)))); (first | (replace bc : Below W15.heap.size W15 xc := bel_then bf bc.size ⟨bc.os, bc.tape, bc.output, bc.size, bc.block⟩) | (replace bc : Below W15.heap.size W15 xc := bel_then bf (bc.alloc bc.size (.cells #[.string ⟨#[]⟩, .int .i64 0] 37)).size ⟨(bc.alloc bc.size (.cells #[.string ⟨#[]⟩, .int .i64 0] 37)).os, (bc.alloc bc.size (.cells #[.string ⟨#[]⟩, .int .i64 0] 37)).tape, (bc.alloc bc.size (.cells #[.string ⟨#[]⟩, .int .i64 0] 37)).output, (bc.alloc bc.size (.cells #[.string ⟨#[]⟩, .int .i64 0] 37)).size, (bc.alloc bc.size (.cells #[.string ⟨#[]⟩, .int .i64 0] 37)).block⟩)); have x0 := hA.cell 0; have x1 := hA.cell 1; simp at x0 x1; have lA := hA.lt; have nxc1 : ¬ w.heap.size = xc.heap.size := (by omega); have nxc2 : ¬ xc.heap.size = w.heap.size := (by omega)))
      all_goals
        go_wp2
        go_meet
        first
        | exact ⟨_, _, _, rfl, rfl, rfl, Joins.ownsRow_le (oo0.alloc _) (by (try simp); (try omega)), Has.fresh _ _ _, (by (try simp); (try omega)), bc.alloc bc.size _⟩
        | exact ⟨_, _, _, rfl, rfl, rfl, Joins.ownsRow_le (own_away (own_away oo0 (p := ⟨_, 0, none⟩) (by (try simp); (try omega)) _) (p := ⟨_, 1, none⟩) (by (try simp); (try omega)) _) (by (try simp); (try omega)), (by simpa using (hG.store 0 (.string t1)).store 1 (.int .i64 r1)), (by (try simp); (try omega)), (bc.setCell (p := ⟨_, 0, none⟩) (by (try simp); (try omega)) _).setCell (p := ⟨_, 1, none⟩) (by (try simp); (try omega)) _⟩
    case rest =>
      obtain ⟨ah0, ch0, gh1, rfl, rfl, rfl, o0_16, h1_16, l1_16, b16⟩ := hcut
      obtain ⟨W16, hW16⟩ : ∃ W, W = wc := ⟨_, rfl⟩
      rw [← hW16] at o0_16 h1_16 b16 ⊢
      clear hW16 hA x0 x1 lA n0a n0b bc KT KD
      have B16 : Below w.heap.size w W16 := bel_then b16 B15.size B15
      have sB16 := b16.size
      have HA_16 := hidden (HA_15.out.below b16 HA_15.out.lt)
      clear HA_15
      have Yw0_16 := hidden (own_bel Yw0_15.out b16)
      clear Yw0_15
      have Hw1_16 := hidden (Hw1_15.out.below b16 Hw1_15.out.lt)
      clear Hw1_15
      have Yg0_16 := hidden (own_bel Yg0_15.out b16)
      clear Yg0_15
      have Hg1_16 := hidden (Hg1_15.out.below b16 Hg1_15.out.lt)
      clear Hg1_15
      have Yh0 := hidden o0_16
      have Qh0 := own_ranged o0_16
      clear o0_16
      have Hh1 := hidden h1_16
      have ltHh1 := h1_16.lt
      clear h1_16
      clear b16
      go_wp2_with fail
      refine (eq_e _ _ _ _ y0 W16 HY0.out (own_ints Yh0.out HR0.out hm0) (own_ints Yw0_16.out HR0.out hm0)).mono ?_
      rintro e W17 ⟨rfl, b17⟩
      have B17 : Below w.heap.size w W17 := bel_then b17 B16.size B16
      have sB17 := b17.size
      have HA_17 := hidden (HA_16.out.below b17 HA_16.out.lt)
      clear HA_16
      have Yw0_17 := hidden (own_bel Yw0_16.out b17)
      clear Yw0_16
      have Hw1_17 := hidden (Hw1_16.out.below b17 Hw1_16.out.lt)
      clear Hw1_16
      have Yg0_17 := hidden (own_bel Yg0_16.out b17)
      clear Yg0_16
      have Hg1_17 := hidden (Hg1_16.out.below b17 Hg1_16.out.lt)
      clear Hg1_16
      have Yh0_17 := hidden (own_bel Yh0.out b17)
      clear Yh0
      have Hh1_17 := hidden (Hh1.out.below b17 Hh1.out.lt)
      clear Hh1
      clear b17
      have e17_Hh1a := Hh1_17.out.cell 0
      have e17_Hh1b := Hh1_17.out.cell 1
      simp at e17_Hh1a e17_Hh1b
      have e17_Hw1a := Hw1_17.out.cell 0
      have e17_Hw1b := Hw1_17.out.cell 1
      simp at e17_Hw1a e17_Hw1b
      go_wp2_with fail
      refine (eqRd_e t1 r1 W17).mono ?_
      rintro e W18 ⟨rfl, b18⟩
      clear e17_Hh1a e17_Hh1b e17_Hw1a e17_Hw1b
      have B18 : Below w.heap.size w W18 := bel_then b18 B17.size B17
      have sB18 := b18.size
      have HA_18 := hidden (HA_17.out.below b18 HA_17.out.lt)
      clear HA_17
      have Yw0_18 := hidden (own_bel Yw0_17.out b18)
      clear Yw0_17
      have Hw1_18 := hidden (Hw1_17.out.below b18 Hw1_17.out.lt)
      clear Hw1_17
      have Yg0_18 := hidden (own_bel Yg0_17.out b18)
      clear Yg0_17
      have Hg1_18 := hidden (Hg1_17.out.below b18 Hg1_17.out.lt)
      clear Hg1_17
      have Yh0_18 := hidden (own_bel Yh0_17.out b18)
      clear Yh0_17
      have Hh1_18 := hidden (Hh1_17.out.below b18 Hh1_17.out.lt)
      clear Hh1_17
      clear b18
      go_wp2_with fail
      refine (held_e _ W18 Yg0_18.out hm0).mono ?_
      rintro e _ ⟨rfl, rfl⟩
      go_wp2
      go_ret
      exact ⟨rfl, B18⟩
set_option maxRecDepth 100000 in
theorem walk_FnExactGetSyms (hM : MeetsGetSyms) (w : World) (a0 : Option Addr) (len0 cap0 : Nat) (z0 : List Int) (w0 : IsRow .i64 w a0 len0 cap0 z0) (s1 : ByteArray) (a1 : Int) (w1 : s1.size ≤ maxLen) (b1 : -9223372036854775808 ≤ a1) (d1 : a1 ≤ 9223372036854775807) (a2 : Int) (b2 : -9223372036854775808 ≤ a2) (d2 : a2 ≤ 9223372036854775807) :
    Calls Try.prog 11 #[.slice a0 len0 cap0, .agg #[.string s1, .int .i64 a1], .int .i64 a2] w fun e w' => e = .returned (.bool true) ∧ Below w.heap.size w w' := by
  have hl0 := isrow_lenE w0
  by_cases hb0 : len0 ≤ 1048576
  rotate_left
  · have hx : (1048576 : Int) < (len0 : Int) := by omega
    clear hM
    go_enter Try.func11, Try.ntmps11
    go_wp2
    go_ret
    first | exact ⟨rfl, Below.refl _ _⟩ | exact ⟨rfl, (Below.refl _ _).alloc (Nat.le_refl _) _⟩
  by_cases hb1 : s1.size ≤ 1048576
  rotate_left
  · have hx : 1048576 < s1.size := by omega
    have hx0 : ¬ (1048576 : Int) < (len0 : Int) := by omega
    have c0 := (Has.fresh w 47 #[.string s1, .int .i64 a1]).cell 0
    have c1 := (Has.fresh w 47 #[.string s1, .int .i64 a1]).cell 1
    simp at c0 c1
    clear hM
    go_enter Try.func11, Try.ntmps11
    go_wp2_with fail
    refine (szRd_no s1 a1 1048576 _ hx w1 (Nat.le_refl _)).mono ?_
    rintro e w1 ⟨rfl, b1⟩
    go_wp2
    go_ret
    exact ⟨rfl, bel_then b1 (by simp) ((Below.refl _ _).alloc (Nat.le_refl _) _)⟩
  obtain ⟨y0', hl0', hI0⟩ := Ints.ofRowE w0 hb0
  obtain ⟨y0, t1, r1, r2, ⟨hm0, hr0⟩, hs, hi⟩ := hM y0' s1 a1 a2 (by rw [hl0']; exact hb0) hI0.2.1 hb1 b1 d1 b2 d2
  rw [hl0'] at hs hi
  exact in_FnExactGetSyms w a0 len0 cap0 y0' (hidden hI0) (hidden hl0') hb0 s1 a1 hb1 b1 d1 a2 b2 d2 y0 t1 r1 r2 _ (hidden rfl) hm0 (hidden hr0) (hidden hs) (hidden hi)
end Go.Proofs.Ytdfbpmkdmpdobaa
namespace Go.Proofs.Ytdfbpmkdmpdobaa
set_option linter.unusedVariables false
set_option linter.unusedSimpArgs false
open Go.RowKit

def AskOrder : Prop := ∀ (a : Option Addr) (cap B : Nat) (ls : List Int) (w : World), Ints w B a ls → B ≤ w.heap.size →
  Calls Try.prog 27 #[.slice a ls.length cap] w fun e w' => ∃ v, e = .returned v ∧ w'.ownsRow w.heap.size 3 1 v (ordL ls).length (natsL (ordL ls)) ∧ Below w.heap.size w w'
def AskCodes : Prop := ∀ (a : Option Addr) (cap B : Nat) (ls : List Int) (w : World), Ints w B a ls → B ≤ w.heap.size →
  Calls Try.prog 13 #[.slice a ls.length cap] w fun e w' => ∃ v, e = .returned v ∧ w'.ownsRow w.heap.size 3 1 v (cdL ls).length (natsL (cdL ls)) ∧ Below w.heap.size w w'
def AskPut : Prop := ∀ (a a2 : Option Addr) (cap cap2 B : Nat) (ls ss : List Int) (w : World), Ints w B a ls → Ints w B a2 ss → B ≤ w.heap.size → putOk ls ss = true →
  Calls Try.prog 17 #[.slice a ls.length cap, .slice a2 ss.length cap2] w fun e w' => ∃ D, Packs D (putL ls ss ss.length) ∧ e = .returned (.tuple #[.agg #[.string (strOf D), .int .i64 (lenSum ls ss ss.length)], .bool true]) ∧ Below w.heap.size w w'
def AskPutNo : Prop := ∀ (a a2 : Option Addr) (cap cap2 B : Nat) (ls ss : List Int) (w : World), Ints w B a ls → Ints w B a2 ss → B ≤ w.heap.size → putOk ls ss = false →
  Calls Try.prog 17 #[.slice a ls.length cap, .slice a2 ss.length cap2] w fun e w' => e = .returned (.tuple #[.agg #[.string ⟨#[]⟩, .int .i64 0], .bool false]) ∧ Below w.heap.size w w'
def AskSymBits : Prop := ∀ (a a2 : Option Addr) (cap cap2 B : Nat) (ls ss : List Int) (w : World), Ints w B a ls → Ints w B a2 ss → B ≤ w.heap.size →
  Calls Try.prog 19 #[.slice a ls.length cap, .slice a2 ss.length cap2] w fun e w' => e = .returned (.int .i64 (symBitsI ls ss)) ∧ Below w.heap.size w w'
def AskGetSym : Prop := ∀ (a : Option Addr) (cap B at0 n0 i0 : Nat) (ls : List Int) (s : ByteArray) (w : World), Ints w B a ls → B ≤ w.heap.size → lOk ls = true → s.size ≤ 1048576 → at0 ≤ 8 * s.size → hit ls s at0 n0 i0 →
  Calls Try.prog 24 #[.slice a ls.length cap, .agg #[.string s, .int .i64 at0]] w fun e w' => e = .returned (.tuple #[.int .i64 i0, .agg #[.string s, .int .i64 ((at0 + n0 : Nat) : Int)], .bool true]) ∧ Below w.heap.size w w'
def AskGetSymNo : Prop := ∀ (a : Option Addr) (cap B : Nat) (at0 : Int) (ls : List Int) (s : ByteArray) (w : World), Ints w B a ls → B ≤ w.heap.size → s.size ≤ 1048576 → -9223372036854775808 ≤ at0 → at0 ≤ 9223372036854775807 →
  ¬ (lOk ls = true ∧ 0 ≤ at0 ∧ at0 ≤ 8 * s.size ∧ ∃ n i, hit ls s at0.toNat n i) →
  Calls Try.prog 24 #[.slice a ls.length cap, .agg #[.string s, .int .i64 at0]] w fun e w' => e = .returned (.tuple #[.int .i64 (-1), .agg #[.string ⟨#[]⟩, .int .i64 0], .bool false]) ∧ Below w.heap.size w w'
def AskGetSyms : Prop := ∀ (a : Option Addr) (cap B at0 n c0 : Nat) (ls : List Int) (xs : List Nat) (s : ByteArray) (w : World), Ints w B a ls → B ≤ w.heap.size → lOk ls = true → s.size ≤ 1048576 → at0 ≤ 8 * s.size → n ≤ 2000 → xs.length = n → Reads ls s at0 xs c0 →
  Calls Try.prog 20 #[.slice a ls.length cap, .agg #[.string s, .int .i64 at0], .int .i64 n] w fun e w' => ∃ v, e = .returned (.tuple #[v, .agg #[.string s, .int .i64 c0], .bool true]) ∧ w'.ownsRow w.heap.size 3 1 v n (natsL xs) ∧ Below w.heap.size w w'
def AskGetSymsNo : Prop := ∀ (a : Option Addr) (cap B : Nat) (at0 n : Int) (ls : List Int) (s : ByteArray) (w : World), Ints w B a ls → B ≤ w.heap.size → s.size ≤ 1048576 → -9223372036854775808 ≤ at0 → at0 ≤ 9223372036854775807 → -9223372036854775808 ≤ n → n ≤ 9223372036854775807 →
  ¬ (lOk ls = true ∧ 0 ≤ at0 ∧ at0 ≤ 8 * s.size ∧ 0 ≤ n ∧ n ≤ 2000 ∧ ∃ xs c, xs.length = n.toNat ∧ Reads ls s at0.toNat xs c) →
  Calls Try.prog 20 #[.slice a ls.length cap, .agg #[.string s, .int .i64 at0], .int .i64 n] w fun e w' => ∃ v, e = .returned (.tuple #[v, .agg #[.string ⟨#[]⟩, .int .i64 0], .bool false]) ∧ w'.ownsRow w.heap.size 3 1 v 0 [] ∧ Below w.heap.size w w'

def ofN (D : List Nat) : List Int := D.map fun (x : Nat) => (x : Int)
theorem ofN_len (D : List Nat) : (ofN D).length = D.length := by simp [ofN]
theorem ofN_cells (D : List Nat) : intsV (ofN D) = natsL D := by simp [ofN, intsV, natsL]
theorem ofN_range (D : List Nat) (b : Nat) (hb : b ≤ 4611686018427387904) (h : ∀ x ∈ D, x ≤ b) : ∀ x ∈ ofN D, -9223372036854775808 ≤ x ∧ x ≤ 9223372036854775807 := by
  intro x hx
  simp only [ofN, List.mem_map] at hx
  obtain ⟨y, hy, rfl⟩ := hx
  have := h y hy
  omega
theorem ordL_bound (ls : List Int) : (ordL ls).length ≤ 260 ∧ ∀ x ∈ ordL ls, x ≤ 260 := by
  unfold ordL
  by_cases h : lOk ls = true
  · rw [if_pos h]
    have hr := lOk_range h
    exact ⟨by rw [ordF_len hr]; exact hr.2.1, fun x hx => by have := ordF_mem x hx; have := hr.2.1; omega⟩
  · rw [if_neg h]; exact ⟨Nat.zero_le _, fun x hx => by simp at hx⟩
theorem cdL_bound (ls : List Int) : (cdL ls).length ≤ 260 ∧ ∀ x ∈ cdL ls, x ≤ 1048576 := by
  by_cases h : lOk ls = true
  · have hr := lOk_range h
    refine ⟨by rw [cdL_len h]; exact hr.2.1, fun x hx => ?_⟩
    unfold cdL at hx; rw [if_pos h] at hx
    simp only [List.mem_map, List.mem_range] at hx
    obtain ⟨s, hs, rfl⟩ := hx
    exact Nat.le_of_lt (cdF_lt20 h s hs)
  · unfold cdL; rw [if_neg h]; exact ⟨Nat.zero_le _, fun x hx => by simp at hx⟩
theorem meetsOrder (hA : AskOrder) : MeetsOrder := fun z0 hl hr => by
  have hb := ordL_bound z0
  refine ⟨ofN (ordL z0), ⟨by rw [ofN_len]; omega, ofN_range _ 260 (by omega) hb.2⟩, ?_, ?_⟩
  · intro W p c h
    rw [ofN_len, ofN_cells]
    exact specOrder_any (some p) c W.heap.size z0 W h (Nat.le_refl _)
  · intro W p c h
    rw [ofN_len, ofN_cells]
    exact hA (some p) c W.heap.size z0 W h (Nat.le_refl _)
theorem meetsCodes (hA : AskCodes) : MeetsCodes := fun z0 hl hr => by
  have hb := cdL_bound z0
  refine ⟨ofN (cdL z0), ⟨by rw [ofN_len]; omega, ofN_range _ 1048576 (by omega) hb.2⟩, ?_, ?_⟩
  · intro W p c h
    rw [ofN_len, ofN_cells]
    exact specCodes_any (some p) c W.heap.size z0 W h (Nat.le_refl _)
  · intro W p c h
    rw [ofN_len, ofN_cells]
    exact hA (some p) c W.heap.size z0 W h (Nat.le_refl _)
theorem meetsSymBits (hA : AskSymBits) : MeetsSymBits := fun z0 z1 hl hr hl1 hr1 => by
  refine ⟨symBitsI z0 z1, ?_, ?_⟩
  · intro W p0 c0 p1 c1 h h1
    exact specSymBits_any (some p0) (some p1) c0 c1 W.heap.size z0 z1 W h h1
  · intro W p0 c0 p1 c1 h h1
    exact hA (some p0) (some p1) c0 c1 W.heap.size z0 z1 W h h1 (Nat.le_refl _)
theorem meetsPutSyms (hA : AskPut) (hN : AskPutNo) : MeetsPutSyms := fun z0 z1 hl hr hl1 hr1 => by
  by_cases hok : putOk z0 z1 = true
  · by_cases hex : ∃ D, Packs D (putL z0 z1 z1.length)
    · obtain ⟨D, hD⟩ := hex
      refine ⟨strOf D, (lenSum z0 z1 z1.length : Int), true, ?_, ?_⟩
      · intro W p0 c0 p1 c1 h h1
        refine (specPutSyms_yes (some p0) (some p1) c0 c1 W.heap.size z0 z1 W h h1 (Nat.le_refl _) hok).mono ?_
        rintro e w' ⟨D2, hD2, he, hb⟩
        rw [hD2.unique hD] at he
        exact ⟨he, hb⟩
      · intro W p0 c0 p1 c1 h h1
        refine (hA (some p0) (some p1) c0 c1 W.heap.size z0 z1 W h h1 (Nat.le_refl _) hok).mono ?_
        rintro e w' ⟨D2, hD2, he, hb⟩
        rw [hD2.unique hD] at he
        exact ⟨he, hb⟩
    · refine ⟨⟨#[]⟩, 0, true, ?_, ?_⟩
      · intro W p0 c0 p1 c1 h h1
        refine (specPutSyms_yes (some p0) (some p1) c0 c1 W.heap.size z0 z1 W h h1 (Nat.le_refl _) hok).mono ?_
        rintro e w' ⟨D2, hD2, he, hb⟩
        exact absurd ⟨D2, hD2⟩ hex
      · intro W p0 c0 p1 c1 h h1
        refine (hA (some p0) (some p1) c0 c1 W.heap.size z0 z1 W h h1 (Nat.le_refl _) hok).mono ?_
        rintro e w' ⟨D2, hD2, he, hb⟩
        exact absurd ⟨D2, hD2⟩ hex
  · have hno : putOk z0 z1 = false := by simpa using hok
    refine ⟨⟨#[]⟩, 0, false, ?_, ?_⟩
    · intro W p0 c0 p1 c1 h h1
      exact specPutSyms_no (some p0) (some p1) c0 c1 W.heap.size z0 z1 W h h1 (Nat.le_refl _) hno
    · intro W p0 c0 p1 c1 h h1
      exact hN (some p0) (some p1) c0 c1 W.heap.size z0 z1 W h h1 (Nat.le_refl _) hno
theorem meetsGetSym (hA : AskGetSym) (hN : AskGetSymNo) : MeetsGetSym := fun z0 s1 a1 hl hr hs b1 b2 => by
  by_cases h : lOk z0 = true ∧ 0 ≤ a1 ∧ a1 ≤ 8 * s1.size ∧ ∃ n i, hit z0 s1 a1.toNat n i
  · obtain ⟨hok, h0, h1, n, i, hh⟩ := h
    obtain ⟨q, rfl⟩ : ∃ q : Nat, a1 = q := ⟨a1.toNat, by omega⟩
    rw [Int.toNat_natCast] at hh
    refine ⟨(i : Int), s1, ((q + n : Nat) : Int), true, ?_, ?_⟩
    · intro W p c hI
      exact specGetSym_yes (some p) c W.heap.size q n i z0 s1 W hI (Nat.le_refl _) hok hs (by omega) hh
    · intro W p c hI
      exact hA (some p) c W.heap.size q n i z0 s1 W hI (Nat.le_refl _) hok hs (by omega) hh
  · refine ⟨-1, ⟨#[]⟩, 0, false, ?_, ?_⟩
    · intro W p c hI
      exact specGetSym_no (some p) c W.heap.size a1 z0 s1 W hI (Nat.le_refl _) hs b1 b2 h
    · intro W p c hI
      exact hN (some p) c W.heap.size a1 z0 s1 W hI (Nat.le_refl _) hs b1 b2 h
theorem meetsGetSyms (hA : AskGetSyms) (hN : AskGetSymsNo) : MeetsGetSyms := fun z0 s1 a1 a2 hl hr hs b1 b2 b3 b4 => by
  by_cases h : lOk z0 = true ∧ 0 ≤ a1 ∧ a1 ≤ 8 * s1.size ∧ 0 ≤ a2 ∧ a2 ≤ 2000 ∧ ∃ xs c, xs.length = a2.toNat ∧ Reads z0 s1 a1.toNat xs c
  · obtain ⟨hok, h0, h1, h2, h3, xs, c0, hx, hrd⟩ := h
    obtain ⟨q, rfl⟩ : ∃ q : Nat, a1 = q := ⟨a1.toNat, by omega⟩
    obtain ⟨m, rfl⟩ : ∃ q : Nat, a2 = q := ⟨a2.toNat, by omega⟩
    rw [Int.toNat_natCast] at hx hrd
    have hlr := lOk_range hok
    refine ⟨ofN xs, s1, (c0 : Int), true, ⟨by rw [ofN_len]; omega, ofN_range _ 260 (by omega) (fun x hx => by have := hrd.mem x hx; have := hlr.2.1; omega)⟩, ?_, ?_⟩
    · intro W p c hI
      rw [ofN_len, ofN_cells, hx]
      exact specGetSyms_yes (some p) c W.heap.size q m c0 z0 xs s1 W hI (Nat.le_refl _) hok hs (by omega) (by omega) hx hrd
    · intro W p c hI
      rw [ofN_len, ofN_cells, hx]
      exact hA (some p) c W.heap.size q m c0 z0 xs s1 W hI (Nat.le_refl _) hok hs (by omega) (by omega) hx hrd
  · refine ⟨[], ⟨#[]⟩, 0, false, ⟨by simp, by simp⟩, ?_, ?_⟩
    · intro W p c hI
      refine (specGetSyms_no (some p) c W.heap.size a1 a2 z0 s1 W hI (Nat.le_refl _) hs b1 b2 b3 b4 h).mono ?_
      rintro e w' ⟨rfl, hb⟩
      exact ⟨_, rfl, World.ownsRow_nil _ _ _ _, hb⟩
    · intro W p c hI
      exact hN (some p) c W.heap.size a1 a2 z0 s1 W hI (Nat.le_refl _) hs b1 b2 b3 b4 h
end Go.Proofs.Ytdfbpmkdmpdobaa
namespace Go.Proofs.Ytdfbpmkdmpdobaa
set_option linter.unusedVariables false
set_option linter.unusedSimpArgs false
open Go.RowKit

theorem codes221 : cdL [2, 2, 1] = [2, 3, 0] := by decide +kernel
theorem order221 : ordL [2, 2, 1] = [2, 0, 1] := by decide +kernel
theorem bits221 : symBitsI [2, 2, 1] [0, 2] = 3 := by decide +kernel
theorem litN (w : World) (x y z : Nat) (h : x ≤ 10 ∧ y ≤ 10 ∧ z ≤ 10) : Ints (w.alloc (.cells #[.int .i64 x, .int .i64 y, .int .i64 z] 3)) (w.heap.size + 1) (some ⟨w.heap.size, 0, none⟩) [(x : Int), y, z] := Ints.lit w [(x : Int), y, z] (by simp) (by simp; omega)
theorem lit02 (w : World) : Ints (w.alloc (.cells #[.int .i64 0, .int .i64 2] 3)) (w.heap.size + 1) (some ⟨w.heap.size, 0, none⟩) [0, 2] := Ints.lit w [0, 2] (by decide) (by decide)
theorem lit02At {w : World} {b B : Nat} (h : w.heap.size = b) (hB : b + 1 ≤ B) : Ints (w.alloc (.cells #[.int .i64 0, .int .i64 2] 3)) B (some ⟨b, 0, none⟩) [0, 2] := by subst h; exact (lit02 w).mono hB
theorem size_alloc4 (w : World) (o : Obj) : (w.alloc o).heap.size = w.heap.size + 1 := by simp
theorem same3 (a a2 : Addr) (c c2 B : Nat) (x y z : Int) (w : World) (h : Ints w B (some a) [x, y, z]) (h2 : Ints w B (some a2) [x, y, z]) :
    Calls Try.prog 21 #[.slice (some a) 3 c, .slice (some a2) 3 c2] w fun e w' => e = .returned (.bool true) ∧ Below w.heap.size w w' := by
  have := sameInts_any (some a) (some a2) c c2 B [x, y, z] [x, y, z] w h h2
  rw [decide_eq_true rfl] at this
  exact this
theorem bits3 (hS : AskSymBits) (a a2 : Addr) (c c2 B : Nat) (w : World) (h : Ints w B (some a) [2, 2, 1]) (h2 : Ints w B (some a2) [0, 2]) (hB : B ≤ w.heap.size) :
    Calls Try.prog 19 #[.slice (some a) 3 c, .slice (some a2) 2 c2] w fun e w' => e = .returned (.int .i64 3) ∧ Below w.heap.size w w' := by
  have := hS (some a) (some a2) c c2 B [2, 2, 1] [0, 2] w h h2 hB
  rw [bits221] at this
  exact this
set_option maxHeartbeats 2000000 in
set_option maxRecDepth 100000 in
theorem codes_any (hC : AskCodes) (hO : AskOrder) (hS : AskSymBits) (w : World) : Calls Try.prog 15 #[] w fun e w' => e = .returned (.bool true) ∧ Below w.heap.size w w' := by
  have lit221 := fun (W : World) => litN W 2 2 1 (by decide)
  have HL := hidden lit221
  have KC : Hid (∀ W : World, Calls Try.prog 13 #[.slice (some ⟨W.heap.size, 0, none⟩) 3 3] (W.alloc (.cells #[.int .i64 2, .int .i64 2, .int .i64 1] 3)) fun e w' => ∃ v, e = .returned v ∧ w'.ownsRow (W.heap.size + 1) 3 1 v 3 (intsV [2, 3, 0]) ∧ Below (W.heap.size + 1) (W.alloc (.cells #[.int .i64 2, .int .i64 2, .int .i64 1] 3)) w') := hidden (fun W => by
    have := hC (some ⟨W.heap.size, 0, none⟩) 3 (W.heap.size + 1) [2, 2, 1] _ (lit221 W) (by rw [size_alloc4]; omega)
    rw [codes221, size_alloc4] at this
    exact this)
  have KO : Hid (∀ W : World, Calls Try.prog 27 #[.slice (some ⟨W.heap.size, 0, none⟩) 3 3] (W.alloc (.cells #[.int .i64 2, .int .i64 2, .int .i64 1] 3)) fun e w' => ∃ v, e = .returned v ∧ w'.ownsRow (W.heap.size + 1) 3 1 v 3 (intsV [2, 0, 1]) ∧ Below (W.heap.size + 1) (W.alloc (.cells #[.int .i64 2, .int .i64 2, .int .i64 1] 3)) w') := hidden (fun W => by
    have := hO (some ⟨W.heap.size, 0, none⟩) 3 (W.heap.size + 1) [2, 2, 1] _ (lit221 W) (by rw [size_alloc4]; omega)
    rw [order221, size_alloc4] at this
    exact this)
  have KB := hidden (bits3 hS)
  clear hC hO hS lit221
  go_enter Try.func15, Try.ntmps15
  go_wp2_with fail
  refine (KC.out _).mono ?_
  rintro e w1 ⟨v, rfl, hown, hb⟩
  obtain ⟨gv, cv, rfl⟩ := Joins.ownsRow_form hown (by decide)
  have hI := hidden (Ints.ofOwn hown (by decide) (by decide)).2
  have h1 := hb.size
  simp at h1
  have bw : Below w.heap.size w w1 := ((Below.refl w.heap.size w).alloc (Nat.le_refl _) _).trans (hb.mono (by omega))
  clear hown KC hb
  go_wp2_with fail
  refine (same3 _ _ _ _ (w1.heap.size + 1) 2 3 0 _ ?_ ?_).mono ?_
  · exact (hI.out.below ((Below.refl _ _).alloc (Nat.le_refl _) _)).mono (by omega)
  · exact litN _ 2 3 0 (by decide)
  rintro e w2 ⟨rfl, b2⟩
  have h2 := b2.size
  simp at h2
  have bw2 : Below w.heap.size w w2 := bel_then b2 (by simp; omega) (bw.alloc bw.size _)
  clear b2 bw hI
  go_wp2_with fail
  refine (KO.out _).mono ?_
  rintro e w3 ⟨v, rfl, hown, hb⟩
  obtain ⟨gv, cv, rfl⟩ := Joins.ownsRow_form hown (by decide)
  have hI := hidden (Ints.ofOwn hown (by decide) (by decide)).2
  have h3 := hb.size
  simp at h3
  have bw3 : Below w.heap.size w w3 := (bw2.alloc bw2.size _).trans (hb.mono (by omega))
  clear hown KO hb bw2
  go_wp2_with fail
  refine (same3 _ _ _ _ (w3.heap.size + 1) 2 0 1 _ ?_ ?_).mono ?_
  · exact (hI.out.below ((Below.refl _ _).alloc (Nat.le_refl _) _)).mono (by omega)
  · exact litN _ 2 0 1 (by decide)
  rintro e w4 ⟨rfl, b4⟩
  have h4 := b4.size
  simp at h4
  have bw4 : Below w.heap.size w w4 := bel_then b4 (by simp; omega) (bw3.alloc bw3.size _)
  clear b4 bw3 hI
  go_wp2_with fail
  refine (KB.out _ _ _ _ (w4.heap.size + 2) _ ?_ ?_ ?_).mono ?_
  · exact ((HL.out w4).below ((Below.refl (w4.heap.size + 1) _).alloc (by simp) _)).mono (by omega)
  · exact lit02At (by simp) (by first | omega | (simp; done))
  · simp
  rintro e w5 ⟨rfl, b5⟩
  have h5 := b5.size
  simp at h5
  have bw5 : Below w.heap.size w w5 := bel_then b5 (by simp; omega) ((bw4.alloc bw4.size _).alloc (by simp; have := bw4.size; omega) _)
  clear b5 bw4
  go_wp2
  go_ret
  exact ⟨rfl, bw5⟩
end Go.Proofs.Ytdfbpmkdmpdobaa
namespace Go.Proofs.Ytdfbpmkdmpdobaa
set_option linter.unusedVariables false
set_option linter.unusedSimpArgs false
open Go.RowKit

set_option maxHeartbeats 1000000 in
set_option maxRecDepth 100000 in
theorem rowOk_any (a : Option Addr) (cap B n : Nat) (ss : List Int) (w : World) (hz : Ints w B a ss) (hn : n ≤ 140737488355328) :
    Calls Try.prog 47 #[.slice a ss.length cap, .int .i64 n] w fun e w' => e = .returned (.bool (symsB n ss)) ∧ w' = w := by
  have hl := hz.1
  by_cases h2 : 2000 < ss.length
  · have HF : Hid (symsB n ss = false) := hidden (by rw [Bool.eq_false_iff, Ne, symsB_iff]; omega)
    obtain ⟨m, hm⟩ : ∃ m, ss.length = m := ⟨_, rfl⟩
    rw [hm] at h2 hl ⊢
    clear hz hm
    go_enter Try.func47, Try.ntmps47
    go_wp2
    go_ret
    exact ⟨ret_bool HF.out.symm, rfl⟩
  · obtain ⟨m, hm⟩ : ∃ m, ss.length = m := ⟨_, rfl⟩
    have HM := hidden hm
    have HZ := hidden hz
    rw [hm] at h2 hl ⊢
    clear hz hm
    go_enter Try.func47, Try.ntmps47
    go_wp2
    go_loop [12] (fun si => ∃ k : Nat, k ≤ m ∧ si = .int .i64 k ∧ Hid (∀ j, j < k → 0 ≤ ss.getD j 0 ∧ ss.getD j 0 < (n : Int))) (fun si => m - (intOf si).toNat)
    case atStart => exact ⟨0, by omega, rfl, hidden fun j hj => by omega⟩
    case round =>
      obtain ⟨k, hk, rfl, H⟩ := hrel
      by_cases hlt : k < m
      · obtain ⟨b, off, rfl, hb, hc⟩ := HZ.out.2.2 (by rw [HM.out]; omega)
        have ck := hc k (by rw [HM.out]; exact hlt)
        obtain ⟨x, hx⟩ : ∃ x, ss.getD k 0 = x := ⟨_, rfl⟩
        rw [hx] at ck
        have HX := hidden hx
        clear hx hc
        by_cases c1 : x < 0
        · have HF : Hid (symsB n ss = false) := hidden (by rw [Bool.eq_false_iff, Ne, symsB_iff]; intro g; have := g.2 k (by rw [HM.out]; exact hlt); rw [HX.out] at this; omega)
          go_wp2
          go_ret
          exact ⟨ret_bool HF.out.symm, rfl⟩
        · by_cases c2 : (n : Int) ≤ x
          · have HF : Hid (symsB n ss = false) := hidden (by rw [Bool.eq_false_iff, Ne, symsB_iff]; intro g; have := g.2 k (by rw [HM.out]; exact hlt); rw [HX.out] at this; omega)
            go_wp2
            go_ret
            exact ⟨ret_bool HF.out.symm, rfl⟩
          · go_wp2
            go_round
            case rel => exact ⟨k + 1, by omega, by go_num, hidden fun j hj => by
              rcases Nat.lt_or_ge j k with g | g
              · exact H.out j g
              · obtain rfl : j = k := by omega
                rw [HX.out]; omega⟩
            case measure => simp [intOf]; omega
      · have HF : Hid (symsB n ss = true) := hidden (by rw [symsB_iff, HM.out]; exact ⟨by omega, fun j hj => H.out j (by omega)⟩)
        go_wp2
        go_ret
        exact ⟨ret_bool HF.out.symm, rfl⟩
set_option maxHeartbeats 2000000 in
set_option maxRecDepth 100000 in
theorem implSymBits_any (a a2 : Option Addr) (cap cap2 B : Nat) (ls ss : List Int) (w : World) (hz : Ints w B a ls) (hz2 : Ints w B a2 ss) :
    Calls Try.prog 19 #[.slice a ls.length cap, .slice a2 ss.length cap2] w fun e w' => e = .returned (.int .i64 (symBitsI ls ss)) ∧ Below w.heap.size w w' := by
  have K1 := hidden (implLensOk_any a cap B ls w hz)
  have K2 := hidden (fun (h : ls.length ≤ 140737488355328) => rowOk_any a2 cap2 B ls.length ss w hz2 h)
  obtain ⟨o1, ho1⟩ : ∃ o, lOk ls = o := ⟨_, rfl⟩
  obtain ⟨o2, ho2⟩ : ∃ o, symsB ls.length ss = o := ⟨_, rfl⟩
  have HP : Hid (putOk ls ss = (o1 && o2)) := hidden (by unfold putOk; rw [ho1, ho2])
  rw [ho1] at K1
  rw [ho2] at K2
  have hl := hz.1
  have hl2 := hz2.1
  cases o1
  · have HF : Hid (symBitsI ls ss = -1) := hidden (by unfold symBitsI; rw [HP.out]; rfl)
    clear hz hz2 ho1 ho2
    go_enter Try.func19, Try.ntmps19
    go_wp2_with fail
    refine K1.out.mono ?_
    rintro e w' ⟨rfl, rfl⟩
    go_wp2
    go_ret
    exact ⟨ret_int HF.out.symm, Below.refl _ _⟩
  · cases o2
    · have HF : Hid (symBitsI ls ss = -1) := hidden (by unfold symBitsI; rw [HP.out]; rfl)
      clear hz hz2 ho1 ho2
      go_enter Try.func19, Try.ntmps19
      go_wp2_with fail
      refine K1.out.mono ?_
      rintro e w' ⟨rfl, rfl⟩
      go_wp2_with fail
      refine (K2.out hl).mono ?_
      rintro e w' ⟨rfl, rfl⟩
      go_wp2
      go_ret
      exact ⟨ret_int HF.out.symm, Below.refl _ _⟩
    · have HF : Hid (symBitsI ls ss = (lenSum ls ss ss.length : Int)) := hidden (by unfold symBitsI; rw [HP.out]; rfl)
      have hr := lOk_range ho1
      have hs := (symsB_iff _ _).1 ho2
      have HLN : Hid (∀ s, s < ls.length → ls.getD s 0 = (lnF ls s : Int) ∧ lnF ls s ≤ 20) := hidden (fun s hs => ⟨lnF_int hr s hs, (lRange_ln hr s hs).2⟩)
      have HSUM : Hid (∀ k, k ≤ ss.length → lenSum ls ss k ≤ 20 * k) := hidden (fun k hk => lenSum_le hr hs.2 k hk)
      obtain ⟨n, hn⟩ : ∃ n, ls.length = n := ⟨_, rfl⟩
      obtain ⟨m, hm⟩ : ∃ m, ss.length = m := ⟨_, rfl⟩
      have hm2 : m ≤ 2000 := by rw [← hm]; exact hs.1
      have HS := hidden hs.2
      have HZ2 := hidden hz2
      obtain ⟨b, off, rfl, hb, hc⟩ := hz.2.2 hr.1
      have HC := hidden hc
      have HM := hidden hm
      rw [hn] at K1 K2 HLN HS HC hl ⊢
      rw [hm] at K2 HF HSUM HS hl2 ⊢
      clear hz hz2 ho1 ho2 hr hs hc hn hm
      go_enter Try.func19, Try.ntmps19
      go_wp2_with fail
      refine K1.out.mono ?_
      rintro e w' ⟨rfl, rfl⟩
      go_wp2_with fail
      refine (K2.out hl).mono ?_
      rintro e w' ⟨rfl, rfl⟩
      go_wp2
      go_loop [5, 7, 20] (fun sv _ si => ∃ k q : Nat, k ≤ m ∧ si = .int .i64 k ∧ sv = .int .i64 q ∧ Hid (q = lenSum ls ss k) ∧ q ≤ 20 * k) (fun _ _ si => m - (intOf si).toNat)
      case atStart => exact ⟨0, 0, by omega, rfl, rfl, hidden rfl, by omega⟩
      case round =>
        obtain ⟨k, q, hk, rfl, rfl, HQ, hq⟩ := hrel
        by_cases hlt : k < m
        · obtain ⟨b2, off2, rfl, hb2, hc2⟩ := HZ2.out.2.2 (by rw [HM.out]; omega)
          have ck := hc2 k (by rw [HM.out]; exact hlt)
          have hx := HS.out k hlt
          obtain ⟨x, hxe⟩ : ∃ x : Nat, ss.getD k 0 = x := ⟨(ss.getD k 0).toNat, by omega⟩
          rw [hxe] at ck hx
          have hxn : x < n := by omega
          have cl := HC.out x hxn
          have hln := HLN.out x hxn
          rw [hln.1] at cl
          obtain ⟨y, hy⟩ : ∃ y, lnF ls x = y := ⟨_, rfl⟩
          rw [hy] at cl hln
          have HQ2 : Hid (q + y = lenSum ls ss (k + 1)) := hidden (by
            show _ = lenSum ls ss k + lnF ls (ss.getD k 0).toNat
            rw [HQ.out, hxe, Int.toNat_natCast, hy])
          clear hxe hy hc2 hx
          go_wp2
          go_round
          case rel => exact ⟨k + 1, q + y, by omega, by go_num, by go_num, HQ2, by omega⟩
          case measure => simp [intOf]; omega
        · have e : k = m := by omega
          subst e
          go_wp2
          go_ret
          exact ⟨ret_int (by rw [HF.out, HQ.out]), Below.refl _ _⟩
end Go.Proofs.Ytdfbpmkdmpdobaa
namespace Go.Proofs.Ytdfbpmkdmpdobaa
set_option linter.unusedVariables false
set_option linter.unusedSimpArgs false
open Go.RowKit

theorem Writes.drewN {w : World} {base g : Nat} {l : List Nat} (h : Writes w base g l) (n : Nat) : Writes (w.drewN n) base g l := h
set_option maxHeartbeats 4000000 in
set_option maxRecDepth 100000 in
theorem implPutSyms_yes (a a2 : Option Addr) (cap cap2 B : Nat) (ls ss : List Int) (w : World) (hz : Ints w B a ls) (hz2 : Ints w B a2 ss) (hB : B ≤ w.heap.size) (hok : putOk ls ss = true) :
    Calls Try.prog 17 #[.slice a ls.length cap, .slice a2 ss.length cap2] w fun e w' => ∃ D, Packs D (putL ls ss ss.length) ∧ e = .returned (.tuple #[.agg #[.string (strOf D), .int .i64 (lenSum ls ss ss.length)], .bool true]) ∧ Below w.heap.size w w' := by
  obtain ⟨hok1, hok2⟩ := (putOk_iff ls ss).1 hok
  have hr := lOk_range hok1
  have hs := (symsB_iff _ _).1 hok2
  have HI := hidden hz
  have HI2 := hidden hz2
  have hl := hz.1
  have bb : Below w.heap.size w (w.alloc (.cells #[.string ⟨#[]⟩, .int .i64 0] 32)) := (Below.refl _ _).alloc (Nat.le_refl _) _
  have hR := Has.fresh w 32 #[.string ⟨#[]⟩, .int .i64 0]
  have K1 := hidden (fun W h => implLensOk_any a cap B ls W h)
  have K2 := hidden (fun W h => rowOk_any a2 cap2 B ls.length ss W h hl)
  have K3 := hidden (fun W h h2 => codesOf_any a cap B ls W h h2 hok1)
  have K4 := hidden (fun (W : World) => writerOf_any ⟨#[]⟩ 0 W (by decide))
  have HLN : Hid (∀ s, s < ls.length → ls.getD s 0 = (lnF ls s : Int) ∧ 1 ≤ lnF ls s ∧ lnF ls s ≤ 20) := hidden (fun s hs => ⟨lnF_int hr s hs, lRange_ln hr s hs⟩)
  have HLT := hidden (fun s hs => cdF_lt hok1 s hs)
  have HLE : Hid (∀ k, k ≤ ss.length → (putL ls ss k).length ≤ 20 * k) := hidden (fun k hk => by rw [putL_len]; exact lenSum_le hr hs.2 k hk)
  have HLS := hidden (putL_len ls ss ss.length)
  have HS := hidden hs.2
  have hm2 := hs.1
  obtain ⟨b, off, rfl, hb, hc⟩ := hz.2.2 hr.1
  have HC := hidden hc
  have HN1 := hidden hr.1
  have hn260 := hr.2.1
  obtain ⟨n, hn⟩ : ∃ n, ls.length = n := ⟨_, rfl⟩
  obtain ⟨m, hm⟩ : ∃ m, ss.length = m := ⟨_, rfl⟩
  rw [hok1] at K1
  rw [hok2] at K2
  rw [hn] at K1 K2 K3 HLN HLT HC HS HN1 hl hn260 ⊢
  have HM := hidden hm
  rw [hm] at K2 HLE HLS HS hm2 ⊢
  have hbw : b < w.heap.size := by omega
  clear hz hz2 hok hok1 hok2 hr hs hn hm hc
  go_enter Try.func17, Try.ntmps17
  go_wp2_with fail
  refine (K1.out _ (HI.out.below (bb.mono hB))).mono ?_
  rintro e w1 ⟨rfl, hw1⟩
  rw [← hw1] at hR bb
  clear hw1
  go_wp2_with fail
  refine (K2.out _ (HI2.out.below (bb.mono hB))).mono ?_
  rintro e w2 ⟨rfl, hw2⟩
  rw [← hw2] at hR bb
  clear hw2
  have hs2 := bb.size
  go_wp2_with fail
  refine (K3.out _ (HI.out.below (bb.mono hB)) (Nat.le_trans hB hs2)).mono ?_
  rintro e w3 ⟨v, rfl, hown, b3⟩
  obtain ⟨gc, cc, hv⟩ := Joins.ownsRow_form hown (by have := HN1.out; omega)
  subst hv
  have hgc := hown.lt gc rfl
  replace bb := bel_then b3 hs2 bb
  replace hR := hR.below b3 hR.lt
  have hs3 := bb.size
  clear b3
  go_wp2_with fail
  refine (K4.out _).mono ?_
  rintro e w4 ⟨g, rfl, hW4, hg4, b4⟩
  have hown4 := own_bel hown b4
  replace bb := bel_then b4 hs3 bb
  replace hR := hR.below b4 hR.lt
  have hs4 := bb.size
  have hs34 := b4.size
  have hgl4 := hW4.lt
  have hRl := hR.lt
  have hR3 : w.heap.size < w3.heap.size := by have := hR.lt; omega
  rw [show row ⟨#[]⟩ 0 0 = putL ls ss 0 from rfl] at hW4
  obtain ⟨base, hbase⟩ : ∃ base, w3.heap.size = base := ⟨_, rfl⟩
  rw [hbase] at hW4 hg4 hs34 hgc
  have HR := hidden hR
  have HO := hidden hown4
  have HBB := hidden bb
  clear hown4 hown hR bb b4 hs3
  have hwb : w.heap.size ≤ base := by omega
  go_wp2
  go_loopw [9, 27] (fun _ si wr => ∃ k : Nat, k ≤ m ∧ si = .int .i64 k ∧ Writes wr base g (putL ls ss k) ∧ Below base w4 wr) (fun _ si _ => m - (intOf si).toNat)
  case atStart => exact ⟨0, by omega, rfl, hW4, Below.refl _ _⟩
  case round =>
    obtain ⟨k, hk, rfl, hW, hbl⟩ := hrel
    have hsz := hbl.size
    have hbw4 : Below w.heap.size w wr := HBB.out.trans (hbl.mono hwb)
    by_cases hlt : k < m
    · obtain ⟨b2, off2, rfl, hb2, hc2⟩ := (HI2.out.below (hbw4.mono hB)).2.2 (by rw [HM.out]; omega)
      have ck := hc2 k (by rw [HM.out]; exact hlt)
      have hx := HS.out k hlt
      have HP1 := hidden (putL_succ ls ss k)
      have hle1 := HLE.out k (by omega)
      obtain ⟨x, hxe⟩ : ∃ x : Nat, ss.getD k 0 = x := ⟨(ss.getD k 0).toNat, by omega⟩
      rw [hxe] at ck hx
      rw [hxe, Int.toNat_natCast] at HP1
      have hxn : x < n := by omega
      have cl := (hbw4.cell (p := ⟨b, off + x, none⟩) hbw).trans (HC.out x hxn)
      have hln := HLN.out x hxn
      rw [hln.1] at cl
      have cc0 := (hbl.cell (p := ⟨gc, x, none⟩) hgc.2).trans (HO.out.cellAt x (by omega))
      rw [nats_get _ _ x hxn] at cc0
      have hlt2 := HLT.out x hxn
      unfold symBits1 at HP1
      obtain ⟨y, hy⟩ : ∃ y, lnF ls x = y := ⟨_, rfl⟩
      obtain ⟨c, hcy⟩ : ∃ c, cdF ls x = c := ⟨_, rfl⟩
      rw [hy] at cl hln hlt2 HP1
      rw [hcy] at cc0 hlt2 HP1
      have hyr := hln.2
      have HK := hidden (fun (W : World) (h : Writes W base g (putL ls ss k)) (h2 : base ≤ W.heap.size) => put_any g base (putL ls ss k) c y W h hg4 h2 (by omega) hlt2 (by omega))
      rw [← HP1.out] at HK
      have m1 : (x : Int) < (n : Int) := by omega
      have m2 : (0 : Int) ≤ (x : Int) := by omega
      have m3 : (k : Int) < (m : Int) := by omega
      have m4 : (0 : Int) ≤ (k : Int) := by omega
      have q2 : b < base := by omega
      have q3 : gc < base := hgc.2
      clear hc2 hxe hx hy hcy hln hlt2 hW4
      go_wp2
      go_region_held3 (fun w' => w'.cell? ⟨b, off + x, none⟩ = some (.int .i64 (y : Int)) ∧ w'.cell? ⟨gc, x, none⟩ = some (.int .i64 (c : Int))) (go_keep) (first | (go_at_call 49; (with_reducible refine (HK.out _ ?hW ?hb).mono ?_); (case hW => exact hW); (case hb => exact (by omega : base ≤ wr.heap.size)); rintro e wp ⟨rfl, hWp, Bp, Kp⟩; have g1 := (Bp.cell (p := ⟨b, off + x, none⟩) q2).trans cl; have g2 := (Bp.cell (p := ⟨gc, x, none⟩) q3).trans cc0))
      all_goals
        have bN : Below base w4 wp := hbl.drew.trans Bp
        clear g1 g2 Bp Kp
        go_wp2
        exact ⟨⟨k + 1, by omega, by go_num, hWp, bN⟩, by simp [intOf]; omega⟩
    · have hkm : k = m := by omega
      subst hkm
      have K5 := hidden (bits_any g base _ wr hW)
      rw [HLS.out] at K5
      have hR := HR.out.below hbl (by omega)
      have hbw5 := hbw4
      clear hW hbw4
      go_wp2_with fail
      refine K5.out.mono ?_
      rintro e w5 ⟨D, hD, rfl, b5⟩
      have bb := bel_then b5 (by have := hbw5.size; omega) hbw5
      replace hR := hR.below b5 hR.lt
      have e0 := hR.cell 0
      have e1 := hR.cell 1
      have g0 := hR.free 0
      have g1 := hR.free 1
      simp at e0 e1
      have hs5 := bb.size
      clear b5 hR hbw5 hbl
      go_wp2
      refine bodyPost_ret (v := .tuple #[.agg #[.string (strOf D), .int .i64 (lenSum ls ss k)], .bool true]) (by simp [results, Try.results17, go_sem, e0, e1, g0, g1]) rfl ⟨D, hD, rfl, ?_⟩
      repeat (first | exact Below.refl _ _ | assumption | refine Below.alloc ?_ (by (try simp); (try omega)) _ | refine Below.setCell ?_ (by (try simp); (try omega)) _ | refine Below.drew ?_ | refine bel_then (by assumption) (by (try simp); (try omega)) ?_)
set_option maxHeartbeats 2000000 in
set_option maxRecDepth 100000 in
theorem implPutSyms_no (a a2 : Option Addr) (cap cap2 B : Nat) (ls ss : List Int) (w : World) (hz : Ints w B a ls) (hz2 : Ints w B a2 ss) (hB : B ≤ w.heap.size) (hok : putOk ls ss = false) :
    Calls Try.prog 17 #[.slice a ls.length cap, .slice a2 ss.length cap2] w fun e w' => e = .returned (.tuple #[.agg #[.string ⟨#[]⟩, .int .i64 0], .bool false]) ∧ Below w.heap.size w w' := by
  have HI := hidden hz
  have HI2 := hidden hz2
  have hl := hz.1
  have bb : Below w.heap.size w (w.alloc (.cells #[.string ⟨#[]⟩, .int .i64 0] 32)) := (Below.refl _ _).alloc (Nat.le_refl _) _
  have hR := Has.fresh w 32 #[.string ⟨#[]⟩, .int .i64 0]
  have K1 := hidden (fun W h => implLensOk_any a cap B ls W h)
  have K2 := hidden (fun W h => rowOk_any a2 cap2 B ls.length ss W h hl)
  obtain ⟨o1, ho1⟩ : ∃ o, lOk ls = o := ⟨_, rfl⟩
  obtain ⟨o2, ho2⟩ : ∃ o, symsB ls.length ss = o := ⟨_, rfl⟩
  unfold putOk at hok
  rw [ho1, ho2] at hok
  rw [ho1] at K1
  rw [ho2] at K2
  obtain ⟨n, hn⟩ : ∃ n, ls.length = n := ⟨_, rfl⟩
  obtain ⟨m, hm⟩ : ∃ m, ss.length = m := ⟨_, rfl⟩
  rw [hn] at K1 K2 hl ⊢
  rw [hm] at K2 ⊢
  clear hz hz2 ho1 ho2 hn hm
  cases o1
  · clear hok
    go_enter Try.func17, Try.ntmps17
    go_wp2_with fail
    refine (K1.out _ (HI.out.below (bb.mono hB))).mono ?_
    rintro e w1 ⟨rfl, hw1⟩
    rw [← hw1] at hR bb
    clear hw1
    have e0 := hR.cell 0
    have e1 := hR.cell 1
    have g0 := hR.free 0
    have g1 := hR.free 1
    simp at e0 e1
    have hs1 := bb.size
    clear hR
    go_wp2
    refine bodyPost_ret (v := .tuple #[.agg #[.string ⟨#[]⟩, .int .i64 0], .bool false]) (by simp [results, Try.results17, go_sem, e0, e1, g0, g1]) rfl ⟨rfl, ?_⟩
    repeat (first | exact Below.refl _ _ | assumption | refine Below.alloc ?_ (by (try simp); (try omega)) _ | refine Below.setCell ?_ (by (try simp); (try omega)) _ | refine Below.drew ?_ | refine bel_then (by assumption) (by (try simp); (try omega)) ?_)
  · cases o2
    · clear hok
      go_enter Try.func17, Try.ntmps17
      go_wp2_with fail
      refine (K1.out _ (HI.out.below (bb.mono hB))).mono ?_
      rintro e w1 ⟨rfl, hw1⟩
      rw [← hw1] at hR bb
      clear hw1
      go_wp2_with fail
      refine (K2.out _ (HI2.out.below (bb.mono hB))).mono ?_
      rintro e w2 ⟨rfl, hw2⟩
      rw [← hw2] at hR bb
      clear hw2
      have e0 := hR.cell 0
      have e1 := hR.cell 1
      have g0 := hR.free 0
      have g1 := hR.free 1
      simp at e0 e1
      have hs1 := bb.size
      clear hR
      go_wp2
      refine bodyPost_ret (v := .tuple #[.agg #[.string ⟨#[]⟩, .int .i64 0], .bool false]) (by simp [results, Try.results17, go_sem, e0, e1, g0, g1]) rfl ⟨rfl, ?_⟩
      repeat (first | exact Below.refl _ _ | assumption | refine Below.alloc ?_ (by (try simp); (try omega)) _ | refine Below.setCell ?_ (by (try simp); (try omega)) _ | refine Below.drew ?_ | refine bel_then (by assumption) (by (try simp); (try omega)) ?_)
    · cases hok
end Go.Proofs.Ytdfbpmkdmpdobaa
namespace Go.Proofs.Ytdfbpmkdmpdobaa
set_option linter.unusedVariables false
set_option linter.unusedSimpArgs false
open Go.RowKit Go.Maps

set_option maxHeartbeats 4000000 in
set_option maxRecDepth 100000 in
theorem getSyms_no (a : Option Addr) (cap B : Nat) (at0 n : Int) (ls : List Int) (s : ByteArray) (w : World) (hz : Ints w B a ls) (hB : B ≤ w.heap.size) (hs : s.size ≤ 1048576) (b1 : -9223372036854775808 ≤ at0) (b2 : at0 ≤ 9223372036854775807) (b3 : -9223372036854775808 ≤ n) (b4 : n ≤ 9223372036854775807)
    (h : ¬ (lOk ls = true ∧ 0 ≤ at0 ∧ at0 ≤ 8 * s.size ∧ 0 ≤ n ∧ n ≤ 2000)) :
    Calls Try.prog 20 #[.slice a ls.length cap, .agg #[.string s, .int .i64 at0], .int .i64 n] w fun e w' => e = .returned (.tuple #[.slice none 0 0, .agg #[.string ⟨#[]⟩, .int .i64 0], .bool false]) ∧ Below w.heap.size w w' := by
  have K1 := hidden (fun W h => implLensOk_any a cap B ls W h)
  have HI := hidden hz
  have hR := (Has.fresh w 37 #[.string s, .int .i64 at0]).alloc (.cells #[.string ⟨#[]⟩, .int .i64 0] 37)
  have bb : Below w.heap.size w ((w.alloc (.cells #[.string s, .int .i64 at0] 37)).alloc (.cells #[.string ⟨#[]⟩, .int .i64 0] 37)) := ((Below.refl _ _).alloc (Nat.le_refl _) _).alloc (by simp) _
  have hS := Has.freshAt (w := w.alloc (.cells #[.string s, .int .i64 at0] 37)) (g := w.heap.size + 1) (by simp) 37 #[.string ⟨#[]⟩, .int .i64 0]
  by_cases h0 : n < 0
  · clear h K1 HI hz hR
    have e0 := hS.cell 0
    have e1 := hS.cell 1
    have f0 := hS.free 0
    have f1 := hS.free 1
    simp at e0 e1
    have hsb := bb.size
    clear hS
    go_enter Try.func20, Try.ntmps20
    go_wp2
    refine bodyPost_ret (v := .tuple #[.slice none 0 0, .agg #[.string ⟨#[]⟩, .int .i64 0], .bool false]) (by simp [results, Try.results20, go_sem, e0, e1, f0, f1]) rfl ⟨rfl, ?_⟩
    repeat (first | exact Below.refl _ _ | assumption | refine Below.alloc ?_ (by (try simp); (try omega)) _ | refine Below.setCell ?_ (by (try simp); (try omega)) _ | refine Below.drew ?_ | refine bel_then (by assumption) (by (try simp); (try omega)) ?_)
  · by_cases h1 : 2000 < n
    · clear h K1 HI hz hR
      have e0 := hS.cell 0
      have e1 := hS.cell 1
      have f0 := hS.free 0
      have f1 := hS.free 1
      simp at e0 e1
      have hsb := bb.size
      clear hS
      go_enter Try.func20, Try.ntmps20
      go_wp2
      refine bodyPost_ret (v := .tuple #[.slice none 0 0, .agg #[.string ⟨#[]⟩, .int .i64 0], .bool false]) (by simp [results, Try.results20, go_sem, e0, e1, f0, f1]) rfl ⟨rfl, ?_⟩
      repeat (first | exact Below.refl _ _ | assumption | refine Below.alloc ?_ (by (try simp); (try omega)) _ | refine Below.setCell ?_ (by (try simp); (try omega)) _ | refine Below.drew ?_ | refine bel_then (by assumption) (by (try simp); (try omega)) ?_)
    · obtain ⟨o1, ho1⟩ : ∃ o, lOk ls = o := ⟨_, rfl⟩
      rw [ho1] at K1
      obtain ⟨m, hm⟩ : ∃ m, ls.length = m := ⟨_, rfl⟩
      rw [hm] at K1 ⊢
      cases o1
      · clear h hz ho1 hm
        go_enter Try.func20, Try.ntmps20
        go_wp2_with fail
        refine (K1.out _ (HI.out.below (bb.mono hB))).mono ?_
        rintro e w1 ⟨rfl, hw1⟩
        rw [← hw1] at hS bb
        clear hw1 hR
        have e0 := hS.cell 0
        have e1 := hS.cell 1
        have f0 := hS.free 0
        have f1 := hS.free 1
        simp at e0 e1
        have hsb := bb.size
        clear hS
        go_wp2
        refine bodyPost_ret (v := .tuple #[.slice none 0 0, .agg #[.string ⟨#[]⟩, .int .i64 0], .bool false]) (by simp [results, Try.results20, go_sem, e0, e1, f0, f1]) rfl ⟨rfl, ?_⟩
        repeat (first | exact Below.refl _ _ | assumption | refine Below.alloc ?_ (by (try simp); (try omega)) _ | refine Below.setCell ?_ (by (try simp); (try omega)) _ | refine Below.drew ?_ | refine bel_then (by assumption) (by (try simp); (try omega)) ?_)
      · have hno : ¬ (0 ≤ at0 ∧ at0 ≤ 8 * s.size) := fun g => h ⟨ho1, g.1, g.2, by omega, by omega⟩
        have K2 := hidden (fun W => implRdOk_no s at0 W hs b1 b2 hno)
        clear h hz ho1 hm hno
        go_enter Try.func20, Try.ntmps20
        go_wp2_with fail
        refine (K1.out _ (HI.out.below (bb.mono hB))).mono ?_
        rintro e w1 ⟨rfl, hw1⟩
        rw [← hw1] at hS bb hR
        clear hw1
        have c0 := hR.cell 0
        have c1 := hR.cell 1
        simp at c0 c1
        have hs1 := bb.size
        go_wp2_with fail
        refine (K2.out _).mono ?_
        rintro e w2 ⟨rfl, b5⟩
        replace bb := bel_then b5 hs1 bb
        replace hS := hS.below b5 hS.lt
        clear b5 hR c0 c1
        have e0 := hS.cell 0
        have e1 := hS.cell 1
        have f0 := hS.free 0
        have f1 := hS.free 1
        simp at e0 e1
        have hsb := bb.size
        clear hS
        go_wp2
        refine bodyPost_ret (v := .tuple #[.slice none 0 0, .agg #[.string ⟨#[]⟩, .int .i64 0], .bool false]) (by simp [results, Try.results20, go_sem, e0, e1, f0, f1]) rfl ⟨rfl, ?_⟩
        repeat (first | exact Below.refl _ _ | assumption | refine Below.alloc ?_ (by (try simp); (try omega)) _ | refine Below.setCell ?_ (by (try simp); (try omega)) _ | refine Below.drew ?_ | refine bel_then (by assumption) (by (try simp); (try omega)) ?_)
end Go.Proofs.Ytdfbpmkdmpdobaa
namespace Go.Proofs.Ytdfbpmkdmpdobaa
set_option linter.unusedVariables false
set_option linter.unusedSimpArgs false
open Go.RowKit Go.Maps

theorem reads_one {ls : List Int} {s : ByteArray} {a c : Nat} {ys : List Nat} (h : Reads ls s a ys c) (hl : ys.length = 1) : ∃ n i, ys = [i] ∧ c = a + n ∧ hit ls s a n i := by
  cases h with
  | nil => simp at hl
  | cons _ n i xs _ hh hr =>
    cases hr with
    | nil => exact ⟨n, i, rfl, rfl, hh⟩
    | cons => simp at hl
set_option maxHeartbeats 4000000 in
set_option maxRecDepth 100000 in
theorem implGetSym_yes (a : Option Addr) (cap B at0 n0 i0 : Nat) (ls : List Int) (s : ByteArray) (w : World) (hz : Ints w B a ls) (hB : B ≤ w.heap.size) (hok : lOk ls = true) (hs : s.size ≤ 1048576) (ha : at0 ≤ 8 * s.size) (hh : hit ls s at0 n0 i0) :
    Calls Try.prog 24 #[.slice a ls.length cap, .agg #[.string s, .int .i64 at0]] w fun e w' => e = .returned (.tuple #[.int .i64 i0, .agg #[.string s, .int .i64 ((at0 + n0 : Nat) : Int)], .bool true]) ∧ Below w.heap.size w w' := by
  have hI := hidden hz
  have K1 : Hid (∀ W, Ints W B a ls → B ≤ W.heap.size → Calls Try.prog 20 #[.slice a ls.length cap, .agg #[.string s, .int .i64 at0], .int .i64 1] W (fun e w' => ∃ v, e = .returned (.tuple #[v, .agg #[.string s, .int .i64 ((at0 + n0 : Nat) : Int)], .bool true]) ∧ w'.ownsRow W.heap.size 3 1 v 1 (natsL [i0]) ∧ Below W.heap.size W w')) := hidden (fun W h h2 => by
    have h3 : Calls Try.prog 20 #[.slice a ls.length cap, .agg #[.string s, .int .i64 at0], .int .i64 1] W (SymsPost ls s at0 1 W) := getSyms_any a cap B at0 1 ls s W h h2 hok hs ha (by omega)
    refine h3.mono ?_
    rintro e w' ⟨⟨ys, c, v, hl, hrd, rfl, hown⟩ | ⟨hno, _⟩, hb⟩
    · obtain ⟨n, i, rfl, rfl, h4⟩ := reads_one hrd hl
      obtain ⟨rfl, rfl⟩ := hit_one hok h4 hh
      exact ⟨v, rfl, hown, hb⟩
    · exact absurd ⟨[i0], at0 + n0, rfl, .cons _ _ _ _ _ hh (.nil _)⟩ hno)
  have bb : Below w.heap.size w ((w.alloc (.cells #[.string s, .int .i64 at0] 37)).alloc (.cells #[.string ⟨#[]⟩, .int .i64 0] 37)) := ((Below.refl _ _).alloc (Nat.le_refl _) _).alloc (by simp) _
  have hS := Has.freshAt (w := w.alloc (.cells #[.string s, .int .i64 at0] 37)) (g := w.heap.size + 1) (by simp) 37 #[.string ⟨#[]⟩, .int .i64 0]
  obtain ⟨m, hm⟩ : ∃ m, ls.length = m := ⟨_, rfl⟩
  obtain ⟨c, hc⟩ : ∃ c, at0 + n0 = c := ⟨_, rfl⟩
  rw [hm, hc] at K1
  rw [hm, hc]
  clear hz hm hok hh hc
  go_enter Try.func24, Try.ntmps24
  go_wp2_with fail
  refine (K1.out _ (hI.out.below (bb.mono hB)) (Nat.le_trans hB bb.size)).mono ?_
  rintro e w2 ⟨v, rfl, hown, b2⟩
  replace hS := hS.below b2 (by simp)
  obtain ⟨g1, c1, hv⟩ := Joins.ownsRow_form hown (by omega)
  subst hv
  have o1 := hown.cellAt 0 (by omega)
  have hg := hown.lt g1 rfl
  simp at hg
  rw [natsL_get [i0] 0 (by simp)] at o1
  simp only [List.getElem_cons_zero] at o1
  replace bb := bel_then b2 bb.size bb
  have hSl := hS.lt
  have hsb := bb.size
  have e0 := hS.cell 0
  have e1 := hS.cell 1
  have f0 := hS.free 0
  have f1 := hS.free 1
  simp at e0 e1
  have HS := hidden hS
  clear b2 hown hS
  go_wp2
  go_region
  all_goals (try go_wp2)
  all_goals
    have hF := ((HS.out.store 0 (.string s)).store 1 (.int .i64 (c : Int))).alloc (.cells #[.string s, .int .i64 (c : Int)] 37)
    have z0 : World.cell? _ ⟨w.heap.size + 1, 0, none⟩ = some (.string s) := hF.cell 0
    have z1 : World.cell? _ ⟨w.heap.size + 1, 1, none⟩ = some (.int .i64 (c : Int)) := hF.cell 1
    refine bodyPost_ret (v := .tuple #[.int .i64 i0, .agg #[.string s, .int .i64 (c : Int)], .bool true]) (by simp [results, Try.results24, go_sem, e0, e1, f0, f1, z0, z1]) rfl ⟨rfl, ?_⟩
    repeat (first | exact Below.refl _ _ | assumption | refine Below.alloc ?_ (by (try simp); (try omega)) _ | refine Below.setCell ?_ (by (try simp); (try omega)) _ | refine Below.drew ?_ | refine bel_then (by assumption) (by (try simp); (try omega)) ?_)
set_option maxHeartbeats 4000000 in
set_option maxRecDepth 100000 in
theorem implGetSym_no (a : Option Addr) (cap B : Nat) (at0 : Int) (ls : List Int) (s : ByteArray) (w : World) (hz : Ints w B a ls) (hB : B ≤ w.heap.size) (hs : s.size ≤ 1048576) (b1 : -9223372036854775808 ≤ at0) (b2 : at0 ≤ 9223372036854775807)
    (h : ¬ (lOk ls = true ∧ 0 ≤ at0 ∧ at0 ≤ 8 * s.size ∧ ∃ n i, hit ls s at0.toNat n i)) :
    Calls Try.prog 24 #[.slice a ls.length cap, .agg #[.string s, .int .i64 at0]] w fun e w' => e = .returned (.tuple #[.int .i64 (-1), .agg #[.string ⟨#[]⟩, .int .i64 0], .bool false]) ∧ Below w.heap.size w w' := by
  have hI := hidden hz
  have K1 : Hid (∀ W, Ints W B a ls → B ≤ W.heap.size → Calls Try.prog 20 #[.slice a ls.length cap, .agg #[.string s, .int .i64 at0], .int .i64 1] W (fun e w' => e = .returned (.tuple #[.slice none 0 0, .agg #[.string ⟨#[]⟩, .int .i64 0], .bool false]) ∧ Below W.heap.size W w')) := hidden (fun W h1 h2 => by
    by_cases h3 : lOk ls = true ∧ 0 ≤ at0 ∧ at0 ≤ 8 * s.size
    · obtain ⟨hok, h4, h5⟩ := h3
      obtain ⟨q, rfl⟩ : ∃ q : Nat, at0 = q := ⟨at0.toNat, by omega⟩
      have h6 : Calls Try.prog 20 #[.slice a ls.length cap, .agg #[.string s, .int .i64 (q : Int)], .int .i64 1] W (SymsPost ls s q 1 W) := getSyms_any a cap B q 1 ls s W h1 h2 hok hs (by omega) (by omega)
      refine h6.mono ?_
      rintro e w' ⟨⟨ys, c, v, hl, hrd, rfl, hown⟩ | ⟨hno, he⟩, hb⟩
      · obtain ⟨n, i, rfl, rfl, h4⟩ := reads_one hrd hl
        exact absurd ⟨hok, by omega, by omega, n, i, by simpa using h4⟩ h
      · exact ⟨he, hb⟩
    · exact getSyms_no a cap B at0 1 ls s W h1 h2 hs b1 b2 (by omega) (by omega) (fun g => h3 ⟨g.1, g.2.1, g.2.2.1⟩))
  have bb : Below w.heap.size w ((w.alloc (.cells #[.string s, .int .i64 at0] 37)).alloc (.cells #[.string ⟨#[]⟩, .int .i64 0] 37)) := ((Below.refl _ _).alloc (Nat.le_refl _) _).alloc (by simp) _
  have hS := Has.freshAt (w := w.alloc (.cells #[.string s, .int .i64 at0] 37)) (g := w.heap.size + 1) (by simp) 37 #[.string ⟨#[]⟩, .int .i64 0]
  obtain ⟨m, hm⟩ : ∃ m, ls.length = m := ⟨_, rfl⟩
  rw [hm] at K1 ⊢
  clear hz hm h
  go_enter Try.func24, Try.ntmps24
  go_wp2_with fail
  refine (K1.out _ (hI.out.below (bb.mono hB)) (Nat.le_trans hB bb.size)).mono ?_
  rintro e w2 ⟨rfl, b5⟩
  replace hS := hS.below b5 (by simp)
  replace bb := bel_then b5 bb.size bb
  have hSl := hS.lt
  have hsb := bb.size
  have e0 := hS.cell 0
  have e1 := hS.cell 1
  have f0 := hS.free 0
  have f1 := hS.free 1
  simp at e0 e1
  have HS := hidden hS
  clear b5 hS
  go_wp2
  have hF := ((HS.out.store 0 (.string ⟨#[]⟩)).store 1 (.int .i64 0)).alloc (.cells #[.string ⟨#[]⟩, .int .i64 0] 37)
  have z0 : World.cell? _ ⟨w.heap.size + 1, 0, none⟩ = some (.string ⟨#[]⟩) := hF.cell 0
  have z1 : World.cell? _ ⟨w.heap.size + 1, 1, none⟩ = some (.int .i64 0) := hF.cell 1
  refine bodyPost_ret (v := .tuple #[.int .i64 (-1), .agg #[.string ⟨#[]⟩, .int .i64 0], .bool false]) (by simp [results, Try.results24, go_sem, e0, e1, f0, f1, z0, z1]) rfl ⟨rfl, ?_⟩
  repeat (first | exact Below.refl _ _ | assumption | refine Below.alloc ?_ (by (try simp); (try omega)) _ | refine Below.setCell ?_ (by (try simp); (try omega)) _ | refine Below.drew ?_ | refine bel_then (by assumption) (by (try simp); (try omega)) ?_)
end Go.Proofs.Ytdfbpmkdmpdobaa
namespace Go.Proofs.Ytdfbpmkdmpdobaa
set_option linter.unusedVariables false
set_option linter.unusedSimpArgs false
open Go.RowKit Go.Maps

theorem askLensOk4 (a : Option Addr) (cap B : Nat) (zs : List Int) (w : World) (h : Ints w B a zs) :
    Calls Try.prog 40 #[.slice a zs.length cap] w fun e w' => e = .returned (.bool (lOk zs)) ∧ w' = w := implLensOk_any a cap B zs w h
theorem askOrder : AskOrder := fun a cap B ls w hz hB => implOrder_any a cap B ls w hz hB
set_option maxHeartbeats 1000000 in
theorem askCodes : AskCodes := fun a cap B ls w hz hB => by
  have K1 := hidden (implLensOk_any a cap B ls w hz)
  by_cases h : lOk ls = true
  · have K2 := hidden (codesOf_any a cap B ls w hz hB h)
    have HE : Hid ((cdL ls).length = ls.length ∧ natsL (cdL ls) = nats ls.length (cdF ls)) := hidden ⟨cdL_len h, cdL_nats h⟩
    rw [h] at K1
    clear hz h
    go_enter Try.func13, Try.ntmps13
    go_wp2_with fail
    refine K1.out.mono ?_
    rintro e w' ⟨rfl, rfl⟩
    go_wp2_with fail
    refine K2.out.mono ?_
    rintro e w1 ⟨v, rfl, hown, hb⟩
    go_wp2
    go_ret
    rw [HE.out.1, HE.out.2]
    exact ⟨_, rfl, hown, hb⟩
  · have HE : Hid (cdL ls = []) := hidden (by unfold cdL; rw [if_neg h])
    have h2 : lOk ls = false := by simpa using h
    rw [h2] at K1
    clear hz h h2
    go_enter Try.func13, Try.ntmps13
    go_wp2_with fail
    refine K1.out.mono ?_
    rintro e w' ⟨rfl, rfl⟩
    go_wp2
    go_ret
    rw [HE.out]
    exact ⟨_, rfl, World.ownsRow_nil _ _ _ _, Below.refl _ _⟩
theorem askPut : AskPut := fun a a2 cap cap2 B ls ss w h h2 hB hok => implPutSyms_yes a a2 cap cap2 B ls ss w h h2 hB hok
theorem askPutNo : AskPutNo := fun a a2 cap cap2 B ls ss w h h2 hB hok => implPutSyms_no a a2 cap cap2 B ls ss w h h2 hB hok
theorem askSymBits : AskSymBits := fun a a2 cap cap2 B ls ss w h h2 hB => implSymBits_any a a2 cap cap2 B ls ss w h h2
theorem askGetSym : AskGetSym := fun a cap B at0 n0 i0 ls s w hz hB hok hs ha hh => implGetSym_yes a cap B at0 n0 i0 ls s w hz hB hok hs ha hh
theorem askGetSymNo : AskGetSymNo := fun a cap B at0 ls s w hz hB hs b1 b2 h => implGetSym_no a cap B at0 ls s w hz hB hs b1 b2 h
theorem askGetSyms : AskGetSyms := fun a cap B at0 n c0 ls xs s w hz hB hok hs ha hn hx hr => by
  refine (getSyms_any a cap B at0 n ls s w hz hB hok hs ha hn).mono ?_
  rintro e w' ⟨⟨ys, c, v, hl, hrd, rfl, hown⟩ | ⟨hno, _⟩, hb⟩
  · obtain ⟨rfl, rfl⟩ := Reads.one hok hrd hr (by omega)
    exact ⟨v, rfl, hown, hb⟩
  · exact absurd ⟨xs, c0, hx, hr⟩ hno
theorem askGetSymsNo : AskGetSymsNo := fun a cap B at0 n ls s w hz hB hs b1 b2 b3 b4 h => by
  by_cases h3 : lOk ls = true ∧ 0 ≤ at0 ∧ at0 ≤ 8 * s.size ∧ 0 ≤ n ∧ n ≤ 2000
  · obtain ⟨hok, h4, h5, h6, h7⟩ := h3
    obtain ⟨q, rfl⟩ : ∃ q : Nat, at0 = q := ⟨at0.toNat, by omega⟩
    obtain ⟨m, rfl⟩ : ∃ m : Nat, n = m := ⟨n.toNat, by omega⟩
    refine (getSyms_any a cap B q m ls s w hz hB hok hs (by omega) (by omega)).mono ?_
    rintro e w' ⟨⟨ys, c, v, hl, hrd, rfl, hown⟩ | ⟨hno, he⟩, hb⟩
    · exact absurd ⟨hok, by omega, by omega, by omega, by omega, ys, c, by simpa using hl, by simpa using hrd⟩ h
    · exact ⟨_, he, World.ownsRow_nil _ _ _ _, hb⟩
  · refine (getSyms_no a cap B at0 n ls s w hz hB hs b1 b2 b3 b4 h3).mono ?_
    rintro e w' ⟨rfl, hb⟩
    exact ⟨_, rfl, World.ownsRow_nil _ _ _ _, hb⟩
end Go.Proofs.Ytdfbpmkdmpdobaa
