/- The walk of the exact law of GetSym (what is asked: MeetsF). -/
import Derived.Test.YtdfbpmkdmpdobaaExA
import Derived.Test.YtdfbpmkdmpdobaaC4W
namespace Go.Proofs.Ytdfbpmkdmpdobaa
set_option linter.unusedVariables false
set_option linter.unusedSimpArgs false
open Go.RowKit Go.ChangeShapes Go.WideShapes Go.ChangeAt

/-- For all arguments in bounds the model and the program answer the same. -/
def MeetsGetSym : Prop := ∀ (z0 : List Int) (s1 : ByteArray) (a1 : Int), z0.length ≤ 1048576 → (∀ x ∈ z0, -9223372036854775808 ≤ x ∧ x ≤ 9223372036854775807) → s1.size ≤ 1048576 → -9223372036854775808 ≤ a1 → a1 ≤ 9223372036854775807 → ∃ (r0 : Int) (t1 : ByteArray) (r1 : Int) (r2 : Bool), (∀ (W : World) (p0 : Addr) (c0 : Nat), Ints W W.heap.size (some p0) z0 → Calls Try.prog 35 #[.slice (some p0) z0.length c0, .agg #[.string s1, .int .i64 a1]] W fun e w' => e = .returned (.tuple #[.int .i64 r0, .agg #[.string t1, .int .i64 r1], .bool r2]) ∧ Below W.heap.size W w') ∧ (∀ (W : World) (p0 : Addr) (c0 : Nat), Ints W W.heap.size (some p0) z0 → Calls Try.prog 24 #[.slice (some p0) z0.length c0, .agg #[.string s1, .int .i64 a1]] W fun e w' => e = .returned (.tuple #[.int .i64 r0, .agg #[.string t1, .int .i64 r1], .bool r2]) ∧ Below W.heap.size W w')
attribute [local go_sem ↓] Go.wp_at_zero Go.wp_at_succ
set_option maxHeartbeats 4000000 in
set_option maxRecDepth 100000 in
theorem in_FnExactGetSym (w : World) (a0 : Option Addr) (len0 cap0 : Nat) (z0 : List Int) (HI0 : Hid (Ints w w.heap.size a0 z0)) (HL0 : Hid (z0.length = len0)) (hb0 : len0 ≤ 1048576) (s1 : ByteArray) (a1 : Int) (hb1 : s1.size ≤ 1048576) (b1 : -9223372036854775808 ≤ a1) (d1 : a1 ≤ 9223372036854775807) (r0 : Int) (t1 : ByteArray) (r1 : Int) (r2 : Bool)
    (KS : Hid (∀ (W : World) (p0 : Addr) (c0 : Nat), Ints W W.heap.size (some p0) z0 → Calls Try.prog 35 #[.slice (some p0) len0 c0, .agg #[.string s1, .int .i64 a1]] W fun e w' => e = .returned (.tuple #[.int .i64 r0, .agg #[.string t1, .int .i64 r1], .bool r2]) ∧ Below W.heap.size W w'))
    (KI : Hid (∀ (W : World) (p0 : Addr) (c0 : Nat), Ints W W.heap.size (some p0) z0 → Calls Try.prog 24 #[.slice (some p0) len0 c0, .agg #[.string s1, .int .i64 a1]] W fun e w' => e = .returned (.tuple #[.int .i64 r0, .agg #[.string t1, .int .i64 r1], .bool r2]) ∧ Below W.heap.size W w')) :
    Calls Try.prog 10 #[.slice a0 len0 cap0, .agg #[.string s1, .int .i64 a1]] w fun e w' => e = .returned (.bool true) ∧ Below w.heap.size w w' := by
  have hg0 : ¬ (1048576 : Int) < (len0 : Int) := by omega
  have hk0 : ¬ (1 : Int) + (len0 : Int) < 0 := by omega
  go_enter Try.func10, Try.ntmps10
  obtain ⟨N1, hN1⟩ : ∃ N, N = (w.alloc (.cells #[.string s1, .int .i64 a1] 47)) := ⟨_, rfl⟩
  have hb1_ : Below w.heap.size w N1 := by rw [hN1]; exact (Below.refl _ _).alloc (Nat.le_refl _) _
  have HA : Hid (Has N1 w.heap.size 47 #[.string s1, .int .i64 a1]) := hidden (by rw [hN1]; exact Has.fresh _ _ _)
  have lHA := HA.out.lt
  go_wp2_with fail
  rw [← hN1]
  refine (szRd_ok s1 a1 1048576 N1 hb1 (Nat.le_refl _)).mono ?_
  rintro e W2 ⟨rfl, b2⟩
  clear hN1
  have B2 : Below w.heap.size w W2 := bel_then b2 hb1_.size hb1_
  have sB2 := b2.size
  have HA_2 := hidden (HA.out.below b2 HA.out.lt)
  clear HA
  clear b2
  go_wp2
  have hA := HA_2.out
  have x0 := hA.cell 0
  have x1 := hA.cell 1
  simp at x0 x1
  have lA := hA.lt
  have n0a : ¬ w.heap.size = W2.heap.size := by omega
  have n0b : ¬ W2.heap.size = w.heap.size := by omega
  have bc : Below W2.heap.size W2 W2 := Below.refl _ _
  have KT := hidden (fun (W : World) (hW : Below W2.heap.size W2 W) => toInt_e a0 cap0 z0 w W HL0.out HI0.out (bel_then hW B2.size B2) hb0)
  have KD := hidden (fun (W : World) => toRd_e s1 a1 W)
  go_cut [6, 7, 8] (fun q0 q1 q2 wx => ∃ (gw1 : Nat), q0 = .int .i64 r0 ∧ q1 = .pointer (some ⟨gw1, 0, none⟩) ∧ q2 = .bool r2 ∧ Has wx gw1 37 #[.string t1, .int .i64 r1] ∧ W2.heap.size ≤ gw1 ∧ Below W2.heap.size W2 wx)
  case first =>
    go_region_held3 (fun w' => w'.cell? ⟨w.heap.size, 0, none⟩ = some (.string s1) ∧ w'.cell? ⟨w.heap.size, 1, none⟩ = some (.int .i64 a1)) (go_keep) (first | (go_at_call 26; (with_reducible refine (KT.out _ ?hW).mono ?_); (case hW => (first | exact ⟨bc.os, bc.tape, bc.output, bc.size, bc.block⟩ | exact ⟨(bc.alloc bc.size (.cells #[.string ⟨#[]⟩, .int .i64 0] 37)).os, (bc.alloc bc.size (.cells #[.string ⟨#[]⟩, .int .i64 0] 37)).tape, (bc.alloc bc.size (.cells #[.string ⟨#[]⟩, .int .i64 0] 37)).output, (bc.alloc bc.size (.cells #[.string ⟨#[]⟩, .int .i64 0] 37)).size, (bc.alloc bc.size (.cells #[.string ⟨#[]⟩, .int .i64 0] 37)).block⟩)); rintro e xa ⟨ga, rfl, oa, ba⟩; have yxa := ba.size; (try simp at yxa); (first | (have hG := (ba.block _ hG.lt).trans hG) | (have hG := (ba.block _ (Has.fresh W2 37 #[.string ⟨#[]⟩, .int .i64 0]).lt).trans (Has.fresh W2 37 #[.string ⟨#[]⟩, .int .i64 0])) | skip); (try (replace hG : Has xa _ _ _ := hG; have hq0 := hG.cell 0; have hq1 := hG.cell 1; have hr0 := hG.free 0; have hr1 := hG.free 1; simp at hq0 hq1; have hGl := hG.lt)); (first | (replace hA : Has xa _ _ _ := (ba.block _ hA.lt).trans hA) | (replace hA : Has xa _ _ _ := (ba.block _ (hA.alloc (.cells #[.string ⟨#[]⟩, .int .i64 0] 37)).lt).trans (hA.alloc (.cells #[.string ⟨#[]⟩, .int .i64 0] 37)))); (first | (replace bc : Below W2.heap.size W2 xa := bel_then ba bc.size ⟨bc.os, bc.tape, bc.output, bc.size, bc.block⟩) | (replace bc : Below W2.heap.size W2 xa := bel_then ba (bc.alloc bc.size (.cells #[.string ⟨#[]⟩, .int .i64 0] 37)).size ⟨(bc.alloc bc.size (.cells #[.string ⟨#[]⟩, .int .i64 0] 37)).os, (bc.alloc bc.size (.cells #[.string ⟨#[]⟩, .int .i64 0] 37)).tape, (bc.alloc bc.size (.cells #[.string ⟨#[]⟩, .int .i64 0] 37)).output, (bc.alloc bc.size (.cells #[.string ⟨#[]⟩, .int .i64 0] 37)).size, (bc.alloc bc.size (.cells #[.string ⟨#[]⟩, .int .i64 0] 37)).block⟩)); have x0 := hA.cell 0; have x1 := hA.cell 1; simp at x0 x1; have lA := hA.lt; have nxa1 : ¬ w.heap.size = xa.heap.size := (by omega); have nxa2 : ¬ xa.heap.size = w.heap.size := (by omega)) | (go_at_call 36; (with_reducible refine (KD.out _).mono ?_); rintro e xb ⟨rfl, bb⟩; (first | (replace oa := own_blk oa (fun i hi => bb.block i hi)) | (replace oa := own_blk (oa.alloc (.cells #[.string ⟨#[]⟩, .int .i64 0] 37)) (fun i hi => bb.block i hi))); have yxb := bb.size; (try simp at yxb); (first | (have hG := (bb.block _ hG.lt).trans hG) | (have hG := (bb.block _ (Has.fresh xa 37 #[.string ⟨#[]⟩, .int .i64 0]).lt).trans (Has.fresh xa 37 #[.string ⟨#[]⟩, .int .i64 0])) | skip); (try (replace hG : Has xb _ _ _ := hG; have hq0 := hG.cell 0; have hq1 := hG.cell 1; have hr0 := hG.free 0; have hr1 := hG.free 1; simp at hq0 hq1; have hGl := hG.lt)); (first | (replace hA : Has xb _ _ _ := (bb.block _ hA.lt).trans hA) | (replace hA : Has xb _ _ _ := (bb.block _ (hA.alloc (.cells #[.string ⟨#[]⟩, .int .i64 0] 37)).lt).trans (hA.alloc (.cells #[.string ⟨#[]⟩, .int .i64 0] 37)))); (first | (replace bc : Below W2.heap.size W2 xb := bel_then bb bc.size ⟨bc.os, bc.tape, bc.output, bc.size, bc.block⟩) | (replace bc : Below W2.heap.size W2 xb := bel_then bb (bc.alloc bc.size (.cells #[.string ⟨#[]⟩, .int .i64 0] 37)).size ⟨(bc.alloc bc.size (.cells #[.string ⟨#[]⟩, .int .i64 0] 37)).os, (bc.alloc bc.size (.cells #[.string ⟨#[]⟩, .int .i64 0] 37)).tape, (bc.alloc bc.size (.cells #[.string ⟨#[]⟩, .int .i64 0] 37)).output, (bc.alloc bc.size (.cells #[.string ⟨#[]⟩, .int .i64 0] 37)).size, (bc.alloc bc.size (.cells #[.string ⟨#[]⟩, .int .i64 0] 37)).block⟩)); have x0 := hA.cell 0; have x1 := hA.cell 1; simp at x0 x1; have lA := hA.lt; have nxb1 : ¬ w.heap.size = xb.heap.size := (by omega); have nxb2 : ¬ xb.heap.size = w.heap.size := (by omega)) | (go_at_call 35; (with_reducible refine (KS.out _ _ _ ?hI).mono ?_); (case hI => first | exact own_ints oa HI0.out.2.1 hb0 | exact own_ints (oa.alloc (.cells #[.string ⟨#[]⟩, .int .i64 0] 37)) HI0.out.2.1 hb0); rintro e xc ⟨rfl, bf⟩; have yxc := bf.size; (try simp at yxc); (first | (have hG := (bf.block _ hG.lt).trans hG) | (have hG := (bf.block _ (Has.fresh xb 37 #[.string ⟨#[]⟩, .int .i64 0]).lt).trans (Has.fresh xb 37 #[.string ⟨#[]⟩, .int .i64 0])) | skip); (try (replace hG : Has xc _ _ _ := hG; have hq0 := hG.cell 0; have hq1 := hG.cell 1; have hr0 := hG.free 0; have hr1 := hG.free 1; simp at hq0 hq1; have hGl := hG.lt)); (first | (replace hA : Has xc _ _ _ := (bf.block _ hA.lt).trans hA) | (replace hA : Has xc _ _ _ := (bf.block _ (hA.alloc (.cells #[.string ⟨#[]⟩, .int .i64 0] 37)).lt).trans (hA.alloc (.cells #[.string ⟨#[]⟩, .int .i64 0] 37)))); (first | (replace bc : Below W2.heap.size W2 xc := bel_then bf bc.size ⟨bc.os, bc.tape, bc.output, bc.size, bc.block⟩) | (replace bc : Below W2.heap.size W2 xc := bel_then bf (bc.alloc bc.size (.cells #[.string ⟨#[]⟩, .int .i64 0] 37)).size ⟨(bc.alloc bc.size (.cells #[.string ⟨#[]⟩, .int .i64 0] 37)).os, (bc.alloc bc.size (.cells #[.string ⟨#[]⟩, .int .i64 0] 37)).tape, (bc.alloc bc.size (.cells #[.string ⟨#[]⟩, .int .i64 0] 37)).output, (bc.alloc bc.size (.cells #[.string ⟨#[]⟩, .int .i64 0] 37)).size, (bc.alloc bc.size (.cells #[.string ⟨#[]⟩, .int .i64 0] 37)).block⟩)); have x0 := hA.cell 0; have x1 := hA.cell 1; simp at x0 x1; have lA := hA.lt; have nxc1 : ¬ w.heap.size = xc.heap.size := (by omega); have nxc2 : ¬ xc.heap.size = w.heap.size := (by omega)))
    all_goals
      go_wp2
      go_meet
      first
      | exact ⟨_, rfl, rfl, rfl, Has.fresh _ _ _, (by (try simp); (try omega)), bc.alloc bc.size _⟩
      | exact ⟨_, rfl, rfl, rfl, (by simpa using (hG.store 0 (.string t1)).store 1 (.int .i64 r1)), (by (try simp); (try omega)), (bc.setCell (p := ⟨_, 0, none⟩) (by (try simp); (try omega)) _).setCell (p := ⟨_, 1, none⟩) (by (try simp); (try omega)) _⟩
  case rest =>
    obtain ⟨gw1, rfl, rfl, rfl, h1_3, l1_3, b3⟩ := hcut
    obtain ⟨W3, hW3⟩ : ∃ W, W = wc := ⟨_, rfl⟩
    rw [← hW3] at h1_3 b3 ⊢
    clear hW3 hA x0 x1 lA n0a n0b bc KT KD
    have B3 : Below w.heap.size w W3 := bel_then b3 B2.size B2
    have sB3 := b3.size
    have HA_3 := hidden (HA_2.out.below b3 HA_2.out.lt)
    clear HA_2
    have Hw1 := hidden h1_3
    have ltHw1 := h1_3.lt
    clear h1_3
    clear b3
    go_wp2_with fail
    refine (toInt_e a0 cap0 z0 w W3 HL0.out HI0.out B3 hb0).mono ?_
    rintro e W4 ⟨g4, rfl, o4, b4⟩
    have B4 : Below w.heap.size w W4 := bel_then b4 B3.size B3
    have sB4 := b4.size
    have HA_4 := hidden (HA_3.out.below b4 HA_3.out.lt)
    clear HA_3
    have Hw1_4 := hidden (Hw1.out.below b4 Hw1.out.lt)
    clear Hw1
    have X4 := hidden o4
    have Q4 := own_ranged o4
    clear o4 b4
    have e4_HAa := HA_4.out.cell 0
    have e4_HAb := HA_4.out.cell 1
    simp at e4_HAa e4_HAb
    go_wp2_with fail
    refine (toRd_e s1 a1 W4).mono ?_
    rintro e W5 ⟨rfl, b5⟩
    clear e4_HAa e4_HAb
    have B5 : Below w.heap.size w W5 := bel_then b5 B4.size B4
    have sB5 := b5.size
    have HA_5 := hidden (HA_4.out.below b5 HA_4.out.lt)
    clear HA_4
    have Hw1_5 := hidden (Hw1_4.out.below b5 Hw1_4.out.lt)
    clear Hw1_4
    have X4_5 := hidden (own_bel X4.out b5)
    clear X4
    clear b5
    go_wp2_with fail
    refine (KI.out W5 _ _ (own_ints X4_5.out HI0.out.2.1 hb0)).mono ?_
    rintro e W6 ⟨rfl, b6⟩
    have B6 : Below w.heap.size w W6 := bel_then b6 B5.size B5
    have sB6 := b6.size
    have HA_6 := hidden (HA_5.out.below b6 HA_5.out.lt)
    clear HA_5
    have Hw1_6 := hidden (Hw1_5.out.below b6 Hw1_5.out.lt)
    clear Hw1_5
    have X4_6 := hidden (own_bel X4_5.out b6)
    clear X4_5
    clear b6
    have q7_HAa := HA_6.out.cell 0
    have q7_HAb := HA_6.out.cell 1
    have q7_HAl := HA_6.out.lt
    simp at q7_HAa q7_HAb
    have q7_HAn : ¬ w.heap.size = W6.heap.size := by omega
    have q7_Hw1a := Hw1_6.out.cell 0
    have q7_Hw1b := Hw1_6.out.cell 1
    have q7_Hw1l := Hw1_6.out.lt
    simp at q7_Hw1a q7_Hw1b
    have q7_Hw1n : ¬ gw1 = W6.heap.size := by omega
    obtain ⟨N7, hN7⟩ : ∃ N, N = (W6.alloc (.cells #[.string t1, .int .i64 r1] 37)) := ⟨_, rfl⟩
    have hb7_ : Below W6.heap.size W6 N7 := by rw [hN7]; exact (Below.refl _ _).alloc (Nat.le_refl _) _
    have Hg1 : Hid (Has N7 W6.heap.size 37 #[.string t1, .int .i64 r1]) := hidden (by rw [hN7]; exact Has.fresh _ _ _)
    have lHg1 := Hg1.out.lt
    have B7 : Below w.heap.size w N7 := bel_then hb7_ B6.size B6
    have sB7 := hb7_.size
    have HA_7 := hidden (HA_6.out.below hb7_ HA_6.out.lt)
    clear HA_6
    have Hw1_7 := hidden (Hw1_6.out.below hb7_ Hw1_6.out.lt)
    clear Hw1_6
    have X4_7 := hidden (own_bel X4_6.out hb7_)
    clear X4_6
    clear hb7_
    have e7_Hg1a := Hg1.out.cell 0
    have e7_Hg1b := Hg1.out.cell 1
    simp at e7_Hg1a e7_Hg1b
    have e7_Hw1a := Hw1_7.out.cell 0
    have e7_Hw1b := Hw1_7.out.cell 1
    simp at e7_Hw1a e7_Hw1b
    go_wp2_with fail
    rw [← hN7]
    refine (eqRd_e t1 r1 N7).mono ?_
    rintro e W8 ⟨rfl, b8⟩
    clear e7_Hg1a e7_Hg1b e7_Hw1a e7_Hw1b hN7 q7_HAa q7_HAb q7_HAl q7_HAn q7_Hw1a q7_Hw1b q7_Hw1l q7_Hw1n
    have B8 : Below w.heap.size w W8 := bel_then b8 B7.size B7
    have sB8 := b8.size
    have HA_8 := hidden (HA_7.out.below b8 HA_7.out.lt)
    clear HA_7
    have Hw1_8 := hidden (Hw1_7.out.below b8 Hw1_7.out.lt)
    clear Hw1_7
    have X4_8 := hidden (own_bel X4_7.out b8)
    clear X4_7
    have Hg1_8 := hidden (Hg1.out.below b8 Hg1.out.lt)
    clear Hg1
    clear b8
    go_wp2_with fail
    refine (toInt_e a0 cap0 z0 w W8 HL0.out HI0.out B8 hb0).mono ?_
    rintro e W9 ⟨g9, rfl, o9, b9⟩
    have B9 : Below w.heap.size w W9 := bel_then b9 B8.size B8
    have sB9 := b9.size
    have HA_9 := hidden (HA_8.out.below b9 HA_8.out.lt)
    clear HA_8
    have Hw1_9 := hidden (Hw1_8.out.below b9 Hw1_8.out.lt)
    clear Hw1_8
    have X4_9 := hidden (own_bel X4_8.out b9)
    clear X4_8
    have Hg1_9 := hidden (Hg1_8.out.below b9 Hg1_8.out.lt)
    clear Hg1_8
    have X9 := hidden o9
    have Q9 := own_ranged o9
    clear o9 b9
    go_wp2_with fail
    refine (eq_e _ _ _ _ z0 W9 HL0.out (own_ints X4_9.out HI0.out.2.1 hb0) (own_ints X9.out HI0.out.2.1 hb0)).mono ?_
    rintro e W10 ⟨rfl, b10⟩
    clear X9
    have B10 : Below w.heap.size w W10 := bel_then b10 B9.size B9
    have sB10 := b10.size
    have HA_10 := hidden (HA_9.out.below b10 HA_9.out.lt)
    clear HA_9
    have Hw1_10 := hidden (Hw1_9.out.below b10 Hw1_9.out.lt)
    clear Hw1_9
    have X4_10 := hidden (own_bel X4_9.out b10)
    clear X4_9
    have Hg1_10 := hidden (Hg1_9.out.below b10 Hg1_9.out.lt)
    clear Hg1_9
    clear b10
    go_wp2
    go_ret
    exact ⟨rfl, B10⟩
set_option maxRecDepth 100000 in
theorem walk_FnExactGetSym (hM : MeetsGetSym) (w : World) (a0 : Option Addr) (len0 cap0 : Nat) (z0 : List Int) (w0 : IsRow .i64 w a0 len0 cap0 z0) (s1 : ByteArray) (a1 : Int) (w1 : s1.size ≤ maxLen) (b1 : -9223372036854775808 ≤ a1) (d1 : a1 ≤ 9223372036854775807) :
    Calls Try.prog 10 #[.slice a0 len0 cap0, .agg #[.string s1, .int .i64 a1]] w fun e w' => e = .returned (.bool true) ∧ Below w.heap.size w w' := by
  have hl0 := isrow_lenE w0
  by_cases hb0 : len0 ≤ 1048576
  rotate_left
  · have hx : (1048576 : Int) < (len0 : Int) := by omega
    clear hM
    go_enter Try.func10, Try.ntmps10
    go_wp2
    go_ret
    first | exact ⟨rfl, Below.refl _ _⟩ | exact ⟨rfl, (Below.refl _ _).alloc (Nat.le_refl _) _⟩
  by_cases hb1 : s1.size ≤ 1048576
  rotate_left
  · have hx : 1048576 < s1.size := by omega
    have hx0 : ¬ (1048576 : Int) < (len0 : Int) := by omega
    have c0 := (Has.fresh w 47 #[.string s1, .int .i64 a1]).cell 0
    have c1 := (Has.fresh w 47 #[.string s1, .int .i64 a1]).cell 1
    simp at c0 c1
    clear hM
    go_enter Try.func10, Try.ntmps10
    go_wp2_with fail
    refine (szRd_no s1 a1 1048576 _ hx w1 (Nat.le_refl _)).mono ?_
    rintro e w1 ⟨rfl, b1⟩
    go_wp2
    go_ret
    exact ⟨rfl, bel_then b1 (by simp) ((Below.refl _ _).alloc (Nat.le_refl _) _)⟩
  obtain ⟨y0', hl0', hI0⟩ := Ints.ofRowE w0 hb0
  obtain ⟨r0, t1, r1, r2, hs, hi⟩ := hM y0' s1 a1 (by rw [hl0']; exact hb0) hI0.2.1 hb1 b1 d1
  rw [hl0'] at hs hi
  exact in_FnExactGetSym w a0 len0 cap0 y0' (hidden hI0) (hidden hl0') hb0 s1 a1 hb1 b1 d1 r0 t1 r1 r2  (hidden hs) (hidden hi)
end Go.Proofs.Ytdfbpmkdmpdobaa
