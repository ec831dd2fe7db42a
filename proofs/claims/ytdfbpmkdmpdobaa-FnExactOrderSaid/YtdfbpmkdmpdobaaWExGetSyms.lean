/- The walk of the exact law of GetSyms (what is asked: MeetsF). -/
import Derived.Test.YtdfbpmkdmpdobaaExA
import Derived.Test.YtdfbpmkdmpdobaaC4W
namespace Go.Proofs.Ytdfbpmkdmpdobaa
set_option linter.unusedVariables false
set_option linter.unusedSimpArgs false
open Go.RowKit Go.ChangeShapes Go.WideShapes Go.ChangeAt

/-- For all arguments in bounds the model and the program answer the same. -/
def MeetsGetSyms : Prop := ∀ (z0 : List Int) (s1 : ByteArray) (a1 : Int) (a2 : Int), z0.length ≤ 1048576 → (∀ x ∈ z0, -9223372036854775808 ≤ x ∧ x ≤ 9223372036854775807) → s1.size ≤ 1048576 → -9223372036854775808 ≤ a1 → a1 ≤ 9223372036854775807 → -9223372036854775808 ≤ a2 → a2 ≤ 9223372036854775807 → ∃ (y0 : List Int) (t1 : ByteArray) (r1 : Int) (r2 : Bool), (y0.length ≤ 1048576 ∧ ∀ x ∈ y0, -9223372036854775808 ≤ x ∧ x ≤ 9223372036854775807) ∧ (∀ (W : World) (p0 : Addr) (c0 : Nat), Ints W W.heap.size (some p0) z0 → Calls Try.prog 23 #[.slice (some p0) z0.length c0, .agg #[.string s1, .int .i64 a1], .int .i64 a2] W fun e w' => ∃ v0, e = .returned (.tuple #[v0, .agg #[.string t1, .int .i64 r1], .bool r2]) ∧ w'.ownsRow W.heap.size 3 1 v0 y0.length (intsV y0) ∧ Below W.heap.size W w') ∧ (∀ (W : World) (p0 : Addr) (c0 : Nat), Ints W W.heap.size (some p0) z0 → Calls Try.prog 20 #[.slice (some p0) z0.length c0, .agg #[.string s1, .int .i64 a1], .int .i64 a2] W fun e w' => ∃ v0, e = .returned (.tuple #[v0, .agg #[.string t1, .int .i64 r1], .bool r2]) ∧ w'.ownsRow W.heap.size 3 1 v0 y0.length (intsV y0) ∧ Below W.heap.size W w')
attribute [local go_sem ↓] Go.wp_at_zero Go.wp_at_succ
set_option maxHeartbeats 4000000 in
set_option maxRecDepth 100000 in
theorem in_FnExactGetSyms (w : World) (a0 : Option Addr) (len0 cap0 : Nat) (z0 : List Int) (HI0 : Hid (Ints w w.heap.size a0 z0)) (HL0 : Hid (z0.length = len0)) (hb0 : len0 ≤ 1048576) (s1 : ByteArray) (a1 : Int) (hb1 : s1.size ≤ 1048576) (b1 : -9223372036854775808 ≤ a1) (d1 : a1 ≤ 9223372036854775807) (a2 : Int) (b2 : -9223372036854775808 ≤ a2) (d2 : a2 ≤ 9223372036854775807) (y0 : List Int) (t1 : ByteArray) (r1 : Int) (r2 : Bool)
    (m0 : Nat) (HY0 : Hid (y0.length = m0)) (hm0 : m0 ≤ 1048576) (HR0 : Hid (∀ x ∈ y0, -9223372036854775808 ≤ x ∧ x ≤ 9223372036854775807))
    (KS : Hid (∀ (W : World) (p0 : Addr) (c0 : Nat), Ints W W.heap.size (some p0) z0 → Calls Try.prog 23 #[.slice (some p0) len0 c0, .agg #[.string s1, .int .i64 a1], .int .i64 a2] W fun e w' => ∃ v0, e = .returned (.tuple #[v0, .agg #[.string t1, .int .i64 r1], .bool r2]) ∧ w'.ownsRow W.heap.size 3 1 v0 m0 (intsV y0) ∧ Below W.heap.size W w'))
    (KI : Hid (∀ (W : World) (p0 : Addr) (c0 : Nat), Ints W W.heap.size (some p0) z0 → Calls Try.prog 20 #[.slice (some p0) len0 c0, .agg #[.string s1, .int .i64 a1], .int .i64 a2] W fun e w' => ∃ v0, e = .returned (.tuple #[v0, .agg #[.string t1, .int .i64 r1], .bool r2]) ∧ w'.ownsRow W.heap.size 3 1 v0 m0 (intsV y0) ∧ Below W.heap.size W w')) :
    Calls Try.prog 11 #[.slice a0 len0 cap0, .agg #[.string s1, .int .i64 a1], .int .i64 a2] w fun e w' => e = .returned (.bool true) ∧ Below w.heap.size w w' := by
  have hg0 : ¬ (1048576 : Int) < (len0 : Int) := by omega
  have hn0 : ¬ (1 : Int) + (m0 : Int) < 0 := by omega
  have hk0 : ¬ (1 : Int) + (len0 : Int) < 0 := by omega
  have hq0 : (1 : Int) + (m0 : Int) ≠ (1 : Int) + (m0 : Int) → False := fun h => h rfl
  go_enter Try.func11, Try.ntmps11
  obtain ⟨N1, hN1⟩ : ∃ N, N = (w.alloc (.cells #[.string s1, .int .i64 a1] 47)) := ⟨_, rfl⟩
  have hb1_ : Below w.heap.size w N1 := by rw [hN1]; exact (Below.refl _ _).alloc (Nat.le_refl _) _
  have HA : Hid (Has N1 w.heap.size 47 #[.string s1, .int .i64 a1]) := hidden (by rw [hN1]; exact Has.fresh _ _ _)
  have lHA := HA.out.lt
  go_wp2_with fail
  rw [← hN1]
  refine (szRd_ok s1 a1 1048576 N1 hb1 (Nat.le_refl _)).mono ?_
  rintro e W2 ⟨rfl, b2⟩
  clear hN1
  have B2 : Below w.heap.size w W2 := bel_then b2 hb1_.size hb1_
  have sB2 := b2.size
  have HA_2 := hidden (HA.out.below b2 HA.out.lt)
  clear HA
  clear b2
  go_wp2
  have hA := HA_2.out
  have x0 := hA.cell 0
  have x1 := hA.cell 1
  simp at x0 x1
  have lA := hA.lt
  have n0a : ¬ w.heap.size = W2.heap.size := by omega
  have n0b : ¬ W2.heap.size = w.heap.size := by omega
  have bc : Below W2.heap.size W2 W2 := Below.refl _ _
  have KT := hidden (fun (W : World) (hW : Below W2.heap.size W2 W) => toInt_e a0 cap0 z0 w W HL0.out HI0.out (bel_then hW B2.size B2) hb0)
  have KD := hidden (fun (W : World) => toRd_e s1 a1 W)
  go_cut [8, 9, 10] (fun q0 q1 q2 wx => ∃ (aw0 : Option Addr) (cw0 : Nat) (gw1 : Nat), q0 = .slice aw0 m0 cw0 ∧ q1 = .pointer (some ⟨gw1, 0, none⟩) ∧ q2 = .bool r2 ∧ wx.ownsRow W2.heap.size 3 1 (.slice aw0 m0 cw0) m0 (intsV y0) ∧ Has wx gw1 37 #[.string t1, .int .i64 r1] ∧ W2.heap.size ≤ gw1 ∧ Below W2.heap.size W2 wx)
  case first =>
    go_region_held3 (fun w' => w'.cell? ⟨w.heap.size, 0, none⟩ = some (.string s1) ∧ w'.cell? ⟨w.heap.size, 1, none⟩ = some (.int .i64 a1)) (go_keep) (first | (go_at_call 26; (with_reducible refine (KT.out _ ?hW).mono ?_); (case hW => (first | exact ⟨bc.os, bc.tape, bc.output, bc.size, bc.block⟩ | exact ⟨(bc.alloc bc.size (.cells #[.string ⟨#[]⟩, .int .i64 0] 37)).os, (bc.alloc bc.size (.cells #[.string ⟨#[]⟩, .int .i64 0] 37)).tape, (bc.alloc bc.size (.cells #[.string ⟨#[]⟩, .int .i64 0] 37)).output, (bc.alloc bc.size (.cells #[.string ⟨#[]⟩, .int .i64 0] 37)).size, (bc.alloc bc.size (.cells #[.string ⟨#[]⟩, .int .i64 0] 37)).block⟩)); rintro e xa ⟨ga, rfl, oa, ba⟩; have yxa := ba.size; (try simp at yxa); (first | (have hG := (ba.block _ hG.lt).trans hG) | (have hG := (ba.block _ (Has.fresh W2 37 #[.string ⟨#[]⟩, .int .i64 0]).lt).trans (Has.fresh W2 37 #[.string ⟨#[]⟩, .int .i64 0])) | skip); (try (replace hG : Has xa _ _ _ := hG; have hq0 := hG.cell 0; have hq1 := hG.cell 1; have hr0 := hG.free 0; have hr1 := hG.free 1; simp at hq0 hq1; have hGl := hG.lt)); (first | (replace hA : Has xa _ _ _ := (ba.block _ hA.lt).trans hA) | (replace hA : Has xa _ _ _ := (ba.block _ (hA.alloc (.cells #[.string ⟨#[]⟩, .int .i64 0] 37)).lt).trans (hA.alloc (.cells #[.string ⟨#[]⟩, .int .i64 0] 37)))); (first | (replace bc : Below W2.heap.size W2 xa := bel_then ba bc.size ⟨bc.os, bc.tape, bc.output, bc.size, bc.block⟩) | (replace bc : Below W2.heap.size W2 xa := bel_then ba (bc.alloc bc.size (.cells #[.string ⟨#[]⟩, .int .i64 0] 37)).size ⟨(bc.alloc bc.size (.cells #[.string ⟨#[]⟩, .int .i64 0] 37)).os, (bc.alloc bc.size (.cells #[.string ⟨#[]⟩, .int .i64 0] 37)).tape, (bc.alloc bc.size (.cells #[.string ⟨#[]⟩, .int .i64 0] 37)).output, (bc.alloc bc.size (.cells #[.string ⟨#[]⟩, .int .i64 0] 37)).size, (bc.alloc bc.size (.cells #[.string ⟨#[]⟩, .int .i64 0] 37)).block⟩)); have x0 := hA.cell 0; have x1 := hA.cell 1; simp at x0 x1; have lA := hA.lt; have nxa1 : ¬ w.heap.size = xa.heap.size := (by omega); have nxa2 : ¬ xa.heap.size = w.heap.size := (by omega)) | (go_at_call 36; (with_reducible refine (KD.out _).mono ?_); rintro e xb ⟨rfl, bb⟩; (first | (replace oa := own_blk oa (fun i hi => bb.block i hi)) | (replace oa := own_blk (oa.alloc (.cells #[.string ⟨#[]⟩, .int .i64 0] 37)) (fun i hi => bb.block i hi))); have yxb := bb.size; (try simp at yxb); (first | (have hG := (bb.block _ hG.lt).trans hG) | (have hG := (bb.block _ (Has.fresh xa 37 #[.string ⟨#[]⟩, .int .i64 0]).lt).trans (Has.fresh xa 37 #[.string ⟨#[]⟩, .int .i64 0])) | skip); (try (replace hG : Has xb _ _ _ := hG; have hq0 := hG.cell 0; have hq1 := hG.cell 1; have hr0 := hG.free 0; have hr1 := hG.free 1; simp at hq0 hq1; have hGl := hG.lt)); (first | (replace hA : Has xb _ _ _ := (bb.block _ hA.lt).trans hA) | (replace hA : Has xb _ _ _ := (bb.block _ (hA.alloc (.cells #[.string ⟨#[]⟩, .int .i64 0] 37)).lt).trans (hA.alloc (.cells #[.string ⟨#[]⟩, .int .i64 0] 37)))); (first | (replace bc : Below W2.heap.size W2 xb := bel_then bb bc.size ⟨bc.os, bc.tape, bc.output, bc.size, bc.block⟩) | (replace bc : Below W2.heap.size W2 xb := bel_then bb (bc.alloc bc.size (.cells #[.string ⟨#[]⟩, .int .i64 0] 37)).size ⟨(bc.alloc bc.size (.cells #[.string ⟨#[]⟩, .int .i64 0] 37)).os, (bc.alloc bc.size (.cells #[.string ⟨#[]⟩, .int .i64 0] 37)).tape, (bc.alloc bc.size (.cells #[.string ⟨#[]⟩, .int .i64 0] 37)).output, (bc.alloc bc.size (.cells #[.string ⟨#[]⟩, .int .i64 0] 37)).size, (bc.alloc bc.size (.cells #[.string ⟨#[]⟩, .int .i64 0] 37)).block⟩)); have x0 := hA.cell 0; have x1 := hA.cell 1; simp at x0 x1; have lA := hA.lt; have nxb1 : ¬ w.heap.size = xb.heap.size := (by omega); have nxb2 : ¬ xb.heap.size = w.heap.size := (by omega)) | (go_at_call 23; (with_reducible refine (KS.out _ _ _ ?hI).mono ?_); (case hI => first | exact own_ints oa HI0.out.2.1 hb0 | exact own_ints (oa.alloc (.cells #[.string ⟨#[]⟩, .int .i64 0] 37)) HI0.out.2.1 hb0); rintro e xc ⟨vv0, rfl, oo0, bf⟩; obtain ⟨aw0, cw0, rfl⟩ := own_form oo0; have yxc := bf.size; (try simp at yxc); (first | (have hG := (bf.block _ hG.lt).trans hG) | (have hG := (bf.block _ (Has.fresh xb 37 #[.string ⟨#[]⟩, .int .i64 0]).lt).trans (Has.fresh xb 37 #[.string ⟨#[]⟩, .int .i64 0])) | skip); (try (replace hG : Has xc _ _ _ := hG; have hq0 := hG.cell 0; have hq1 := hG.cell 1; have hr0 := hG.free 0; have hr1 := hG.free 1; simp at hq0 hq1; have hGl := hG.lt)); (first | (replace hA : Has xc _ _ _ := (bf.block _ hA.lt).trans hA) | (replace hA : Has xc _ _ _ := (bf.block _ (hA.alloc (.cells #[.string ⟨#[]⟩, .int .i64 0] 37)).lt).trans (hA.alloc (.cells #[.string ⟨#[]⟩, .int .i64 0] 37)))); (first | (replace bc : Below W2.heap.size W2 xc := bel_then bf bc.size ⟨bc.os, bc.tape, bc.output, bc.size, bc.block⟩) | (replace bc : Below W2.heap.size W2 xc := bel_then bf (bc.alloc bc.size (.cells #[.string ⟨#[]⟩, .int .i64 0] 37)).size ⟨(bc.alloc bc.size (.cells #[.string ⟨#[]⟩, .int .i64 0] 37)).os, (bc.alloc bc.size (.cells #[.string ⟨#[]⟩, .int .i64 0] 37)).tape, (bc.alloc bc.size (.cells #[.string ⟨#[]⟩, .int .i64 0] 37)).output, (bc.alloc bc.size (.cells #[.string ⟨#[]⟩, .int .i64 0] 37)).size, (bc.alloc bc.size (.cells #[.string ⟨#[]⟩, .int .i64 0] 37)).block⟩)); have x0 := hA.cell 0; have x1 := hA.cell 1; simp at x0 x1; have lA := hA.lt; have nxc1 : ¬ w.heap.size = xc.heap.size := (by omega); have nxc2 : ¬ xc.heap.size = w.heap.size := (by omega)))
    all_goals
      go_wp2
      go_meet
      first
      | exact ⟨_, _, _, rfl, rfl, rfl, Joins.ownsRow_le (oo0.alloc _) (by (try simp); (try omega)), Has.fresh _ _ _, (by (try simp); (try omega)), bc.alloc bc.size _⟩
      | exact ⟨_, _, _, rfl, rfl, rfl, Joins.ownsRow_le (own_away (own_away oo0 (p := ⟨_, 0, none⟩) (by (try simp); (try omega)) _) (p := ⟨_, 1, none⟩) (by (try simp); (try omega)) _) (by (try simp); (try omega)), (by simpa using (hG.store 0 (.string t1)).store 1 (.int .i64 r1)), (by (try simp); (try omega)), (bc.setCell (p := ⟨_, 0, none⟩) (by (try simp); (try omega)) _).setCell (p := ⟨_, 1, none⟩) (by (try simp); (try omega)) _⟩
  case rest =>
    obtain ⟨aw0, cw0, gw1, rfl, rfl, rfl, o0_3, h1_3, l1_3, b3⟩ := hcut
    obtain ⟨W3, hW3⟩ : ∃ W, W = wc := ⟨_, rfl⟩
    rw [← hW3] at o0_3 h1_3 b3 ⊢
    clear hW3 hA x0 x1 lA n0a n0b bc KT KD
    have B3 : Below w.heap.size w W3 := bel_then b3 B2.size B2
    have sB3 := b3.size
    have HA_3 := hidden (HA_2.out.below b3 HA_2.out.lt)
    clear HA_2
    have Yw0 := hidden o0_3
    have Qw0 := own_ranged o0_3
    clear o0_3
    have Hw1 := hidden h1_3
    have ltHw1 := h1_3.lt
    clear h1_3
    clear b3
    go_wp2_with fail
    refine (toInt_e a0 cap0 z0 w W3 HL0.out HI0.out B3 hb0).mono ?_
    rintro e W4 ⟨g4, rfl, o4, b4⟩
    have B4 : Below w.heap.size w W4 := bel_then b4 B3.size B3
    have sB4 := b4.size
    have HA_4 := hidden (HA_3.out.below b4 HA_3.out.lt)
    clear HA_3
    have Yw0_4 := hidden (own_bel Yw0.out b4)
    clear Yw0
    have Hw1_4 := hidden (Hw1.out.below b4 Hw1.out.lt)
    clear Hw1
    have X4 := hidden o4
    have Q4 := own_ranged o4
    clear o4 b4
    have e4_HAa := HA_4.out.cell 0
    have e4_HAb := HA_4.out.cell 1
    simp at e4_HAa e4_HAb
    go_wp2_with fail
    refine (toRd_e s1 a1 W4).mono ?_
    rintro e W5 ⟨rfl, b5⟩
    clear e4_HAa e4_HAb
    have B5 : Below w.heap.size w W5 := bel_then b5 B4.size B4
    have sB5 := b5.size
    have HA_5 := hidden (HA_4.out.below b5 HA_4.out.lt)
    clear HA_4
    have Yw0_5 := hidden (own_bel Yw0_4.out b5)
    clear Yw0_4
    have Hw1_5 := hidden (Hw1_4.out.below b5 Hw1_4.out.lt)
    clear Hw1_4
    have X4_5 := hidden (own_bel X4.out b5)
    clear X4
    clear b5
    go_wp2_with fail
    refine (KI.out W5 _ _ (own_ints X4_5.out HI0.out.2.1 hb0)).mono ?_
    rintro e W6 ⟨v0_6, rfl, o0_6, b6⟩
    obtain ⟨gg0, cg0, rfl⟩ := own_form o0_6
    have B6 : Below w.heap.size w W6 := bel_then b6 B5.size B5
    have sB6 := b6.size
    have HA_6 := hidden (HA_5.out.below b6 HA_5.out.lt)
    clear HA_5
    have Yw0_6 := hidden (own_bel Yw0_5.out b6)
    clear Yw0_5
    have Hw1_6 := hidden (Hw1_5.out.below b6 Hw1_5.out.lt)
    clear Hw1_5
    have X4_6 := hidden (own_bel X4_5.out b6)
    clear X4_5
    have Yg0 := hidden o0_6
    have Qg0 := own_ranged o0_6
    clear o0_6
    clear b6
    have q7_HAa := HA_6.out.cell 0
    have q7_HAb := HA_6.out.cell 1
    have q7_HAl := HA_6.out.lt
    simp at q7_HAa q7_HAb
    have q7_HAn : ¬ w.heap.size = W6.heap.size := by omega
    have q7_Hw1a := Hw1_6.out.cell 0
    have q7_Hw1b := Hw1_6.out.cell 1
    have q7_Hw1l := Hw1_6.out.lt
    simp at q7_Hw1a q7_Hw1b
    have q7_Hw1n : ¬ gw1 = W6.heap.size := by omega
    obtain ⟨N7, hN7⟩ : ∃ N, N = (W6.alloc (.cells #[.string t1, .int .i64 r1] 37)) := ⟨_, rfl⟩
    have hb7_ : Below W6.heap.size W6 N7 := by rw [hN7]; exact (Below.refl _ _).alloc (Nat.le_refl _) _
    have Hg1 : Hid (Has N7 W6.heap.size 37 #[.string t1, .int .i64 r1]) := hidden (by rw [hN7]; exact Has.fresh _ _ _)
    have lHg1 := Hg1.out.lt
    have B7 : Below w.heap.size w N7 := bel_then hb7_ B6.size B6
    have sB7 := hb7_.size
    have HA_7 := hidden (HA_6.out.below hb7_ HA_6.out.lt)
    clear HA_6
    have Yw0_7 := hidden (own_bel Yw0_6.out hb7_)
    clear Yw0_6
    have Hw1_7 := hidden (Hw1_6.out.below hb7_ Hw1_6.out.lt)
    clear Hw1_6
    have X4_7 := hidden (own_bel X4_6.out hb7_)
    clear X4_6
    have Yg0_7 := hidden (own_bel Yg0.out hb7_)
    clear Yg0
    clear hb7_
    go_wp2_with fail
    rw [← hN7]
    refine (eq_e _ _ _ _ y0 N7 HY0.out (own_ints Yg0_7.out HR0.out hm0) (own_ints Yw0_7.out HR0.out hm0)).mono ?_
    rintro e W8 ⟨rfl, b8⟩
    clear hN7 q7_HAa q7_HAb q7_HAl q7_HAn q7_Hw1a q7_Hw1b q7_Hw1l q7_Hw1n
    have B8 : Below w.heap.size w W8 := bel_then b8 B7.size B7
    have sB8 := b8.size
    have HA_8 := hidden (HA_7.out.below b8 HA_7.out.lt)
    clear HA_7
    have Yw0_8 := hidden (own_bel Yw0_7.out b8)
    clear Yw0_7
    have Hw1_8 := hidden (Hw1_7.out.below b8 Hw1_7.out.lt)
    clear Hw1_7
    have X4_8 := hidden (own_bel X4_7.out b8)
    clear X4_7
    have Yg0_8 := hidden (own_bel Yg0_7.out b8)
    clear Yg0_7
    have Hg1_8 := hidden (Hg1.out.below b8 Hg1.out.lt)
    clear Hg1
    clear b8
    have e8_Hg1a := Hg1_8.out.cell 0
    have e8_Hg1b := Hg1_8.out.cell 1
    simp at e8_Hg1a e8_Hg1b
    have e8_Hw1a := Hw1_8.out.cell 0
    have e8_Hw1b := Hw1_8.out.cell 1
    simp at e8_Hw1a e8_Hw1b
    go_wp2_with fail
    refine (eqRd_e t1 r1 W8).mono ?_
    rintro e W9 ⟨rfl, b9⟩
    clear e8_Hg1a e8_Hg1b e8_Hw1a e8_Hw1b
    have B9 : Below w.heap.size w W9 := bel_then b9 B8.size B8
    have sB9 := b9.size
    have HA_9 := hidden (HA_8.out.below b9 HA_8.out.lt)
    clear HA_8
    have Yw0_9 := hidden (own_bel Yw0_8.out b9)
    clear Yw0_8
    have Hw1_9 := hidden (Hw1_8.out.below b9 Hw1_8.out.lt)
    clear Hw1_8
    have X4_9 := hidden (own_bel X4_8.out b9)
    clear X4_8
    have Yg0_9 := hidden (own_bel Yg0_8.out b9)
    clear Yg0_8
    have Hg1_9 := hidden (Hg1_8.out.below b9 Hg1_8.out.lt)
    clear Hg1_8
    clear b9
    go_wp2_with fail
    refine (toInt_e a0 cap0 z0 w W9 HL0.out HI0.out B9 hb0).mono ?_
    rintro e W10 ⟨g10, rfl, o10, b10⟩
    have B10 : Below w.heap.size w W10 := bel_then b10 B9.size B9
    have sB10 := b10.size
    have HA_10 := hidden (HA_9.out.below b10 HA_9.out.lt)
    clear HA_9
    have Yw0_10 := hidden (own_bel Yw0_9.out b10)
    clear Yw0_9
    have Hw1_10 := hidden (Hw1_9.out.below b10 Hw1_9.out.lt)
    clear Hw1_9
    have X4_10 := hidden (own_bel X4_9.out b10)
    clear X4_9
    have Yg0_10 := hidden (own_bel Yg0_9.out b10)
    clear Yg0_9
    have Hg1_10 := hidden (Hg1_9.out.below b10 Hg1_9.out.lt)
    clear Hg1_9
    have X10 := hidden o10
    have Q10 := own_ranged o10
    clear o10 b10
    go_wp2_with fail
    refine (eq_e _ _ _ _ z0 W10 HL0.out (own_ints X4_10.out HI0.out.2.1 hb0) (own_ints X10.out HI0.out.2.1 hb0)).mono ?_
    rintro e W11 ⟨rfl, b11⟩
    clear X10
    have B11 : Below w.heap.size w W11 := bel_then b11 B10.size B10
    have sB11 := b11.size
    have HA_11 := hidden (HA_10.out.below b11 HA_10.out.lt)
    clear HA_10
    have Yw0_11 := hidden (own_bel Yw0_10.out b11)
    clear Yw0_10
    have Hw1_11 := hidden (Hw1_10.out.below b11 Hw1_10.out.lt)
    clear Hw1_10
    have X4_11 := hidden (own_bel X4_10.out b11)
    clear X4_10
    have Yg0_11 := hidden (own_bel Yg0_10.out b11)
    clear Yg0_10
    have Hg1_11 := hidden (Hg1_10.out.below b11 Hg1_10.out.lt)
    clear Hg1_10
    clear b11
    go_wp2_with fail
    refine (mark_e (k := 1) _ z0 W11 X4_11.out hb0 (by omega) _ (by simp)).mono ?_
    rintro e W12 ⟨rfl, o12, gr12⟩
    have B12 : Below w.heap.size w W12 := bel_grown B11 gr12 Q4 (by omega)
    have sB12 := gr12.size
    have HA_12 := hidden (HA_11.out.grown gr12 (ranged_box Q4 (by omega)))
    clear HA_11
    have Yw0_12 := hidden (Yw0_11.out.kept gr12 (ranged_ne Qw0 Q4 (by omega)))
    clear Yw0_11
    have Hw1_12 := hidden (Hw1_11.out.grown gr12 (ranged_box Q4 (by omega)))
    clear Hw1_11
    have X4_12 := hidden o12
    clear X4_11
    have Yg0_12 := hidden (Yg0_11.out.kept gr12 (ranged_ne Qg0 Q4 (by omega)))
    clear Yg0_11
    have Hg1_12 := hidden (Hg1_11.out.grown gr12 (ranged_box Q4 (by omega)))
    clear Hg1_11
    clear o12 gr12
    clear X4_12
    go_wp2_with fail
    refine (eq_e _ _ _ _ y0 W12 HY0.out (own_ints Yg0_12.out HR0.out hm0) (own_ints Yw0_12.out HR0.out hm0)).mono ?_
    rintro e W13 ⟨rfl, b13⟩
    have B13 : Below w.heap.size w W13 := bel_then b13 B12.size B12
    have sB13 := b13.size
    have HA_13 := hidden (HA_12.out.below b13 HA_12.out.lt)
    clear HA_12
    have Yw0_13 := hidden (own_bel Yw0_12.out b13)
    clear Yw0_12
    have Hw1_13 := hidden (Hw1_12.out.below b13 Hw1_12.out.lt)
    clear Hw1_12
    have Yg0_13 := hidden (own_bel Yg0_12.out b13)
    clear Yg0_12
    have Hg1_13 := hidden (Hg1_12.out.below b13 Hg1_12.out.lt)
    clear Hg1_12
    clear b13
    have e13_Hg1a := Hg1_13.out.cell 0
    have e13_Hg1b := Hg1_13.out.cell 1
    simp at e13_Hg1a e13_Hg1b
    have e13_Hw1a := Hw1_13.out.cell 0
    have e13_Hw1b := Hw1_13.out.cell 1
    simp at e13_Hw1a e13_Hw1b
    go_wp2_with fail
    refine (eqRd_e t1 r1 W13).mono ?_
    rintro e W14 ⟨rfl, b14⟩
    clear e13_Hg1a e13_Hg1b e13_Hw1a e13_Hw1b
    have B14 : Below w.heap.size w W14 := bel_then b14 B13.size B13
    have sB14 := b14.size
    have HA_14 := hidden (HA_13.out.below b14 HA_13.out.lt)
    clear HA_13
    have Yw0_14 := hidden (own_bel Yw0_13.out b14)
    clear Yw0_13
    have Hw1_14 := hidden (Hw1_13.out.below b14 Hw1_13.out.lt)
    clear Hw1_13
    have Yg0_14 := hidden (own_bel Yg0_13.out b14)
    clear Yg0_13
    have Hg1_14 := hidden (Hg1_13.out.below b14 Hg1_13.out.lt)
    clear Hg1_13
    clear b14
    go_wp2_with fail
    refine (mark_e (k := 1) _ y0 W14 Yg0_14.out hm0 (by omega) _ (by simp)).mono ?_
    rintro e W15 ⟨rfl, o15, gr15⟩
    have B15 : Below w.heap.size w W15 := bel_grown B14 gr15 Qg0 (by omega)
    have sB15 := gr15.size
    have HA_15 := hidden (HA_14.out.grown gr15 (ranged_box Qg0 (by omega)))
    clear HA_14
    have Yw0_15 := hidden (Yw0_14.out.kept gr15 (ranged_ne Qw0 Qg0 (by omega)))
    clear Yw0_14
    have Hw1_15 := hidden (Hw1_14.out.grown gr15 (ranged_box Qg0 (by omega)))
    clear Hw1_14
    have Yg0_15 := hidden o15
    clear Yg0_14
    have Hg1_15 := hidden (Hg1_14.out.grown gr15 (ranged_box Qg0 (by omega)))
    clear Hg1_14
    clear o15 gr15
    go_wp2_with fail
    refine (held_e _ W15 Yg0_15.out hm0).mono ?_
    rintro e _ ⟨rfl, rfl⟩
    go_wp2
    have hA := HA_15.out
    have x0 := hA.cell 0
    have x1 := hA.cell 1
    simp at x0 x1
    have lA := hA.lt
    have n0a : ¬ w.heap.size = W15.heap.size := by omega
    have n0b : ¬ W15.heap.size = w.heap.size := by omega
    have bc : Below W15.heap.size W15 W15 := Below.refl _ _
    have KT := hidden (fun (W : World) (hW : Below W15.heap.size W15 W) => toInt_e a0 cap0 z0 w W HL0.out HI0.out (bel_then hW B15.size B15) hb0)
    have KD := hidden (fun (W : World) => toRd_e s1 a1 W)
    go_cut [18, 19, 20] (fun q0 q1 q2 wx => ∃ (aw0 : Option Addr) (cw0 : Nat) (gw1 : Nat), q0 = .slice aw0 m0 cw0 ∧ q1 = .pointer (some ⟨gw1, 0, none⟩) ∧ q2 = .bool r2 ∧ wx.ownsRow W15.heap.size 3 1 (.slice aw0 m0 cw0) m0 (intsV y0) ∧ Has wx gw1 37 #[.string t1, .int .i64 r1] ∧ W15.heap.size ≤ gw1 ∧ Below W15.heap.size W15 wx)
    case first =>
      go_region_held3 (fun w' => w'.cell? ⟨w.heap.size, 0, none⟩ = some (.string s1) ∧ w'.cell? ⟨w.heap.size, 1, none⟩ = some (.int .i64 a1)) (go_keep) (first | (go_at_call 26; (with_reducible refine (KT.out _ ?hW).mono ?_); (case hW => (first | exact ⟨bc.os, bc.tape, bc.output, bc.size, bc.block⟩ | exact ⟨(bc.alloc bc.size (.cells #[.string ⟨#[]⟩, .int .i64 0] 37)).os, (bc.alloc bc.size (.cells #[.string ⟨#[]⟩, .int .i64 0] 37)).tape, (bc.alloc bc.size (.cells #[.string ⟨#[]⟩, .int .i64 0] 37)).output, (bc.alloc bc.size (.cells #[.string ⟨#[]⟩, .int .i64 0] 37)).size, (bc.alloc bc.size (.cells #[.string ⟨#[]⟩, .int .i64 0] 37)).block⟩)); rintro e xa ⟨ga, rfl, oa, ba⟩; have yxa := ba.size; (try simp at yxa); (first | (have hG := (ba.block _ hG.lt).trans hG) | (have hG := (ba.block _ (Has.fresh W15 37 #[.string ⟨#[]⟩, .int .i64 0]).lt).trans (Has.fresh W15 37 #[.string ⟨#[]⟩, .int .i64 0])) | skip); (try (replace hG : Has xa _ _ _ := hG; have hq0 := hG.cell 0; have hq1 := hG.cell 1; have hr0 := hG.free 0; have hr1 := hG.free 1; simp at hq0 hq1; have hGl := hG.lt)); (first | (replace hA : Has xa _ _ _ := (ba.block _ hA.lt).trans hA) | (replace hA : Has xa _ _ _ := (ba.block _ (hA.alloc (.cells #[.string ⟨#[]⟩, .int .i64 0] 37)).lt).trans (hA.alloc (.cells #[.string ⟨#[]⟩, .int .i64 0] 37)))); (first | (replace bc : Below W15.heap.size W15 xa := bel_then ba bc.size ⟨bc.os, bc.tape, bc.output, bc.size, bc.block⟩) | (replace bc : Below W15.heap.size W15 xa := bel_then ba (bc.alloc bc.size (.cells #[.string ⟨#[]⟩, .int .i64 0] 37)).size ⟨(bc.alloc bc.size (.cells #[.string ⟨#[]⟩, .int .i64 0] 37)).os, (bc.alloc bc.size (.cells #[.string ⟨#[]⟩, .int .i64 0] 37)).tape, (bc.alloc bc.size (.cells #[.string ⟨#[]⟩, .int .i64 0] 37)).output, (bc.alloc bc.size (.cells #[.string ⟨#[]⟩, .int .i64 0] 37)).size, (bc.alloc bc.size (.cells #[.string ⟨#[]⟩, .int .i64 0] 37)).block⟩)); have x0 := hA.cell 0; have x1 := hA.cell 1; simp at x0 x1; have lA := hA.lt; have nxa1 : ¬ w.heap.size = xa.heap.size := (by omega); have nxa2 : ¬ xa.heap.size = w.heap.size := (by omega)) | (go_at_call 36; (with_reducible refine (KD.out _).mono ?_); rintro e xb ⟨rfl, bb⟩; (first | (replace oa := own_blk oa (fun i hi => bb.block i hi)) | (replace oa := own_blk (oa.alloc (.cells #[.string ⟨#[]⟩, .int .i64 0] 37)) (fun i hi => bb.block i hi))); have yxb := bb.size; (try simp at yxb); (first | (have hG := (bb.block _ hG.lt).trans hG) | (have hG := (bb.block _ (Has.fresh xa 37 #[.string ⟨#[]⟩, .int .i64 0]).lt).trans (Has.fresh xa 37 #[.string ⟨#[]⟩, .int .i64 0])) | skip); (try (replace hG : Has xb _ _ _ := hG; have hq0 := hG.cell 0; have hq1 := hG.cell 1; have hr0 := hG.free 0; have hr1 := hG.free 1; simp at hq0 hq1; have hGl := hG.lt)); (first | (replace hA : Has xb _ _ _ := (bb.block _ hA.lt).trans hA) | (replace hA : Has xb _ _ _ := (bb.block _ (hA.alloc (.cells #[.string ⟨#[]⟩, .int .i64 0] 37)).lt).trans (hA.alloc (.cells #[.string ⟨#[]⟩, .int .i64 0] 37)))); (first | (replace bc : Below W15.heap.size W15 xb := bel_then bb bc.size ⟨bc.os, bc.tape, bc.output, bc.size, bc.block⟩) | (replace bc : Below W15.heap.size W15 xb := bel_then bb (bc.alloc bc.size (.cells #[.string ⟨#[]⟩, .int .i64 0] 37)).size ⟨(bc.alloc bc.size (.cells #[.string ⟨#[]⟩, .int .i64 0] 37)).os, (bc.alloc bc.size (.cells #[.string ⟨#[]⟩, .int .i64 0] 37)).tape, (bc.alloc bc.size (.cells #[.string ⟨#[]⟩, .int .i64 0] 37)).output, (bc.alloc bc.size (.cells #[.string ⟨#[]⟩, .int .i64 0] 37)).size, (bc.alloc bc.size (.cells #[.string ⟨#[]⟩, .int .i64 0] 37)).block⟩)); have x0 := hA.cell 0; have x1 := hA.cell 1; simp at x0 x1; have lA := hA.lt; have nxb1 : ¬ w.heap.size = xb.heap.size := (by omega); have nxb2 : ¬ xb.heap.size = w.heap.size := (by omega)) | (go_at_call 20; (with_reducible refine (KI.out _ _ _ ?hI).mono ?_); (case hI => first | exact own_ints oa HI0.out.2.1 hb0 | exact own_ints (oa.alloc (.cells #[.string ⟨#[]⟩, .int .i64 0] 37)) HI0.out.2.1 hb0); rintro e xc ⟨vv0, rfl, oo0, bf⟩; obtain ⟨aw0, cw0, rfl⟩ := own_form oo0; have yxc := bf.size; (try simp at yxc); (first | (have hG := (bf.block _ hG.lt).trans hG) | (have hG := (bf.block _ (Has.fresh xb 37 #[.string ⟨#[]⟩, .int .i64 0]).lt).trans (Has.fresh xb 37 #[.string ⟨#[]⟩, .int .i64 0])) | skip); (try (replace hG : Has xc _ _ _ := hG; have hq0 := hG.cell 0; have hq1 := hG.cell 1; have hr0 := hG.free 0; have hr1 := hG.free 1; simp at hq0 hq1; have hGl := hG.lt)); (first | (replace hA : Has xc _ _ _ := (bf.block _ hA.lt).trans hA) | (replace hA : Has xc _ _ _ := (bf.block _ (hA.alloc (.cells #[.string ⟨#[]⟩, .int .i64 0] 37)).lt).trans (hA.alloc (.cells #[.string ⟨#[]⟩, .int .i64 0] 37)))); (first | (replace bc : Below W15.heap.size W15 xc := bel_then bf bc.size ⟨bc.os, bc.tape, bc.output, bc.size, bc.block⟩) | (replace bc : Below W15.heap.size W15 xc := bel_then bf (bc.alloc bc.size (.cells #[.string ⟨#[]⟩, .int .i64 0] 37)).size ⟨(bc.alloc bc.size (.cells #[.string ⟨#[]⟩, .int .i64 0] 37)).os, (bc.alloc bc.size (.cells #[.string ⟨#[]⟩, .int .i64 0] 37)).tape, (bc.alloc bc.size (.cells #[.string ⟨#[]⟩, .int .i64 0] 37)).output, (bc.alloc bc.size (.cells #[.string ⟨#[]⟩, .int .i64 0] 37)).size, (bc.alloc bc.size (.cells #[.string ⟨#[]⟩, .int .i64 0] 37)).block⟩)); have x0 := hA.cell 0; have x1 := hA.cell 1; simp at x0 x1; have lA := hA.lt; have nxc1 : ¬ w.heap.size = xc.heap.size := (by omega); have nxc2 : ¬ xc.heap.size = w.heap.size := (by omega)))
      all_goals
        go_wp2
        go_meet
        first
        | exact ⟨_, _, _, rfl, rfl, rfl, Joins.ownsRow_le (oo0.alloc _) (by (try simp); (try omega)), Has.fresh _ _ _, (by (try simp); (try omega)), bc.alloc bc.size _⟩
        | exact ⟨_, _, _, rfl, rfl, rfl, Joins.ownsRow_le (own_away (own_away oo0 (p := ⟨_, 0, none⟩) (by (try simp); (try omega)) _) (p := ⟨_, 1, none⟩) (by (try simp); (try omega)) _) (by (try simp); (try omega)), (by simpa using (hG.store 0 (.string t1)).store 1 (.int .i64 r1)), (by (try simp); (try omega)), (bc.setCell (p := ⟨_, 0, none⟩) (by (try simp); (try omega)) _).setCell (p := ⟨_, 1, none⟩) (by (try simp); (try omega)) _⟩
    case rest =>
      obtain ⟨ah0, ch0, gh1, rfl, rfl, rfl, o0_16, h1_16, l1_16, b16⟩ := hcut
      obtain ⟨W16, hW16⟩ : ∃ W, W = wc := ⟨_, rfl⟩
      rw [← hW16] at o0_16 h1_16 b16 ⊢
      clear hW16 hA x0 x1 lA n0a n0b bc KT KD
      have B16 : Below w.heap.size w W16 := bel_then b16 B15.size B15
      have sB16 := b16.size
      have HA_16 := hidden (HA_15.out.below b16 HA_15.out.lt)
      clear HA_15
      have Yw0_16 := hidden (own_bel Yw0_15.out b16)
      clear Yw0_15
      have Hw1_16 := hidden (Hw1_15.out.below b16 Hw1_15.out.lt)
      clear Hw1_15
      have Yg0_16 := hidden (own_bel Yg0_15.out b16)
      clear Yg0_15
      have Hg1_16 := hidden (Hg1_15.out.below b16 Hg1_15.out.lt)
      clear Hg1_15
      have Yh0 := hidden o0_16
      have Qh0 := own_ranged o0_16
      clear o0_16
      have Hh1 := hidden h1_16
      have ltHh1 := h1_16.lt
      clear h1_16
      clear b16
      go_wp2_with fail
      refine (eq_e _ _ _ _ y0 W16 HY0.out (own_ints Yh0.out HR0.out hm0) (own_ints Yw0_16.out HR0.out hm0)).mono ?_
      rintro e W17 ⟨rfl, b17⟩
      have B17 : Below w.heap.size w W17 := bel_then b17 B16.size B16
      have sB17 := b17.size
      have HA_17 := hidden (HA_16.out.below b17 HA_16.out.lt)
      clear HA_16
      have Yw0_17 := hidden (own_bel Yw0_16.out b17)
      clear Yw0_16
      have Hw1_17 := hidden (Hw1_16.out.below b17 Hw1_16.out.lt)
      clear Hw1_16
      have Yg0_17 := hidden (own_bel Yg0_16.out b17)
      clear Yg0_16
      have Hg1_17 := hidden (Hg1_16.out.below b17 Hg1_16.out.lt)
      clear Hg1_16
      have Yh0_17 := hidden (own_bel Yh0.out b17)
      clear Yh0
      have Hh1_17 := hidden (Hh1.out.below b17 Hh1.out.lt)
      clear Hh1
      clear b17
      have e17_Hh1a := Hh1_17.out.cell 0
      have e17_Hh1b := Hh1_17.out.cell 1
      simp at e17_Hh1a e17_Hh1b
      have e17_Hw1a := Hw1_17.out.cell 0
      have e17_Hw1b := Hw1_17.out.cell 1
      simp at e17_Hw1a e17_Hw1b
      go_wp2_with fail
      refine (eqRd_e t1 r1 W17).mono ?_
      rintro e W18 ⟨rfl, b18⟩
      clear e17_Hh1a e17_Hh1b e17_Hw1a e17_Hw1b
      have B18 : Below w.heap.size w W18 := bel_then b18 B17.size B17
      have sB18 := b18.size
      have HA_18 := hidden (HA_17.out.below b18 HA_17.out.lt)
      clear HA_17
      have Yw0_18 := hidden (own_bel Yw0_17.out b18)
      clear Yw0_17
      have Hw1_18 := hidden (Hw1_17.out.below b18 Hw1_17.out.lt)
      clear Hw1_17
      have Yg0_18 := hidden (own_bel Yg0_17.out b18)
      clear Yg0_17
      have Hg1_18 := hidden (Hg1_17.out.below b18 Hg1_17.out.lt)
      clear Hg1_17
      have Yh0_18 := hidden (own_bel Yh0_17.out b18)
      clear Yh0_17
      have Hh1_18 := hidden (Hh1_17.out.below b18 Hh1_17.out.lt)
      clear Hh1_17
      clear b18
      go_wp2_with fail
      refine (held_e _ W18 Yg0_18.out hm0).mono ?_
      rintro e _ ⟨rfl, rfl⟩
      go_wp2
      go_ret
      exact ⟨rfl, B18⟩
set_option maxRecDepth 100000 in
theorem walk_FnExactGetSyms (hM : MeetsGetSyms) (w : World) (a0 : Option Addr) (len0 cap0 : Nat) (z0 : List Int) (w0 : IsRow .i64 w a0 len0 cap0 z0) (s1 : ByteArray) (a1 : Int) (w1 : s1.size ≤ maxLen) (b1 : -9223372036854775808 ≤ a1) (d1 : a1 ≤ 9223372036854775807) (a2 : Int) (b2 : -9223372036854775808 ≤ a2) (d2 : a2 ≤ 9223372036854775807) :
    Calls Try.prog 11 #[.slice a0 len0 cap0, .agg #[.string s1, .int .i64 a1], .int .i64 a2] w fun e w' => e = .returned (.bool true) ∧ Below w.heap.size w w' := by
  have hl0 := isrow_lenE w0
  by_cases hb0 : len0 ≤ 1048576
  rotate_left
  · have hx : (1048576 : Int) < (len0 : Int) := by omega
    clear hM
    go_enter Try.func11, Try.ntmps11
    go_wp2
    go_ret
    first | exact ⟨rfl, Below.refl _ _⟩ | exact ⟨rfl, (Below.refl _ _).alloc (Nat.le_refl _) _⟩
  by_cases hb1 : s1.size ≤ 1048576
  rotate_left
  · have hx : 1048576 < s1.size := by omega
    have hx0 : ¬ (1048576 : Int) < (len0 : Int) := by omega
    have c0 := (Has.fresh w 47 #[.string s1, .int .i64 a1]).cell 0
    have c1 := (Has.fresh w 47 #[.string s1, .int .i64 a1]).cell 1
    simp at c0 c1
    clear hM
    go_enter Try.func11, Try.ntmps11
    go_wp2_with fail
    refine (szRd_no s1 a1 1048576 _ hx w1 (Nat.le_refl _)).mono ?_
    rintro e w1 ⟨rfl, b1⟩
    go_wp2
    go_ret
    exact ⟨rfl, bel_then b1 (by simp) ((Below.refl _ _).alloc (Nat.le_refl _) _)⟩
  obtain ⟨y0', hl0', hI0⟩ := Ints.ofRowE w0 hb0
  obtain ⟨y0, t1, r1, r2, ⟨hm0, hr0⟩, hs, hi⟩ := hM y0' s1 a1 a2 (by rw [hl0']; exact hb0) hI0.2.1 hb1 b1 d1 b2 d2
  rw [hl0'] at hs hi
  exact in_FnExactGetSyms w a0 len0 cap0 y0' (hidden hI0) (hidden hl0') hb0 s1 a1 hb1 b1 d1 a2 b2 d2 y0 t1 r1 r2 _ (hidden rfl) hm0 (hidden hr0) (hidden hs) (hidden hi)
end Go.Proofs.Ytdfbpmkdmpdobaa
