/- The walk of the exact law of WayOk (what is asked: MeetsF). -/
import Derived.Test.YtembljihmnmmfaaExA
import Derived.Test.YtembljihmnmmfaaWay
namespace Go.Proofs.Ytembljihmnmmfaa
set_option linter.unusedVariables false
set_option linter.unusedSimpArgs false
open Go.RowKit Go.ChangeShapes Go.WideShapes Go.ChangeAt

/-- For all arguments in bounds the model and the program answer the same. -/
def MeetsWayOk : Prop := ∀ (wm0 : Int) (wb0 : Bool) (wt0 : Int), -9223372036854775808 ≤ wm0 → wm0 ≤ 9223372036854775807 → -9223372036854775808 ≤ wt0 → wt0 ≤ 9223372036854775807 → ∃ (r0 : Bool), (∀ (W : World), Calls Try.prog 4 #[.agg #[.int .i64 wm0, .bool wb0, .int .i64 wt0]] W fun e w' => e = .returned (.bool r0) ∧ Below W.heap.size W w') ∧ (∀ (W : World), Calls Try.prog 6 #[.agg #[.int .i64 wm0, .bool wb0, .int .i64 wt0]] W fun e w' => e = .returned (.bool r0) ∧ Below W.heap.size W w')
set_option maxHeartbeats 4000000 in
set_option maxRecDepth 100000 in
theorem in_FnExactWayOk (w : World) (wm0 : Int) (wb0 : Bool) (wt0 : Int) (b0 : -9223372036854775808 ≤ wm0) (d0 : wm0 ≤ 9223372036854775807) (bt0 : -9223372036854775808 ≤ wt0) (dt0 : wt0 ≤ 9223372036854775807) (r0 : Bool)
    (KS : Hid (∀ (W : World), Calls Try.prog 4 #[.agg #[.int .i64 wm0, .bool wb0, .int .i64 wt0]] W fun e w' => e = .returned (.bool r0) ∧ Below W.heap.size W w'))
    (KI : Hid (∀ (W : World), Calls Try.prog 6 #[.agg #[.int .i64 wm0, .bool wb0, .int .i64 wt0]] W fun e w' => e = .returned (.bool r0) ∧ Below W.heap.size W w')) :
    Calls Try.prog 3 #[.agg #[.int .i64 wm0, .bool wb0, .int .i64 wt0]] w fun e w' => e = .returned (.bool true) ∧ Below w.heap.size w w' := by
  go_enter Try.func3, Try.ntmps3
  obtain ⟨N1, hN1⟩ : ∃ N, N = (w.alloc (.cells #[.int .i64 wm0, .bool wb0, .int .i64 wt0] 23)) := ⟨_, rfl⟩
  have hb1_ : Below w.heap.size w N1 := by rw [hN1]; exact (Below.refl _ _).alloc (Nat.le_refl _) _
  have HA : Hid (Has N1 w.heap.size 23 #[.int .i64 wm0, .bool wb0, .int .i64 wt0]) := hidden (by rw [hN1]; exact Has.fresh _ _ _)
  have lHA := HA.out.lt
  have e1_HAa := HA.out.cell 0
  have e1_HAb := HA.out.cell 1
  have e1_HAc := HA.out.cell 2
  simp at e1_HAa e1_HAb e1_HAc
  go_wp2_with fail
  rw [← hN1]
  refine (toWay_e wm0 wb0 wt0 N1).mono ?_
  rintro e W2 ⟨rfl, b2⟩
  clear e1_HAa e1_HAb e1_HAc hN1
  have B2 : Below w.heap.size w W2 := bel_then b2 hb1_.size hb1_
  have sB2 := b2.size
  have HA_2 := hidden (HA.out.below b2 HA.out.lt)
  clear HA
  clear b2
  go_wp2_with fail
  refine (KS.out W2  ).mono ?_
  rintro e W3 ⟨rfl, b3⟩
  have B3 : Below w.heap.size w W3 := bel_then b3 B2.size B2
  have sB3 := b3.size
  have HA_3 := hidden (HA_2.out.below b3 HA_2.out.lt)
  clear HA_2
  clear b3
  have e3_HAa := HA_3.out.cell 0
  have e3_HAb := HA_3.out.cell 1
  have e3_HAc := HA_3.out.cell 2
  simp at e3_HAa e3_HAb e3_HAc
  go_wp2_with fail
  refine (toWay_e wm0 wb0 wt0 W3).mono ?_
  rintro e W4 ⟨rfl, b4⟩
  clear e3_HAa e3_HAb e3_HAc
  have B4 : Below w.heap.size w W4 := bel_then b4 B3.size B3
  have sB4 := b4.size
  have HA_4 := hidden (HA_3.out.below b4 HA_3.out.lt)
  clear HA_3
  clear b4
  go_wp2_with fail
  refine (KI.out W4  ).mono ?_
  rintro e W5 ⟨rfl, b5⟩
  have B5 : Below w.heap.size w W5 := bel_then b5 B4.size B4
  have sB5 := b5.size
  have HA_5 := hidden (HA_4.out.below b5 HA_4.out.lt)
  clear HA_4
  clear b5
  go_wp2
  go_ret
  exact ⟨rfl, B5⟩
set_option maxRecDepth 100000 in
theorem walk_FnExactWayOk (hM : MeetsWayOk) (w : World) (wm0 : Int) (wb0 : Bool) (wt0 : Int) (b0 : -9223372036854775808 ≤ wm0) (d0 : wm0 ≤ 9223372036854775807) (bt0 : -9223372036854775808 ≤ wt0) (dt0 : wt0 ≤ 9223372036854775807) :
    Calls Try.prog 3 #[.agg #[.int .i64 wm0, .bool wb0, .int .i64 wt0]] w fun e w' => e = .returned (.bool true) ∧ Below w.heap.size w w' := by
  obtain ⟨r0, hs, hi⟩ := hM wm0 wb0 wt0 b0 d0 bt0 dt0
  exact in_FnExactWayOk w wm0 wb0 wt0 b0 d0 bt0 dt0 r0  (hidden hs) (hidden hi)
end Go.Proofs.Ytembljihmnmmfaa
