/- Chapter 7: the model and the program answer the same: GetUsed. -/
import Derived.Test.YtabhbijohjemiaaWExGetUsed
import Derived.Test.YtabhbijohjemiaaI7U
import Derived.Test.YtabhbijohjemiaaM7G
namespace Go.Proofs.Ytabhbijohjemiaa
set_option linter.unusedVariables false
set_option linter.unusedSimpArgs false
open Go.RowKit

theorem implGetUsed_no (s : ByteArray) (at0 : Int) (w : World) (hs : s.size ≤ 1048576) (b1 : -9223372036854775808 ≤ at0) (b2 : at0 ≤ 9223372036854775807) (h : ¬ (0 ≤ at0 ∧ at0 ≤ 8 * s.size)) :
    Calls Try.prog 19 #[.agg #[.string s, .int .i64 at0]] w fun e w' => e = .returned (.tuple #[.string ⟨#[]⟩, .agg #[.string ⟨#[]⟩, .int .i64 0], .bool false]) ∧ Below w.heap.size w w' := by
  have bb : Below w.heap.size w ((w.alloc (.cells #[.string s, .int .i64 at0] 30)).alloc (.cells #[.string ⟨#[]⟩, .int .i64 0] 30)) := ((Below.refl _ _).alloc (Nat.le_refl _) _).alloc (by simp) _
  have hR := (Has.fresh w 30 #[.string s, .int .i64 at0]).alloc (.cells #[.string ⟨#[]⟩, .int .i64 0] 30)
  have hS := Has.freshAt (w := w.alloc (.cells #[.string s, .int .i64 at0] 30)) (g := w.heap.size + 1) (by simp) 30 #[.string ⟨#[]⟩, .int .i64 0]
  have K1 := hidden (fun W : World => getPlaces_no s at0 W hs b1 b2 (fun h2 => h ⟨h2.1, by omega⟩))
  clear h
  go_enter Try.func19, Try.ntmps19
  go_wp2_with fail
  refine (K1.out _).mono ?_
  rintro e w2 ⟨rfl, b2⟩
  replace bb := bel_then b2 bb.size bb
  replace hR := hR.below b2 hR.lt
  replace hS := hS.below b2 hS.lt
  have hs2 := bb.size
  have hRl := hR.lt
  have hSl := hS.lt
  have r0 := hR.cell 0
  have r1 := hR.cell 1
  have q0 := hR.free 0
  have q1 := hR.free 1
  have e0 := hS.cell 0
  have e1 := hS.cell 1
  have g0 := hS.free 0
  have g1 := hS.free 1
  simp at r0 r1 e0 e1
  clear b2 hR hS
  go_wp2
  refine bodyPost_ret (v := .tuple #[.string ⟨#[]⟩, .agg #[.string ⟨#[]⟩, .int .i64 0], .bool false]) (by simp [results, Try.results19, go_sem, e0, e1, g0, g1]) rfl ⟨rfl, ?_⟩
  repeat (first | exact Below.refl _ _ | assumption | refine Below.alloc ?_ (by (try simp); (try omega)) _ | refine Below.setCell ?_ (by (try simp); (try omega)) _ | refine Below.drew ?_ | refine bel_then (by assumption) (by (try simp); (try omega)) ?_)
theorem meetsGetUsed : MeetsGetUsed := fun s0 a0 hs b1 b2 => by
  by_cases h : 0 ≤ a0 ∧ a0 ≤ 8 * s0.size
  · obtain ⟨q, rfl⟩ : ∃ q : Nat, a0 = q := ⟨a0.toNat, by omega⟩
    cases hG : getU s0 q with
    | some r =>
      obtain ⟨u, p⟩ := r
      exact ⟨strOf u, s0, (p : Int), true, fun W => (specGetUsed_any s0 q W hs (by omega)).mono fun e w' hp => gg7_yes hp hG, fun W => (implGetUsed_any s0 q W hs (by omega)).mono fun e w' hp => gg7_yes hp hG⟩
    | none => exact ⟨⟨#[]⟩, ⟨#[]⟩, 0, false, fun W => (specGetUsed_any s0 q W hs (by omega)).mono fun e w' hp => gg7_no hp hG, fun W => (implGetUsed_any s0 q W hs (by omega)).mono fun e w' hp => gg7_no hp hG⟩
  · exact ⟨⟨#[]⟩, ⟨#[]⟩, 0, false, fun W => specGetUsed_no s0 a0 W hs b1 b2 h, fun W => implGetUsed_no s0 a0 W hs b1 b2 h⟩
end Go.Proofs.Ytabhbijohjemiaa
