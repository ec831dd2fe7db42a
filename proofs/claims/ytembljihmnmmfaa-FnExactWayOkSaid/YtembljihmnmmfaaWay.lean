/- Chapter 13: the laws' own ways: as the program's, and how one that is handed in is opened. -/
import Derived.Test.YtembljihmnmmfaaExA
import Derived.OpenShut
import Derived.Lib.SmallJoins
namespace Go.Proofs.Ytembljihmnmmfaa
set_option linter.unusedVariables false
set_option linter.unusedSimpArgs false
open Go.ChangeShapes Go.WideShapes Go.ChangeAt Go.RowKit Go.Joins Go.Deep

theorem toWay_e (m : Int) (b : Bool) (t : Int) (w : World) :
    Calls Try.prog 5 #[.agg #[.int .i64 m, .bool b, .int .i64 t]] w fun e w' => e = .returned (.agg #[.int .i64 m, .bool b, .int .i64 t]) ∧ Below w.heap.size w w' := by
  go_enter Try.func5, Try.ntmps5
  go_wp2
  refine bodyPost_ret (v := .agg #[.int .i64 m, .bool b, .int .i64 t]) (by simp [results, Try.results5, go_sem]) rfl ⟨rfl, ?_⟩
  repeat (first | exact Below.refl _ _ | refine Below.alloc ?_ (by (try simp); (try omega)) _ | refine Below.setCell ?_ (by (try simp); (try omega)) _ | refine Below.drew ?_)
theorem open_ibi {H : Type} {enc : TypeId × Value → H} {P : Program} {w : World} {base : Nat} {spare : Nat → Bool} {held : Bool} {r : Reach} {b0 : Nat} {t : TypeId} {v : Value} {d : DataW H} {p : List MemPlace}
    {f0 f1 f2 : Field} (hs : P.underlying t = some (.struct #[f0, f1, f2])) (hone : oneCellFields P #[f0, f1, f2] = true) (hC : P.cellsOf t = 3) (e0 : P.underlying f0.type = some (.int .i64)) (e1 : P.underlying f1.type = some .bool) (e2 : P.underlying f2.type = some (.int .i64))
    (hv : Value.okWide P w r b0 t v) (h : DataW.Trod enc P w base spare held t v d p) :
    ∃ (m : Int) (b : Bool) (n : Int), v = .agg #[.int .i64 m, .bool b, .int .i64 n] ∧ (Lit.int .i64 m).wf = true ∧ (Lit.int .i64 n).wf = true := by
  obtain ⟨c0, c1, c2, y0, y1, y2, k, rfl, _, _, hy0, hy1, hy2⟩ := Joins.open_agg3 hs hone hC hv h
  obtain ⟨m, q0, _, wm⟩ := DataW.trod_int e0 hy0
  obtain ⟨b, q1, _⟩ := DataW.trod_bool e1 hy1
  obtain ⟨n, q2, _, wn⟩ := DataW.trod_int e2 hy2
  simp at q0 q1 q2
  subst q0 q1 q2
  exact ⟨m, b, n, rfl, wm, wn⟩
end Go.Proofs.Ytembljihmnmmfaa
