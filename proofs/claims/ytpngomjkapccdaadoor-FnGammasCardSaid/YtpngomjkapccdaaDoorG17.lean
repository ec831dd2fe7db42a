/- Texts of one reach, one behind the other: E6. What each is about stands in its theorems. -/
import Derived.Test.YtpngomjkapccdaaDoorG1
import Derived.Test.YtpngomjkapccdaaDoorChecked
import Derived.LaidEql
import Derived.RowKitTokens
import Derived.Stop.Asserts
namespace Go.Proofs.YtpngomjkapccdaaDoor
set_option linter.unusedVariables false
open Go.RowKit Go.Extern

/-! What the library's type handle says of the sentinel's type, and which methods the two types have. -/
theorem te_typeOf (v : Value) (w : World) : (Extern.ReflectliteType.typeOf #[.iface 100 v]).run Tryd.prog w = .ok (.iface 88 (.agg #[.pointer (some ⟨1, 100, none⟩)])) w := by kernel_rfl
def teComp : Array Value → Sem Value := Extern.ReflectliteType.method fun t => do _root_.Go.Extern.Rtype.noPackHeld "Comparable" t; pure (.bool (← typeInfo t).comparable)
theorem te_comparable (w : World) : (teComp #[.agg #[.pointer (some ⟨1, 100, none⟩)]]).run Tryd.prog w = .ok (.bool true) w := by kernel_rfl
theorem te_method (v : Value) (w : World) : (Go.method 237 88 v "Comparable").run Tryd.prog w = .ok (69, v) w := by kernel_rfl
theorem te_info : (Tryd.prog.info? 100).map (·.comparable) = some true := by kernel_rfl
theorem te_size : (Tryd.prog.info? 125).map (·.size) = some 1 := by kernel_rfl
theorem me_noIs (v : Value) (xT : TypeId) (w : World) : (Instr.typeAssert (.iface 86 v) xT 90 true).run Tryd.prog w = .ok (.tuple #[.nilIface, .bool false]) w :=
  run_typeAssert_lacksB Tryd.underlying90 (by kernel_rfl) (by kernel_rfl) v xT w
theorem me_unwrap (v : Value) (xT : TypeId) (w : World) : (Instr.typeAssert (.iface 86 v) xT 93 true).run Tryd.prog w = .ok (.tuple #[.iface 86 v, .bool true]) w :=
  run_typeAssert_hasB Tryd.underlying93 (by kernel_rfl) v xT w
theorem me_method (v : Value) (w : World) : (Go.method 237 86 v "Unwrap").run Tryd.prog w = .ok (65, v) w := by kernel_rfl

theorem is_none (a : Addr) (w : World) :
    Calls Tryd.prog 28 #[.nilIface, .iface 100 (.pointer (some a))] w fun e w' => e = .returned (.bool false) ∧ w' = w := by
  have hn := run_eql_iface_nil_left (P := Tryd.prog) w 100 (.pointer (some a)) Tryd.underlying57
  go_enter Tryd.func28, Tryd.ntmps28
  go_wp2
  go_ret
  exact ⟨rfl, rfl⟩
theorem unwrap_any (m : Int) (a : Addr) (w : World) (h : 0 < w.heap.size) (hc : w.cell? ⟨0, 0, none⟩ = some (.iface 100 (.pointer (some a)))) :
    Calls Tryd.prog 65 #[.agg #[.int .i64 m]] w fun e w' => e = .returned (.iface 100 (.pointer (some a))) ∧ Below w.heap.size w w' := by
  go_enter Tryd.func65, Tryd.ntmps65
  go_wp2
  go_ret
  exact ⟨rfl, (Below.refl _ _).alloc (Nat.le_refl _) _⟩
set_option maxHeartbeats 2000000 in
set_option maxRecDepth 100000 in
theorem is_missing (m : Int) (a : Addr) (w : World) (h : 0 < w.heap.size) (hc : w.cell? ⟨0, 0, none⟩ = some (.iface 100 (.pointer (some a)))) :
    Calls Tryd.prog 39 #[.iface 86 (.agg #[.int .i64 m]), .iface 100 (.pointer (some a)), .bool true] w fun e w' => e = .returned (.bool true) ∧ Below w.heap.size w w' := by
  obtain ⟨i, hi, hcmp⟩ := Option.map_eq_some_iff.1 te_info
  obtain ⟨j, hj, _⟩ := Option.map_eq_some_iff.1 te_size
  have nI := me_noIs
  have hU := me_unwrap
  have mU := me_method
  have KU := hidden (unwrap_any m a w h hc)
  have heq := fun W : World => run_eql_iface_ptr_same (P := Tryd.prog) W a Tryd.underlying57 Tryd.underlying100 hi hcmp hj
  have hty := fun W : World => run_eql_iface_types (P := Tryd.prog) 86 100 (.agg #[.int .i64 m]) (.pointer (some a)) Tryd.underlying57 (by decide) W
  clear hc
  go_enter Tryd.func39, Tryd.ntmps39
  go_wp2
  refine wp_loop_rounds 2 ?_
  rw [rounds_succ]
  go_wp2_with fail
  refine KU.out.mono ?_
  rintro e w1 ⟨rfl, b1⟩
  go_wp2
  rw [rounds_succ]
  go_wp2
  go_ret
  exact ⟨rfl, b1⟩
set_option maxRecDepth 100000 in
theorem is_wraps (m : Int) (a : Addr) (w : World) (h : 0 < w.heap.size) (hc : w.cell? ⟨0, 0, none⟩ = some (.iface 100 (.pointer (some a)))) :
    Calls Tryd.prog 28 #[.iface 86 (.agg #[.int .i64 m]), .iface 100 (.pointer (some a))] w fun e w' => e = .returned (.bool true) ∧ Below w.heap.size w w' := by
  have hf := @run_callFunc_extern Tryd.prog 38 _ Extern.ReflectliteType.typeOf Tryd.func38 (by kernel_rfl) (by kernel_rfl) (by kernel_rfl) (by kernel_rfl)
  have hg := @run_callFunc_extern Tryd.prog 69 _ teComp Tryd.func69 (by kernel_rfl) (by kernel_rfl) (by kernel_rfl) (by kernel_rfl)
  have tT := te_typeOf
  have cT := te_comparable
  have mR := te_method
  have K := hidden (is_missing m a w h hc)
  clear hc
  go_enter Tryd.func28, Tryd.ntmps28
  go_wp2_with fail
  refine K.out.mono ?_
  rintro e w1 ⟨rfl, b1⟩
  go_wp2
  go_ret
  exact ⟨rfl, b1⟩
end Go.Proofs.YtpngomjkapccdaaDoor
