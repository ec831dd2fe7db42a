/- Texts of one reach, one behind the other: SentL. What each is about stands in its theorems. -/
import Derived.Test.YtpngomjkapccdaaDoorRows
import Derived.Test.YtpngomjkapccdaaDoorG1
import Derived.LaidMore
import Derived.MakeChecks
import Derived.Stop.LaidErr
namespace Go.Proofs.YtpngomjkapccdaaDoor
open Go.ChangeShapes Go.WideShapes Go.ChangeAt Go.RowKit
set_option linter.unusedVariables false

abbrev laidL : List (String × DataW Unit) := [("loop.example/g00674/impl.errMissing", Rows.laid_loop_example_g00674_impl_errMissing)]
theorem gErr : Tryd.prog.globalNamed "loop.example/g00674/impl.errMissing" = some 0 := by kernel_rfl
theorem gErrType : (Tryd.prog.globals[0]?).map (·.type) = some 57 := by kernel_rfl
theorem starE : "*" ++ "errors.errorString" = "*errors.errorString" := by decide
theorem rowE (u : TypeId) (h : Tryd.prog.typeName? 3 u = some "*errors.errorString") : u = 100 :=
  typeName_ptr_named (nm := "errors.errorString") (by rw [starE]; kernel_rfl) (by kernel_rfl) (by decide) u (by rw [starE]; exact h)
theorem cellsE : Tryd.prog.cellsOf 125 = 1 := by kernel_rfl
theorem cellsS : Tryd.prog.cellsOf 9 = 1 := by kernel_rfl
/-- What the condition gives. -/
theorem sent_of_laid {W : World} (h : laidMetH Tryd.prog laidL W) : ∃ a : Addr, W.var? Tryd.prog "loop.example/g00674/impl.errMissing" = some #[.iface 100 (.pointer (some a))] ∧ Sent W := by
  rw [MakeChecks.laidMetH_plain _ _ _ (by kernel_rfl)] at h
  obtain ⟨a, s, hv, _, _, _⟩ := laid_sentinel h gErr gErrType Tryd.underlying57 rowE Tryd.underlying100 Tryd.underlying125 rfl rfl Tryd.underlying9 cellsE cellsS
  have hc : W.cell? ⟨0, 0, none⟩ = some (.iface 100 (.pointer (some a))) := by simpa using World.var?_cell gErr hv 0
  exact ⟨a, hv, Nat.lt_of_le_of_lt (Nat.zero_le _) (World.block_lt_of_cell? _ _ hc), a, hc⟩
/-- The variable, behind a call that turns nothing of what was there. -/
theorem var_below {W W' : World} {cs : Array Value} (hb : Below W.heap.size W W') (h0 : 0 < W.heap.size) (h : W.var? Tryd.prog "loop.example/g00674/impl.errMissing" = some cs) : W'.var? Tryd.prog "loop.example/g00674/impl.errMissing" = some cs := by
  unfold World.var? at h ⊢
  rw [gErr] at h ⊢
  simp only [Option.bind_some] at h ⊢
  rw [hb.block 0 h0]
  exact h
theorem var_read {H : Type} (enc : TypeId × Value → H) {W : World} {x : Value} (h : W.var? Tryd.prog "loop.example/g00674/impl.errMissing" = some #[x]) (ix : IsIface x) (sp : Nat → Bool) :
    DataW.TrodVars enc Tryd.prog W sp ["loop.example/g00674/impl.errMissing"] [tok enc x] [.cell 0 0] :=
  vars_read1 enc gErr gErrType Tryd.underlying57 h ix sp
theorem door_met (os : Os) (args : Array Value) : laidMetH Tryd.prog laidL ((World.doorLaid Tryd.prog 400 os).forCall (fun _ _ => 0) ⟨#[], args, []⟩).memory :=
  laidMetH_of_parts3 (fuel := 8) (laidMet_of_run' 8 (by kernel_rfl) (by kernel_rfl)) (by kernel_rfl) (by kernel_rfl)
end Go.Proofs.YtpngomjkapccdaaDoor
