/- Texts of the proof, merged. -/
import Derived.Shelf.Small.Strs
import Derived.Shelf.Strings.Shaped
import Derived.Shelf.Vars
import Derived.Test.YtembljihmnmmfaaGreatKS4
namespace Go.Proofs.YtembljihmnmmfaaGreat
set_option linter.unusedVariables false
set_option linter.unusedSimpArgs false
open Go.RowKit Go.Shelf

def rhoCompare : Ren := ⟨fun n => match n with | 106 => 172 | 213 => 191 | 265 => 202 | n => n,
  fun n => match n with | 3 => 3 | 9 => 9 | n => n, fun n => n⟩
set_option maxRecDepth 100000 in
theorem laysCompare : Lays.n106 Tryz.prog rhoCompare where
  mixed := by kernel_rfl
  f106 := by kernel_rfl
  f213 := by kernel_rfl
  f265 := by kernel_rfl
  t3 := by kernel_rfl
  a3 := fun w => by kernel_rfl
  z3 := fun w => by kernel_rfl
  v3 := fun w => by kernel_rfl
  t9 := by kernel_rfl
  a9 := fun w => by kernel_rfl
  z9 := fun w => by kernel_rfl
  v9 := fun w => by kernel_rfl
theorem compare10_any (a b : ByteArray) (w : World) : Calls Tryz.prog 172 #[.string a, .string b] w fun e w' => e = .returned (.int .i64 (Lib.compareBytes a.data.toList b.data.toList)) ∧ w = w' :=
  (Any.strings_Compare laysCompare a b w).mono fun _ _ h => ⟨h.1, h.2.symm⟩
end Go.Proofs.YtembljihmnmmfaaGreat
