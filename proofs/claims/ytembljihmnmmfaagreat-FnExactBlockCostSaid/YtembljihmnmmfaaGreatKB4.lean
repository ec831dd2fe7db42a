/- Texts of the proof, merged. -/
import Derived.RegionTactic
import Derived.ChangeAlike
import Derived.Deep.QuietTactic
import Derived.BigQuiet
import Derived.Deep.RegionWith
import Derived.Test.YtembljihmnmmfaaGreatKB2
namespace Go.Proofs.YtembljihmnmmfaaGreat
set_option linter.unusedVariables false
set_option linter.unusedSimpArgs false
open Go.RowKit
def upN (a:Nat):Nat:=(8-a % 8) % 8
theorem AFd (n:Int) (w:World) (b1:-9223372036854775808≤n) (b2:n≤9223372036854775807) :
 Calls Tryz.prog 74 #[.int .i64 n] w fun e w'=>e=.returned (.int .i64 ((-n) % 8))∧w=w':=by
 have h:=ASz (wrap64 (-n)) 3 (by omega)
 have h2:wrap64 (-n) % 8=(-n) % 8:=by unfold wrap64;omega
 have H:Hid (bits .and .i64 (wrap64 (-n)) 7=(-n) % 8):=Qa (by rw [←h2];simpa using h)
 clear h h2
 go_enter Tryz.func74,Tryz.ntmps74
 go_wp2
 go_ret
 exact ⟨QN H.out,rfl⟩
theorem AGp (a:Nat) (w:World) (h:a<9223372036854775808) :
 Calls Tryz.prog 74 #[.int .i64 a] w fun e w'=>e=.returned (.int .i64 (upN a))∧w=w' :=
 (AFd a w (by omega) (by omega)).mono fun _ _ ⟨he,hw⟩=>⟨he.trans (QN (by unfold upN;omega)),hw⟩
end Go.Proofs.YtembljihmnmmfaaGreat
