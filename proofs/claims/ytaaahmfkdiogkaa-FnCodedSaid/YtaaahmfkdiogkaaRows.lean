/-
  No cell of these rows narrows 'for every input' (looked for: loops, veiled, ifaces, maps, wideKeys, modest, calm, conditions, laid).
  DERIVED. THE GIVEN ROWS OF THIS SEAT. 11 by the template 'for every input the law returns true; each argument reads behind the call as it read before'; 0 by the template 'total and deterministic' (their statements: YtaaahmfkdiogkaaTotals.lean).
  GIVEN WITH THE SEED: the statements are not yours to turn. If you find one false, say at which input.
  Laid BY PROGRAM, IN A SANDBOX (cutbox-rows.mjs): the forced cells as the released guide's own fill.sh prints them over the translation e56aa3166e604058… (all of the seat's roots in one cut). By AI agents, Wed Nov 11 2026. No macro, syntax, notation, axiom, sorry.
-/
import Derived.Test.YtaaahmfkdiogkaaChecked
import GoSem.Claim
import GoSem.ClaimJoined
import GoSem.ClaimMapViews
import Derived.JoinedTies
import Derived.KernelRfl
namespace Go.Proofs.Ytaaahmfkdiogkaa
/- THE CELL 'sum', in the pinned program and in every row, IS THE sha256 OF THE DUMP (.gsa) THAT YtaaahmfkdiogkaaProg.lean LOADS. Nothing in Lean hashes anything: it is a label: what it is worth is what the hold of that sum in a sandbox is worth. -/
noncomputable def Try.pinned : Pinned := { name := "ytaaahmfkdiogkaa", sum := "e56aa3166e604058464fdadda20ca89491061026bfb7f69daafffedd63e19232", checked := Try.checked }
namespace Rows
def none {H : Type} : Left H := { results := [], args := [] }

/-- 'laws.FnExactGroups': WHATEVER THE INPUT: true; the input reads as it did. -/
def fnExactGroupsSpec : ChangeSpec := { name := "fnExactGroups", fn := fun _ => fun
  | [d] => { results := [.lit (.bool true)], args := [d] }
  | _ => none }
def fnExactGroupsRow : OpenClaim := { program := "ytaaahmfkdiogkaa", sum := "e56aa3166e604058464fdadda20ca89491061026bfb7f69daafffedd63e19232", func := "loop.example/g00674/laws.FnExactGroups", spec := "fnExactGroups", plainKeys := false, apart := false }
def FnExactGroupsSaid : Prop := fnExactGroupsRow.holds Try.pinned (OpenSpec.ofChange fnExactGroupsSpec)

/-- ITS FALSE NEIGHBOUR: 'it returns false'. Refute it at one input. -/
def fnExactGroupsWrong : ChangeSpec := { name := "fnExactGroups", fn := fun _ => fun
  | [d] => { results := [.lit (.bool false)], args := [d] }
  | _ => none }
def FnExactGroupsWrongFalsely : Prop := fnExactGroupsRow.holds Try.pinned (OpenSpec.ofChange fnExactGroupsWrong)

/-- 'laws.FnExactChoose': WHATEVER THE INPUT: true; the input reads as it did. -/
def fnExactChooseSpec : ChangeSpec := { name := "fnExactChoose", fn := fun _ => fun
  | [d1, d2, d3] => { results := [.lit (.bool true)], args := [d1, d2, d3] }
  | _ => none }
def fnExactChooseRow : OpenClaim := { program := "ytaaahmfkdiogkaa", sum := "e56aa3166e604058464fdadda20ca89491061026bfb7f69daafffedd63e19232", func := "loop.example/g00674/laws.FnExactChoose", spec := "fnExactChoose", unfollowed := true, recurses := true, plainKeys := false, apart := false }
def FnExactChooseSaid : Prop := fnExactChooseRow.holds Try.pinned (OpenSpec.ofChange fnExactChooseSpec)

/-- ITS FALSE NEIGHBOUR: 'it returns false'. Refute it at one input. -/
def fnExactChooseWrong : ChangeSpec := { name := "fnExactChoose", fn := fun _ => fun
  | [d1, d2, d3] => { results := [.lit (.bool false)], args := [d1, d2, d3] }
  | _ => none }
def FnExactChooseWrongFalsely : Prop := fnExactChooseRow.holds Try.pinned (OpenSpec.ofChange fnExactChooseWrong)

/-- 'laws.FnExactTablesOk': WHATEVER THE INPUT: true; the input reads as it did. -/
def fnExactTablesOkSpec : ChangeSpec := { name := "fnExactTablesOk", fn := fun _ => fun
  | [d1, d2] => { results := [.lit (.bool true)], args := [d1, d2] }
  | _ => none }
def fnExactTablesOkRow : OpenClaim := { program := "ytaaahmfkdiogkaa", sum := "e56aa3166e604058464fdadda20ca89491061026bfb7f69daafffedd63e19232", func := "loop.example/g00674/laws.FnExactTablesOk", spec := "fnExactTablesOk", plainKeys := false, apart := false }
def FnExactTablesOkSaid : Prop := fnExactTablesOkRow.holds Try.pinned (OpenSpec.ofChange fnExactTablesOkSpec)

/-- ITS FALSE NEIGHBOUR: 'it returns false'. Refute it at one input. -/
def fnExactTablesOkWrong : ChangeSpec := { name := "fnExactTablesOk", fn := fun _ => fun
  | [d1, d2] => { results := [.lit (.bool false)], args := [d1, d2] }
  | _ => none }
def FnExactTablesOkWrongFalsely : Prop := fnExactTablesOkRow.holds Try.pinned (OpenSpec.ofChange fnExactTablesOkWrong)

/-- 'laws.FnExactPutSels': WHATEVER THE INPUT: true; the input reads as it did. -/
def fnExactPutSelsSpec : ChangeSpec := { name := "fnExactPutSels", fn := fun _ => fun
  | [d1, d2] => { results := [.lit (.bool true)], args := [d1, d2] }
  | _ => none }
def fnExactPutSelsRow : OpenClaim := { program := "ytaaahmfkdiogkaa", sum := "e56aa3166e604058464fdadda20ca89491061026bfb7f69daafffedd63e19232", func := "loop.example/g00674/laws.FnExactPutSels", spec := "fnExactPutSels", unfollowed := true, recurses := true, plainKeys := false, apart := false }
def FnExactPutSelsSaid : Prop := fnExactPutSelsRow.holds Try.pinned (OpenSpec.ofChange fnExactPutSelsSpec)

/-- ITS FALSE NEIGHBOUR: 'it returns false'. Refute it at one input. -/
def fnExactPutSelsWrong : ChangeSpec := { name := "fnExactPutSels", fn := fun _ => fun
  | [d1, d2] => { results := [.lit (.bool false)], args := [d1, d2] }
  | _ => none }
def FnExactPutSelsWrongFalsely : Prop := fnExactPutSelsRow.holds Try.pinned (OpenSpec.ofChange fnExactPutSelsWrong)

/-- 'laws.FnExactGetSels': WHATEVER THE INPUT: true; the input reads as it did. -/
def fnExactGetSelsSpec : ChangeSpec := { name := "fnExactGetSels", fn := fun _ => fun
  | [d1, d2, d3] => { results := [.lit (.bool true)], args := [d1, d2, d3] }
  | _ => none }
def fnExactGetSelsRow : OpenClaim := { program := "ytaaahmfkdiogkaa", sum := "e56aa3166e604058464fdadda20ca89491061026bfb7f69daafffedd63e19232", func := "loop.example/g00674/laws.FnExactGetSels", spec := "fnExactGetSels", unfollowed := true, recurses := true, plainKeys := false, apart := false }
def FnExactGetSelsSaid : Prop := fnExactGetSelsRow.holds Try.pinned (OpenSpec.ofChange fnExactGetSelsSpec)

/-- ITS FALSE NEIGHBOUR: 'it returns false'. Refute it at one input. -/
def fnExactGetSelsWrong : ChangeSpec := { name := "fnExactGetSels", fn := fun _ => fun
  | [d1, d2, d3] => { results := [.lit (.bool false)], args := [d1, d2, d3] }
  | _ => none }
def FnExactGetSelsWrongFalsely : Prop := fnExactGetSelsRow.holds Try.pinned (OpenSpec.ofChange fnExactGetSelsWrong)

/-- 'laws.FnExactPutCoded': WHATEVER THE INPUT: true; the input reads as it did. -/
def fnExactPutCodedSpec : ChangeSpec := { name := "fnExactPutCoded", fn := fun _ => fun
  | [d1, d2, d3] => { results := [.lit (.bool true)], args := [d1, d2, d3] }
  | _ => none }
def fnExactPutCodedRow : OpenClaim := { program := "ytaaahmfkdiogkaa", sum := "e56aa3166e604058464fdadda20ca89491061026bfb7f69daafffedd63e19232", func := "loop.example/g00674/laws.FnExactPutCoded", spec := "fnExactPutCoded", unfollowed := true, recurses := true, plainKeys := false, apart := false }
def FnExactPutCodedSaid : Prop := fnExactPutCodedRow.holds Try.pinned (OpenSpec.ofChange fnExactPutCodedSpec)

/-- ITS FALSE NEIGHBOUR: 'it returns false'. Refute it at one input. -/
def fnExactPutCodedWrong : ChangeSpec := { name := "fnExactPutCoded", fn := fun _ => fun
  | [d1, d2, d3] => { results := [.lit (.bool false)], args := [d1, d2, d3] }
  | _ => none }
def FnExactPutCodedWrongFalsely : Prop := fnExactPutCodedRow.holds Try.pinned (OpenSpec.ofChange fnExactPutCodedWrong)

/-- 'laws.FnExactCodedBits': WHATEVER THE INPUT: true; the input reads as it did. -/
def fnExactCodedBitsSpec : ChangeSpec := { name := "fnExactCodedBits", fn := fun _ => fun
  | [d1, d2, d3] => { results := [.lit (.bool true)], args := [d1, d2, d3] }
  | _ => none }
def fnExactCodedBitsRow : OpenClaim := { program := "ytaaahmfkdiogkaa", sum := "e56aa3166e604058464fdadda20ca89491061026bfb7f69daafffedd63e19232", func := "loop.example/g00674/laws.FnExactCodedBits", spec := "fnExactCodedBits", unfollowed := true, recurses := true, plainKeys := false, apart := false }
def FnExactCodedBitsSaid : Prop := fnExactCodedBitsRow.holds Try.pinned (OpenSpec.ofChange fnExactCodedBitsSpec)

/-- ITS FALSE NEIGHBOUR: 'it returns false'. Refute it at one input. -/
def fnExactCodedBitsWrong : ChangeSpec := { name := "fnExactCodedBits", fn := fun _ => fun
  | [d1, d2, d3] => { results := [.lit (.bool false)], args := [d1, d2, d3] }
  | _ => none }
def FnExactCodedBitsWrongFalsely : Prop := fnExactCodedBitsRow.holds Try.pinned (OpenSpec.ofChange fnExactCodedBitsWrong)

/-- 'laws.FnExactGetCoded': WHATEVER THE INPUT: true; the input reads as it did. -/
def fnExactGetCodedSpec : ChangeSpec := { name := "fnExactGetCoded", fn := fun _ => fun
  | [d1, d2, d3, d4] => { results := [.lit (.bool true)], args := [d1, d2, d3, d4] }
  | _ => none }
def fnExactGetCodedRow : OpenClaim := { program := "ytaaahmfkdiogkaa", sum := "e56aa3166e604058464fdadda20ca89491061026bfb7f69daafffedd63e19232", func := "loop.example/g00674/laws.FnExactGetCoded", spec := "fnExactGetCoded", plainKeys := false, apart := false }
def FnExactGetCodedSaid : Prop := fnExactGetCodedRow.holds Try.pinned (OpenSpec.ofChange fnExactGetCodedSpec)

/-- ITS FALSE NEIGHBOUR: 'it returns false'. Refute it at one input. -/
def fnExactGetCodedWrong : ChangeSpec := { name := "fnExactGetCoded", fn := fun _ => fun
  | [d1, d2, d3, d4] => { results := [.lit (.bool false)], args := [d1, d2, d3, d4] }
  | _ => none }
def FnExactGetCodedWrongFalsely : Prop := fnExactGetCodedRow.holds Try.pinned (OpenSpec.ofChange fnExactGetCodedWrong)

/-- 'laws.FnChooses': WHATEVER THE INPUT: true; the input reads as it did. -/
def fnChoosesSpec : ChangeSpec := { name := "fnChooses", fn := fun _ => fun
  | [d] => { results := [.lit (.bool true)], args := [d] }
  | _ => none }
def fnChoosesRow : OpenClaim := { program := "ytaaahmfkdiogkaa", sum := "e56aa3166e604058464fdadda20ca89491061026bfb7f69daafffedd63e19232", func := "loop.example/g00674/laws.FnChooses", spec := "fnChooses", unfollowed := true, recurses := true, plainKeys := false, apart := false }
def FnChoosesSaid : Prop := fnChoosesRow.holds Try.pinned (OpenSpec.ofChange fnChoosesSpec)

/-- ITS FALSE NEIGHBOUR: 'it returns false'. Refute it at one input. -/
def fnChoosesWrong : ChangeSpec := { name := "fnChooses", fn := fun _ => fun
  | [d] => { results := [.lit (.bool false)], args := [d] }
  | _ => none }
def FnChoosesWrongFalsely : Prop := fnChoosesRow.holds Try.pinned (OpenSpec.ofChange fnChoosesWrong)

/-- 'laws.FnSels': WHATEVER THE INPUT: true; the input reads as it did. -/
def fnSelsSpec : ChangeSpec := { name := "fnSels", fn := fun _ => fun
  | [d] => { results := [.lit (.bool true)], args := [d] }
  | _ => none }
def fnSelsRow : OpenClaim := { program := "ytaaahmfkdiogkaa", sum := "e56aa3166e604058464fdadda20ca89491061026bfb7f69daafffedd63e19232", func := "loop.example/g00674/laws.FnSels", spec := "fnSels", unfollowed := true, recurses := true, plainKeys := false, apart := false }
def FnSelsSaid : Prop := fnSelsRow.holds Try.pinned (OpenSpec.ofChange fnSelsSpec)

/-- ITS FALSE NEIGHBOUR: 'it returns false'. Refute it at one input. -/
def fnSelsWrong : ChangeSpec := { name := "fnSels", fn := fun _ => fun
  | [d] => { results := [.lit (.bool false)], args := [d] }
  | _ => none }
def FnSelsWrongFalsely : Prop := fnSelsRow.holds Try.pinned (OpenSpec.ofChange fnSelsWrong)

/-- 'laws.FnCoded': WHATEVER THE INPUT: true; the input reads as it did. -/
def fnCodedSpec : ChangeSpec := { name := "fnCoded", fn := fun _ => fun
  | [d] => { results := [.lit (.bool true)], args := [d] }
  | _ => none }
def fnCodedRow : OpenClaim := { program := "ytaaahmfkdiogkaa", sum := "e56aa3166e604058464fdadda20ca89491061026bfb7f69daafffedd63e19232", func := "loop.example/g00674/laws.FnCoded", spec := "fnCoded", unfollowed := true, recurses := true, plainKeys := false, apart := false }
def FnCodedSaid : Prop := fnCodedRow.holds Try.pinned (OpenSpec.ofChange fnCodedSpec)

/-- ITS FALSE NEIGHBOUR: 'it returns false'. Refute it at one input. -/
def fnCodedWrong : ChangeSpec := { name := "fnCoded", fn := fun _ => fun
  | [d] => { results := [.lit (.bool false)], args := [d] }
  | _ => none }
def FnCodedWrongFalsely : Prop := fnCodedRow.holds Try.pinned (OpenSpec.ofChange fnCodedWrong)

/- THE SECOND FORM. 'bulk': how many values and letters a reading holds, each counted each time it is reached (what is shared counts as often as it is met; a slice's spare places count too). A statement '..UptoSaid' is the law's where the arguments, and the package variables that the reading takes, are together of bulk at most 1048576: NARROWER than '..Said'. Prove '..Said' where nothing that the law and all that it calls make is longer than what came in: it says more and counts as full. Else prove '..UptoSaid'. A law counts once. -/
mutual
def uptoBulk {H : Type} : DataW H → Nat
  | .lit (.string bytes) => bytes.length + 1
  | .lit _ => 1
  | .nil => 1
  | .ptr d => uptoBulk d + 1
  | .slice elems spare => uptoBulkAll elems + uptoBulkAll spare + 1
  | .agg parts => uptoBulkAll parts + 1
  | .iface _ d => uptoBulk d + 1
  | .map entries => uptoBulkEntries entries + 1
  | .held _ => 1
def uptoBulkAll {H : Type} : List (DataW H) → Nat
  | [] => 0
  | d :: r => uptoBulk d + uptoBulkAll r
def uptoBulkEntries {H : Type} : List (Lit × DataW H) → Nat
  | [] => 0
  | x :: r => uptoBulkEntry x + uptoBulkEntries r
def uptoBulkEntry {H : Type} : Lit × DataW H → Nat
  | (.string bytes, d) => bytes.length + uptoBulk d + 1
  | (_, d) => uptoBulk d + 1
 end
def uptoSmall : (H : Type) → List (DataW H) → Bool := fun _ ds => decide (uptoBulkAll ds ≤ 1048576)
def OpenSpec.upto (s : _root_.Go.ChangeSpec) : _root_.Go.OpenSpec := { _root_.Go.OpenSpec.ofChange s with cond := some uptoSmall }

/-- 'laws.FnExactGroups', WHERE WHAT IT READS IS OF BULK AT MOST 1048576: true; the input reads as it did. -/
def fnExactGroupsUptoRow : OpenClaim := { program := "ytaaahmfkdiogkaa", sum := "e56aa3166e604058464fdadda20ca89491061026bfb7f69daafffedd63e19232", func := "loop.example/g00674/laws.FnExactGroups", spec := "fnExactGroups", plainKeys := false, apart := false, narrowed := true }
def FnExactGroupsUptoSaid : Prop := fnExactGroupsUptoRow.holds Try.pinned (OpenSpec.upto fnExactGroupsSpec)

/-- 'laws.FnExactChoose', WHERE WHAT IT READS IS OF BULK AT MOST 1048576: true; the input reads as it did. -/
def fnExactChooseUptoRow : OpenClaim := { program := "ytaaahmfkdiogkaa", sum := "e56aa3166e604058464fdadda20ca89491061026bfb7f69daafffedd63e19232", func := "loop.example/g00674/laws.FnExactChoose", spec := "fnExactChoose", unfollowed := true, recurses := true, plainKeys := false, apart := false, narrowed := true }
def FnExactChooseUptoSaid : Prop := fnExactChooseUptoRow.holds Try.pinned (OpenSpec.upto fnExactChooseSpec)

/-- 'laws.FnExactTablesOk', WHERE WHAT IT READS IS OF BULK AT MOST 1048576: true; the input reads as it did. -/
def fnExactTablesOkUptoRow : OpenClaim := { program := "ytaaahmfkdiogkaa", sum := "e56aa3166e604058464fdadda20ca89491061026bfb7f69daafffedd63e19232", func := "loop.example/g00674/laws.FnExactTablesOk", spec := "fnExactTablesOk", plainKeys := false, apart := false, narrowed := true }
def FnExactTablesOkUptoSaid : Prop := fnExactTablesOkUptoRow.holds Try.pinned (OpenSpec.upto fnExactTablesOkSpec)

/-- 'laws.FnExactPutSels', WHERE WHAT IT READS IS OF BULK AT MOST 1048576: true; the input reads as it did. -/
def fnExactPutSelsUptoRow : OpenClaim := { program := "ytaaahmfkdiogkaa", sum := "e56aa3166e604058464fdadda20ca89491061026bfb7f69daafffedd63e19232", func := "loop.example/g00674/laws.FnExactPutSels", spec := "fnExactPutSels", unfollowed := true, recurses := true, plainKeys := false, apart := false, narrowed := true }
def FnExactPutSelsUptoSaid : Prop := fnExactPutSelsUptoRow.holds Try.pinned (OpenSpec.upto fnExactPutSelsSpec)

/-- 'laws.FnExactGetSels', WHERE WHAT IT READS IS OF BULK AT MOST 1048576: true; the input reads as it did. -/
def fnExactGetSelsUptoRow : OpenClaim := { program := "ytaaahmfkdiogkaa", sum := "e56aa3166e604058464fdadda20ca89491061026bfb7f69daafffedd63e19232", func := "loop.example/g00674/laws.FnExactGetSels", spec := "fnExactGetSels", unfollowed := true, recurses := true, plainKeys := false, apart := false, narrowed := true }
def FnExactGetSelsUptoSaid : Prop := fnExactGetSelsUptoRow.holds Try.pinned (OpenSpec.upto fnExactGetSelsSpec)

/-- 'laws.FnExactPutCoded', WHERE WHAT IT READS IS OF BULK AT MOST 1048576: true; the input reads as it did. -/
def fnExactPutCodedUptoRow : OpenClaim := { program := "ytaaahmfkdiogkaa", sum := "e56aa3166e604058464fdadda20ca89491061026bfb7f69daafffedd63e19232", func := "loop.example/g00674/laws.FnExactPutCoded", spec := "fnExactPutCoded", unfollowed := true, recurses := true, plainKeys := false, apart := false, narrowed := true }
def FnExactPutCodedUptoSaid : Prop := fnExactPutCodedUptoRow.holds Try.pinned (OpenSpec.upto fnExactPutCodedSpec)

/-- 'laws.FnExactCodedBits', WHERE WHAT IT READS IS OF BULK AT MOST 1048576: true; the input reads as it did. -/
def fnExactCodedBitsUptoRow : OpenClaim := { program := "ytaaahmfkdiogkaa", sum := "e56aa3166e604058464fdadda20ca89491061026bfb7f69daafffedd63e19232", func := "loop.example/g00674/laws.FnExactCodedBits", spec := "fnExactCodedBits", unfollowed := true, recurses := true, plainKeys := false, apart := false, narrowed := true }
def FnExactCodedBitsUptoSaid : Prop := fnExactCodedBitsUptoRow.holds Try.pinned (OpenSpec.upto fnExactCodedBitsSpec)

/-- 'laws.FnExactGetCoded', WHERE WHAT IT READS IS OF BULK AT MOST 1048576: true; the input reads as it did. -/
def fnExactGetCodedUptoRow : OpenClaim := { program := "ytaaahmfkdiogkaa", sum := "e56aa3166e604058464fdadda20ca89491061026bfb7f69daafffedd63e19232", func := "loop.example/g00674/laws.FnExactGetCoded", spec := "fnExactGetCoded", plainKeys := false, apart := false, narrowed := true }
def FnExactGetCodedUptoSaid : Prop := fnExactGetCodedUptoRow.holds Try.pinned (OpenSpec.upto fnExactGetCodedSpec)

/-- 'laws.FnChooses', WHERE WHAT IT READS IS OF BULK AT MOST 1048576: true; the input reads as it did. -/
def fnChoosesUptoRow : OpenClaim := { program := "ytaaahmfkdiogkaa", sum := "e56aa3166e604058464fdadda20ca89491061026bfb7f69daafffedd63e19232", func := "loop.example/g00674/laws.FnChooses", spec := "fnChooses", unfollowed := true, recurses := true, plainKeys := false, apart := false, narrowed := true }
def FnChoosesUptoSaid : Prop := fnChoosesUptoRow.holds Try.pinned (OpenSpec.upto fnChoosesSpec)

/-- 'laws.FnSels', WHERE WHAT IT READS IS OF BULK AT MOST 1048576: true; the input reads as it did. -/
def fnSelsUptoRow : OpenClaim := { program := "ytaaahmfkdiogkaa", sum := "e56aa3166e604058464fdadda20ca89491061026bfb7f69daafffedd63e19232", func := "loop.example/g00674/laws.FnSels", spec := "fnSels", unfollowed := true, recurses := true, plainKeys := false, apart := false, narrowed := true }
def FnSelsUptoSaid : Prop := fnSelsUptoRow.holds Try.pinned (OpenSpec.upto fnSelsSpec)

/-- 'laws.FnCoded', WHERE WHAT IT READS IS OF BULK AT MOST 1048576: true; the input reads as it did. -/
def fnCodedUptoRow : OpenClaim := { program := "ytaaahmfkdiogkaa", sum := "e56aa3166e604058464fdadda20ca89491061026bfb7f69daafffedd63e19232", func := "loop.example/g00674/laws.FnCoded", spec := "fnCoded", unfollowed := true, recurses := true, plainKeys := false, apart := false, narrowed := true }
def FnCodedUptoSaid : Prop := fnCodedUptoRow.holds Try.pinned (OpenSpec.upto fnCodedSpec)

end Rows
end Go.Proofs.Ytaaahmfkdiogkaa
