/-
  No cell of these rows narrows 'for every input' (looked for: loops, veiled, ifaces, maps, wideKeys, modest, calm, conditions, laid).
  DERIVED. THE GIVEN ROWS OF THIS SEAT. 10 by the template 'for every input the law returns true; each argument reads behind the call as it read before'; 0 by the template 'total and deterministic' (their statements: YtpdicijoohahaaaTotals.lean).
  GIVEN WITH THE SEED: the statements are not yours to turn. If you find one false, say at which input.
  Laid BY PROGRAM, IN A SANDBOX (cutbox-rows.mjs): the forced cells as the released guide's own fill.sh prints them over the translation 2710835522030cb4… (all of the seat's roots in one cut). By AI agents, Wed Nov 11 2026. No macro, syntax, notation, axiom, sorry.
-/
import Derived.Test.YtpdicijoohahaaaChecked
import GoSem.Claim
import GoSem.ClaimJoined
import GoSem.ClaimMapViews
import Derived.JoinedTies
import Derived.KernelRfl
namespace Go.Proofs.Ytpdicijoohahaaa
/- THE CELL 'sum', in the pinned program and in every row, IS THE sha256 OF THE DUMP (.gsa) THAT YtpdicijoohahaaaProg.lean LOADS. Nothing in Lean hashes anything: it is a label: what it is worth is what the hold of that sum in a sandbox is worth. -/
noncomputable def Try.pinned : Pinned := { name := "ytpdicijoohahaaa", sum := "2710835522030cb4cb6027a4d0cc77952928ad384abfef37086fb9af3cfce419", checked := Try.checked }
namespace Rows
def none {H : Type} : Left H := { results := [], args := [] }

/-- 'laws.FnExactUnInv': WHATEVER THE INPUT: true; the input reads as it did. -/
def fnExactUnInvSpec : ChangeSpec := { name := "fnExactUnInv", fn := fun _ => fun
  | [d1, d2, d3] => { results := [.lit (.bool true)], args := [d1, d2, d3] }
  | _ => none }
def fnExactUnInvRow : OpenClaim := { program := "ytpdicijoohahaaa", sum := "2710835522030cb4cb6027a4d0cc77952928ad384abfef37086fb9af3cfce419", func := "loop.example/g00674/laws.FnExactUnInv", spec := "fnExactUnInv", unfollowed := true, recurses := true, apart := false }
def FnExactUnInvSaid : Prop := fnExactUnInvRow.holds Try.pinned (OpenSpec.ofChange fnExactUnInvSpec)

/-- ITS FALSE NEIGHBOUR: 'it returns false'. Refute it at one input. -/
def fnExactUnInvWrong : ChangeSpec := { name := "fnExactUnInv", fn := fun _ => fun
  | [d1, d2, d3] => { results := [.lit (.bool false)], args := [d1, d2, d3] }
  | _ => none }
def FnExactUnInvWrongFalsely : Prop := fnExactUnInvRow.holds Try.pinned (OpenSpec.ofChange fnExactUnInvWrong)

/-- 'laws.FnExactRunSyms': WHATEVER THE INPUT: true; the input reads as it did. -/
def fnExactRunSymsSpec : ChangeSpec := { name := "fnExactRunSyms", fn := fun _ => fun
  | [d] => { results := [.lit (.bool true)], args := [d] }
  | _ => none }
def fnExactRunSymsRow : OpenClaim := { program := "ytpdicijoohahaaa", sum := "2710835522030cb4cb6027a4d0cc77952928ad384abfef37086fb9af3cfce419", func := "loop.example/g00674/laws.FnExactRunSyms", spec := "fnExactRunSyms", apart := false }
def FnExactRunSymsSaid : Prop := fnExactRunSymsRow.holds Try.pinned (OpenSpec.ofChange fnExactRunSymsSpec)

/-- ITS FALSE NEIGHBOUR: 'it returns false'. Refute it at one input. -/
def fnExactRunSymsWrong : ChangeSpec := { name := "fnExactRunSyms", fn := fun _ => fun
  | [d] => { results := [.lit (.bool false)], args := [d] }
  | _ => none }
def FnExactRunSymsWrongFalsely : Prop := fnExactRunSymsRow.holds Try.pinned (OpenSpec.ofChange fnExactRunSymsWrong)

/-- 'laws.FnExactRunLen': WHATEVER THE INPUT: true; the input reads as it did. -/
def fnExactRunLenSpec : ChangeSpec := { name := "fnExactRunLen", fn := fun _ => fun
  | [d] => { results := [.lit (.bool true)], args := [d] }
  | _ => none }
def fnExactRunLenRow : OpenClaim := { program := "ytpdicijoohahaaa", sum := "2710835522030cb4cb6027a4d0cc77952928ad384abfef37086fb9af3cfce419", func := "loop.example/g00674/laws.FnExactRunLen", spec := "fnExactRunLen", apart := false }
def FnExactRunLenSaid : Prop := fnExactRunLenRow.holds Try.pinned (OpenSpec.ofChange fnExactRunLenSpec)

/-- ITS FALSE NEIGHBOUR: 'it returns false'. Refute it at one input. -/
def fnExactRunLenWrong : ChangeSpec := { name := "fnExactRunLen", fn := fun _ => fun
  | [d] => { results := [.lit (.bool false)], args := [d] }
  | _ => none }
def FnExactRunLenWrongFalsely : Prop := fnExactRunLenRow.holds Try.pinned (OpenSpec.ofChange fnExactRunLenWrong)

/-- 'laws.FnExactPackRuns': WHATEVER THE INPUT: true; the input reads as it did. -/
def fnExactPackRunsSpec : ChangeSpec := { name := "fnExactPackRuns", fn := fun _ => fun
  | [d1, d2] => { results := [.lit (.bool true)], args := [d1, d2] }
  | _ => none }
def fnExactPackRunsRow : OpenClaim := { program := "ytpdicijoohahaaa", sum := "2710835522030cb4cb6027a4d0cc77952928ad384abfef37086fb9af3cfce419", func := "loop.example/g00674/laws.FnExactPackRuns", spec := "fnExactPackRuns", unfollowed := true, recurses := true, apart := false }
def FnExactPackRunsSaid : Prop := fnExactPackRunsRow.holds Try.pinned (OpenSpec.ofChange fnExactPackRunsSpec)

/-- ITS FALSE NEIGHBOUR: 'it returns false'. Refute it at one input. -/
def fnExactPackRunsWrong : ChangeSpec := { name := "fnExactPackRuns", fn := fun _ => fun
  | [d1, d2] => { results := [.lit (.bool false)], args := [d1, d2] }
  | _ => none }
def FnExactPackRunsWrongFalsely : Prop := fnExactPackRunsRow.holds Try.pinned (OpenSpec.ofChange fnExactPackRunsWrong)

/-- 'laws.FnExactUnpackRuns': WHATEVER THE INPUT: true; the input reads as it did. -/
def fnExactUnpackRunsSpec : ChangeSpec := { name := "fnExactUnpackRuns", fn := fun _ => fun
  | [d1, d2, d3] => { results := [.lit (.bool true)], args := [d1, d2, d3] }
  | _ => none }
def fnExactUnpackRunsRow : OpenClaim := { program := "ytpdicijoohahaaa", sum := "2710835522030cb4cb6027a4d0cc77952928ad384abfef37086fb9af3cfce419", func := "loop.example/g00674/laws.FnExactUnpackRuns", spec := "fnExactUnpackRuns", unfollowed := true, recurses := true, apart := false }
def FnExactUnpackRunsSaid : Prop := fnExactUnpackRunsRow.holds Try.pinned (OpenSpec.ofChange fnExactUnpackRunsSpec)

/-- ITS FALSE NEIGHBOUR: 'it returns false'. Refute it at one input. -/
def fnExactUnpackRunsWrong : ChangeSpec := { name := "fnExactUnpackRuns", fn := fun _ => fun
  | [d1, d2, d3] => { results := [.lit (.bool false)], args := [d1, d2, d3] }
  | _ => none }
def FnExactUnpackRunsWrongFalsely : Prop := fnExactUnpackRunsRow.holds Try.pinned (OpenSpec.ofChange fnExactUnpackRunsWrong)

/-- 'laws.FnMtfs': WHATEVER THE INPUT: true; the input reads as it did. -/
def fnMtfsSpec : ChangeSpec := { name := "fnMtfs", fn := fun _ => fun
  | [d] => { results := [.lit (.bool true)], args := [d] }
  | _ => none }
def fnMtfsRow : OpenClaim := { program := "ytpdicijoohahaaa", sum := "2710835522030cb4cb6027a4d0cc77952928ad384abfef37086fb9af3cfce419", func := "loop.example/g00674/laws.FnMtfs", spec := "fnMtfs", unfollowed := true, recurses := true, apart := false }
def FnMtfsSaid : Prop := fnMtfsRow.holds Try.pinned (OpenSpec.ofChange fnMtfsSpec)

/-- ITS FALSE NEIGHBOUR: 'it returns false'. Refute it at one input. -/
def fnMtfsWrong : ChangeSpec := { name := "fnMtfs", fn := fun _ => fun
  | [d] => { results := [.lit (.bool false)], args := [d] }
  | _ => none }
def FnMtfsWrongFalsely : Prop := fnMtfsRow.holds Try.pinned (OpenSpec.ofChange fnMtfsWrong)

/-- 'laws.FnSbrs': WHATEVER THE INPUT: true; the input reads as it did. -/
def fnSbrsSpec : ChangeSpec := { name := "fnSbrs", fn := fun _ => fun
  | [d] => { results := [.lit (.bool true)], args := [d] }
  | _ => none }
def fnSbrsRow : OpenClaim := { program := "ytpdicijoohahaaa", sum := "2710835522030cb4cb6027a4d0cc77952928ad384abfef37086fb9af3cfce419", func := "loop.example/g00674/laws.FnSbrs", spec := "fnSbrs", unfollowed := true, recurses := true, apart := false }
def FnSbrsSaid : Prop := fnSbrsRow.holds Try.pinned (OpenSpec.ofChange fnSbrsSpec)

/-- ITS FALSE NEIGHBOUR: 'it returns false'. Refute it at one input. -/
def fnSbrsWrong : ChangeSpec := { name := "fnSbrs", fn := fun _ => fun
  | [d] => { results := [.lit (.bool false)], args := [d] }
  | _ => none }
def FnSbrsWrongFalsely : Prop := fnSbrsRow.holds Try.pinned (OpenSpec.ofChange fnSbrsWrong)

/-- 'laws.FnInvs': WHATEVER THE INPUT: true; the input reads as it did. -/
def fnInvsSpec : ChangeSpec := { name := "fnInvs", fn := fun _ => fun
  | [d] => { results := [.lit (.bool true)], args := [d] }
  | _ => none }
def fnInvsRow : OpenClaim := { program := "ytpdicijoohahaaa", sum := "2710835522030cb4cb6027a4d0cc77952928ad384abfef37086fb9af3cfce419", func := "loop.example/g00674/laws.FnInvs", spec := "fnInvs", unfollowed := true, recurses := true, apart := false }
def FnInvsSaid : Prop := fnInvsRow.holds Try.pinned (OpenSpec.ofChange fnInvsSpec)

/-- ITS FALSE NEIGHBOUR: 'it returns false'. Refute it at one input. -/
def fnInvsWrong : ChangeSpec := { name := "fnInvs", fn := fun _ => fun
  | [d] => { results := [.lit (.bool false)], args := [d] }
  | _ => none }
def FnInvsWrongFalsely : Prop := fnInvsRow.holds Try.pinned (OpenSpec.ofChange fnInvsWrong)

/-- 'laws.FnRuns': WHATEVER THE INPUT: true; the input reads as it did. -/
def fnRunsSpec : ChangeSpec := { name := "fnRuns", fn := fun _ => fun
  | [d] => { results := [.lit (.bool true)], args := [d] }
  | _ => none }
def fnRunsRow : OpenClaim := { program := "ytpdicijoohahaaa", sum := "2710835522030cb4cb6027a4d0cc77952928ad384abfef37086fb9af3cfce419", func := "loop.example/g00674/laws.FnRuns", spec := "fnRuns", unfollowed := true, recurses := true, apart := false }
def FnRunsSaid : Prop := fnRunsRow.holds Try.pinned (OpenSpec.ofChange fnRunsSpec)

/-- ITS FALSE NEIGHBOUR: 'it returns false'. Refute it at one input. -/
def fnRunsWrong : ChangeSpec := { name := "fnRuns", fn := fun _ => fun
  | [d] => { results := [.lit (.bool false)], args := [d] }
  | _ => none }
def FnRunsWrongFalsely : Prop := fnRunsRow.holds Try.pinned (OpenSpec.ofChange fnRunsWrong)

/-- 'laws.FnPacks': WHATEVER THE INPUT: true; the input reads as it did. -/
def fnPacksSpec : ChangeSpec := { name := "fnPacks", fn := fun _ => fun
  | [d] => { results := [.lit (.bool true)], args := [d] }
  | _ => none }
def fnPacksRow : OpenClaim := { program := "ytpdicijoohahaaa", sum := "2710835522030cb4cb6027a4d0cc77952928ad384abfef37086fb9af3cfce419", func := "loop.example/g00674/laws.FnPacks", spec := "fnPacks", unfollowed := true, recurses := true, apart := false }
def FnPacksSaid : Prop := fnPacksRow.holds Try.pinned (OpenSpec.ofChange fnPacksSpec)

/-- ITS FALSE NEIGHBOUR: 'it returns false'. Refute it at one input. -/
def fnPacksWrong : ChangeSpec := { name := "fnPacks", fn := fun _ => fun
  | [d] => { results := [.lit (.bool false)], args := [d] }
  | _ => none }
def FnPacksWrongFalsely : Prop := fnPacksRow.holds Try.pinned (OpenSpec.ofChange fnPacksWrong)

/- THE SECOND FORM. 'bulk': how many values and letters a reading holds, each counted each time it is reached (what is shared counts as often as it is met; a slice's spare places count too). A statement '..UptoSaid' is the law's where the arguments, and the package variables that the reading takes, are together of bulk at most 1048576: NARROWER than '..Said'. Prove '..Said' where nothing that the law and all that it calls make is longer than what came in: it says more and counts as full. Else prove '..UptoSaid'. A law counts once. -/
mutual
def uptoBulk {H : Type} : DataW H → Nat
  | .lit (.string bytes) => bytes.length + 1
  | .lit _ => 1
  | .nil => 1
  | .ptr d => uptoBulk d + 1
  | .slice elems spare => uptoBulkAll elems + uptoBulkAll spare + 1
  | .agg parts => uptoBulkAll parts + 1
  | .iface _ d => uptoBulk d + 1
  | .map entries => uptoBulkEntries entries + 1
  | .held _ => 1
def uptoBulkAll {H : Type} : List (DataW H) → Nat
  | [] => 0
  | d :: r => uptoBulk d + uptoBulkAll r
def uptoBulkEntries {H : Type} : List (Lit × DataW H) → Nat
  | [] => 0
  | x :: r => uptoBulkEntry x + uptoBulkEntries r
def uptoBulkEntry {H : Type} : Lit × DataW H → Nat
  | (.string bytes, d) => bytes.length + uptoBulk d + 1
  | (_, d) => uptoBulk d + 1
 end
def uptoSmall : (H : Type) → List (DataW H) → Bool := fun _ ds => decide (uptoBulkAll ds ≤ 1048576)
def OpenSpec.upto (s : _root_.Go.ChangeSpec) : _root_.Go.OpenSpec := { _root_.Go.OpenSpec.ofChange s with cond := some uptoSmall }

/-- 'laws.FnExactUnInv', WHERE WHAT IT READS IS OF BULK AT MOST 1048576: true; the input reads as it did. -/
def fnExactUnInvUptoRow : OpenClaim := { program := "ytpdicijoohahaaa", sum := "2710835522030cb4cb6027a4d0cc77952928ad384abfef37086fb9af3cfce419", func := "loop.example/g00674/laws.FnExactUnInv", spec := "fnExactUnInv", unfollowed := true, recurses := true, apart := false, narrowed := true }
def FnExactUnInvUptoSaid : Prop := fnExactUnInvUptoRow.holds Try.pinned (OpenSpec.upto fnExactUnInvSpec)

/-- 'laws.FnExactRunSyms', WHERE WHAT IT READS IS OF BULK AT MOST 1048576: true; the input reads as it did. -/
def fnExactRunSymsUptoRow : OpenClaim := { program := "ytpdicijoohahaaa", sum := "2710835522030cb4cb6027a4d0cc77952928ad384abfef37086fb9af3cfce419", func := "loop.example/g00674/laws.FnExactRunSyms", spec := "fnExactRunSyms", apart := false, narrowed := true }
def FnExactRunSymsUptoSaid : Prop := fnExactRunSymsUptoRow.holds Try.pinned (OpenSpec.upto fnExactRunSymsSpec)

/-- 'laws.FnExactRunLen', WHERE WHAT IT READS IS OF BULK AT MOST 1048576: true; the input reads as it did. -/
def fnExactRunLenUptoRow : OpenClaim := { program := "ytpdicijoohahaaa", sum := "2710835522030cb4cb6027a4d0cc77952928ad384abfef37086fb9af3cfce419", func := "loop.example/g00674/laws.FnExactRunLen", spec := "fnExactRunLen", apart := false, narrowed := true }
def FnExactRunLenUptoSaid : Prop := fnExactRunLenUptoRow.holds Try.pinned (OpenSpec.upto fnExactRunLenSpec)

/-- 'laws.FnExactPackRuns', WHERE WHAT IT READS IS OF BULK AT MOST 1048576: true; the input reads as it did. -/
def fnExactPackRunsUptoRow : OpenClaim := { program := "ytpdicijoohahaaa", sum := "2710835522030cb4cb6027a4d0cc77952928ad384abfef37086fb9af3cfce419", func := "loop.example/g00674/laws.FnExactPackRuns", spec := "fnExactPackRuns", unfollowed := true, recurses := true, apart := false, narrowed := true }
def FnExactPackRunsUptoSaid : Prop := fnExactPackRunsUptoRow.holds Try.pinned (OpenSpec.upto fnExactPackRunsSpec)

/-- 'laws.FnExactUnpackRuns', WHERE WHAT IT READS IS OF BULK AT MOST 1048576: true; the input reads as it did. -/
def fnExactUnpackRunsUptoRow : OpenClaim := { program := "ytpdicijoohahaaa", sum := "2710835522030cb4cb6027a4d0cc77952928ad384abfef37086fb9af3cfce419", func := "loop.example/g00674/laws.FnExactUnpackRuns", spec := "fnExactUnpackRuns", unfollowed := true, recurses := true, apart := false, narrowed := true }
def FnExactUnpackRunsUptoSaid : Prop := fnExactUnpackRunsUptoRow.holds Try.pinned (OpenSpec.upto fnExactUnpackRunsSpec)

/-- 'laws.FnMtfs', WHERE WHAT IT READS IS OF BULK AT MOST 1048576: true; the input reads as it did. -/
def fnMtfsUptoRow : OpenClaim := { program := "ytpdicijoohahaaa", sum := "2710835522030cb4cb6027a4d0cc77952928ad384abfef37086fb9af3cfce419", func := "loop.example/g00674/laws.FnMtfs", spec := "fnMtfs", unfollowed := true, recurses := true, apart := false, narrowed := true }
def FnMtfsUptoSaid : Prop := fnMtfsUptoRow.holds Try.pinned (OpenSpec.upto fnMtfsSpec)

/-- 'laws.FnSbrs', WHERE WHAT IT READS IS OF BULK AT MOST 1048576: true; the input reads as it did. -/
def fnSbrsUptoRow : OpenClaim := { program := "ytpdicijoohahaaa", sum := "2710835522030cb4cb6027a4d0cc77952928ad384abfef37086fb9af3cfce419", func := "loop.example/g00674/laws.FnSbrs", spec := "fnSbrs", unfollowed := true, recurses := true, apart := false, narrowed := true }
def FnSbrsUptoSaid : Prop := fnSbrsUptoRow.holds Try.pinned (OpenSpec.upto fnSbrsSpec)

/-- 'laws.FnInvs', WHERE WHAT IT READS IS OF BULK AT MOST 1048576: true; the input reads as it did. -/
def fnInvsUptoRow : OpenClaim := { program := "ytpdicijoohahaaa", sum := "2710835522030cb4cb6027a4d0cc77952928ad384abfef37086fb9af3cfce419", func := "loop.example/g00674/laws.FnInvs", spec := "fnInvs", unfollowed := true, recurses := true, apart := false, narrowed := true }
def FnInvsUptoSaid : Prop := fnInvsUptoRow.holds Try.pinned (OpenSpec.upto fnInvsSpec)

/-- 'laws.FnRuns', WHERE WHAT IT READS IS OF BULK AT MOST 1048576: true; the input reads as it did. -/
def fnRunsUptoRow : OpenClaim := { program := "ytpdicijoohahaaa", sum := "2710835522030cb4cb6027a4d0cc77952928ad384abfef37086fb9af3cfce419", func := "loop.example/g00674/laws.FnRuns", spec := "fnRuns", unfollowed := true, recurses := true, apart := false, narrowed := true }
def FnRunsUptoSaid : Prop := fnRunsUptoRow.holds Try.pinned (OpenSpec.upto fnRunsSpec)

/-- 'laws.FnPacks', WHERE WHAT IT READS IS OF BULK AT MOST 1048576: true; the input reads as it did. -/
def fnPacksUptoRow : OpenClaim := { program := "ytpdicijoohahaaa", sum := "2710835522030cb4cb6027a4d0cc77952928ad384abfef37086fb9af3cfce419", func := "loop.example/g00674/laws.FnPacks", spec := "fnPacks", unfollowed := true, recurses := true, apart := false, narrowed := true }
def FnPacksUptoSaid : Prop := fnPacksUptoRow.holds Try.pinned (OpenSpec.upto fnPacksSpec)

end Rows
end Go.Proofs.Ytpdicijoohahaaa
