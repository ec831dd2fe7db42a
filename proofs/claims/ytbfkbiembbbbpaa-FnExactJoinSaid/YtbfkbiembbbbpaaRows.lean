/-
  No cell of these rows narrows 'for every input' (looked for: loops, veiled, ifaces, maps, wideKeys, modest, calm, conditions, laid).
  DERIVED. THE GIVEN ROWS OF THIS SEAT. 10 by the template 'for every input the law returns true; each argument reads behind the call as it read before'; 0 by the template 'total and deterministic' (their statements: YtbfkbiembbbbpaaTotals.lean).
  GIVEN WITH THE SEED: the statements are not yours to turn. If you find one false, say at which input.
  Laid BY PROGRAM, IN A SANDBOX (cutbox-rows.mjs): the forced cells as the released guide's own fill.sh prints them over the translation a55fe30280408dc9… (all of the seat's roots in one cut). By AI agents, Wed Nov 11 2026. No macro, syntax, notation, axiom, sorry.
-/
import Derived.Test.YtbfkbiembbbbpaaChecked
import GoSem.Claim
import GoSem.ClaimJoined
import GoSem.ClaimMapViews
import Derived.JoinedTies
import Derived.KernelRfl
namespace Go.Proofs.Ytbfkbiembbbbpaa
/- THE CELL 'sum', in the pinned program and in every row, IS THE sha256 OF THE DUMP (.gsa) THAT YtbfkbiembbbbpaaProg.lean LOADS. Nothing in Lean hashes anything: it is a label: what it is worth is what the hold of that sum in a sandbox is worth. -/
noncomputable def Try.pinned : Pinned := { name := "ytbfkbiembbbbpaa", sum := "a55fe30280408dc911199b89bb3867b8e73b1cc8b7ad5fbc2211fcd4303fa702", checked := Try.checked }
namespace Rows
def none {H : Type} : Left H := { results := [], args := [] }

/-- 'laws.FnPuts': WHATEVER THE INPUT: true; the input reads as it did. -/
def fnPutsSpec : ChangeSpec := { name := "fnPuts", fn := fun _ => fun
  | [d] => { results := [.lit (.bool true)], args := [d] }
  | _ => none }
def fnPutsRow : OpenClaim := { program := "ytbfkbiembbbbpaa", sum := "a55fe30280408dc911199b89bb3867b8e73b1cc8b7ad5fbc2211fcd4303fa702", func := "loop.example/g00674/laws.FnPuts", spec := "fnPuts", apart := false }
def FnPutsSaid : Prop := fnPutsRow.holds Try.pinned (OpenSpec.ofChange fnPutsSpec)

/-- ITS FALSE NEIGHBOUR: 'it returns false'. Refute it at one input. -/
def fnPutsWrong : ChangeSpec := { name := "fnPuts", fn := fun _ => fun
  | [d] => { results := [.lit (.bool false)], args := [d] }
  | _ => none }
def FnPutsWrongFalsely : Prop := fnPutsRow.holds Try.pinned (OpenSpec.ofChange fnPutsWrong)

/-- 'laws.FnJoins': WHATEVER THE INPUT: true; the input reads as it did. -/
def fnJoinsSpec : ChangeSpec := { name := "fnJoins", fn := fun _ => fun
  | [d] => { results := [.lit (.bool true)], args := [d] }
  | _ => none }
def fnJoinsRow : OpenClaim := { program := "ytbfkbiembbbbpaa", sum := "a55fe30280408dc911199b89bb3867b8e73b1cc8b7ad5fbc2211fcd4303fa702", func := "loop.example/g00674/laws.FnJoins", spec := "fnJoins", apart := false }
def FnJoinsSaid : Prop := fnJoinsRow.holds Try.pinned (OpenSpec.ofChange fnJoinsSpec)

/-- ITS FALSE NEIGHBOUR: 'it returns false'. Refute it at one input. -/
def fnJoinsWrong : ChangeSpec := { name := "fnJoins", fn := fun _ => fun
  | [d] => { results := [.lit (.bool false)], args := [d] }
  | _ => none }
def FnJoinsWrongFalsely : Prop := fnJoinsRow.holds Try.pinned (OpenSpec.ofChange fnJoinsWrong)

/-- 'laws.FnCrcs': WHATEVER THE INPUT: true; the input reads as it did. -/
def fnCrcsSpec : ChangeSpec := { name := "fnCrcs", fn := fun _ => fun
  | [d] => { results := [.lit (.bool true)], args := [d] }
  | _ => none }
def fnCrcsRow : OpenClaim := { program := "ytbfkbiembbbbpaa", sum := "a55fe30280408dc911199b89bb3867b8e73b1cc8b7ad5fbc2211fcd4303fa702", func := "loop.example/g00674/laws.FnCrcs", spec := "fnCrcs", apart := false }
def FnCrcsSaid : Prop := fnCrcsRow.holds Try.pinned (OpenSpec.ofChange fnCrcsSpec)

/-- ITS FALSE NEIGHBOUR: 'it returns false'. Refute it at one input. -/
def fnCrcsWrong : ChangeSpec := { name := "fnCrcs", fn := fun _ => fun
  | [d] => { results := [.lit (.bool false)], args := [d] }
  | _ => none }
def FnCrcsWrongFalsely : Prop := fnCrcsRow.holds Try.pinned (OpenSpec.ofChange fnCrcsWrong)

/-- 'laws.FnEntries': WHATEVER THE INPUT: true; the input reads as it did. -/
def fnEntriesSpec : ChangeSpec := { name := "fnEntries", fn := fun _ => fun
  | [d] => { results := [.lit (.bool true)], args := [d] }
  | _ => none }
def fnEntriesRow : OpenClaim := { program := "ytbfkbiembbbbpaa", sum := "a55fe30280408dc911199b89bb3867b8e73b1cc8b7ad5fbc2211fcd4303fa702", func := "loop.example/g00674/laws.FnEntries", spec := "fnEntries", apart := false }
def FnEntriesSaid : Prop := fnEntriesRow.holds Try.pinned (OpenSpec.ofChange fnEntriesSpec)

/-- ITS FALSE NEIGHBOUR: 'it returns false'. Refute it at one input. -/
def fnEntriesWrong : ChangeSpec := { name := "fnEntries", fn := fun _ => fun
  | [d] => { results := [.lit (.bool false)], args := [d] }
  | _ => none }
def FnEntriesWrongFalsely : Prop := fnEntriesRow.holds Try.pinned (OpenSpec.ofChange fnEntriesWrong)

/-- 'laws.FnTurned': WHATEVER THE INPUT: true; the input reads as it did. -/
def fnTurnedSpec : ChangeSpec := { name := "fnTurned", fn := fun _ => fun
  | [d] => { results := [.lit (.bool true)], args := [d] }
  | _ => none }
def fnTurnedRow : OpenClaim := { program := "ytbfkbiembbbbpaa", sum := "a55fe30280408dc911199b89bb3867b8e73b1cc8b7ad5fbc2211fcd4303fa702", func := "loop.example/g00674/laws.FnTurned", spec := "fnTurned", apart := false }
def FnTurnedSaid : Prop := fnTurnedRow.holds Try.pinned (OpenSpec.ofChange fnTurnedSpec)

/-- ITS FALSE NEIGHBOUR: 'it returns false'. Refute it at one input. -/
def fnTurnedWrong : ChangeSpec := { name := "fnTurned", fn := fun _ => fun
  | [d] => { results := [.lit (.bool false)], args := [d] }
  | _ => none }
def FnTurnedWrongFalsely : Prop := fnTurnedRow.holds Try.pinned (OpenSpec.ofChange fnTurnedWrong)

/-- 'laws.FnExactJoin': WHATEVER THE INPUT: true; the input reads as it did. -/
def fnExactJoinSpec : ChangeSpec := { name := "fnExactJoin", fn := fun _ => fun
  | [d1, d2] => { results := [.lit (.bool true)], args := [d1, d2] }
  | _ => none }
def fnExactJoinRow : OpenClaim := { program := "ytbfkbiembbbbpaa", sum := "a55fe30280408dc911199b89bb3867b8e73b1cc8b7ad5fbc2211fcd4303fa702", func := "loop.example/g00674/laws.FnExactJoin", spec := "fnExactJoin", apart := false }
def FnExactJoinSaid : Prop := fnExactJoinRow.holds Try.pinned (OpenSpec.ofChange fnExactJoinSpec)

/-- ITS FALSE NEIGHBOUR: 'it returns false'. Refute it at one input. -/
def fnExactJoinWrong : ChangeSpec := { name := "fnExactJoin", fn := fun _ => fun
  | [d1, d2] => { results := [.lit (.bool false)], args := [d1, d2] }
  | _ => none }
def FnExactJoinWrongFalsely : Prop := fnExactJoinRow.holds Try.pinned (OpenSpec.ofChange fnExactJoinWrong)

/-- 'laws.FnExactCrcEntry': WHATEVER THE INPUT: true; the input reads as it did. -/
def fnExactCrcEntrySpec : ChangeSpec := { name := "fnExactCrcEntry", fn := fun _ => fun
  | [d] => { results := [.lit (.bool true)], args := [d] }
  | _ => none }
def fnExactCrcEntryRow : OpenClaim := { program := "ytbfkbiembbbbpaa", sum := "a55fe30280408dc911199b89bb3867b8e73b1cc8b7ad5fbc2211fcd4303fa702", func := "loop.example/g00674/laws.FnExactCrcEntry", spec := "fnExactCrcEntry", apart := false }
def FnExactCrcEntrySaid : Prop := fnExactCrcEntryRow.holds Try.pinned (OpenSpec.ofChange fnExactCrcEntrySpec)

/-- ITS FALSE NEIGHBOUR: 'it returns false'. Refute it at one input. -/
def fnExactCrcEntryWrong : ChangeSpec := { name := "fnExactCrcEntry", fn := fun _ => fun
  | [d] => { results := [.lit (.bool false)], args := [d] }
  | _ => none }
def FnExactCrcEntryWrongFalsely : Prop := fnExactCrcEntryRow.holds Try.pinned (OpenSpec.ofChange fnExactCrcEntryWrong)

/-- 'laws.FnExactCrcStep': WHATEVER THE INPUT: true; the input reads as it did. -/
def fnExactCrcStepSpec : ChangeSpec := { name := "fnExactCrcStep", fn := fun _ => fun
  | [d1, d2] => { results := [.lit (.bool true)], args := [d1, d2] }
  | _ => none }
def fnExactCrcStepRow : OpenClaim := { program := "ytbfkbiembbbbpaa", sum := "a55fe30280408dc911199b89bb3867b8e73b1cc8b7ad5fbc2211fcd4303fa702", func := "loop.example/g00674/laws.FnExactCrcStep", spec := "fnExactCrcStep", apart := false }
def FnExactCrcStepSaid : Prop := fnExactCrcStepRow.holds Try.pinned (OpenSpec.ofChange fnExactCrcStepSpec)

/-- ITS FALSE NEIGHBOUR: 'it returns false'. Refute it at one input. -/
def fnExactCrcStepWrong : ChangeSpec := { name := "fnExactCrcStep", fn := fun _ => fun
  | [d1, d2] => { results := [.lit (.bool false)], args := [d1, d2] }
  | _ => none }
def FnExactCrcStepWrongFalsely : Prop := fnExactCrcStepRow.holds Try.pinned (OpenSpec.ofChange fnExactCrcStepWrong)

/-- 'laws.FnExactCrcFrom': WHATEVER THE INPUT: true; the input reads as it did. -/
def fnExactCrcFromSpec : ChangeSpec := { name := "fnExactCrcFrom", fn := fun _ => fun
  | [d1, d2] => { results := [.lit (.bool true)], args := [d1, d2] }
  | _ => none }
def fnExactCrcFromRow : OpenClaim := { program := "ytbfkbiembbbbpaa", sum := "a55fe30280408dc911199b89bb3867b8e73b1cc8b7ad5fbc2211fcd4303fa702", func := "loop.example/g00674/laws.FnExactCrcFrom", spec := "fnExactCrcFrom", apart := false }
def FnExactCrcFromSaid : Prop := fnExactCrcFromRow.holds Try.pinned (OpenSpec.ofChange fnExactCrcFromSpec)

/-- ITS FALSE NEIGHBOUR: 'it returns false'. Refute it at one input. -/
def fnExactCrcFromWrong : ChangeSpec := { name := "fnExactCrcFrom", fn := fun _ => fun
  | [d1, d2] => { results := [.lit (.bool false)], args := [d1, d2] }
  | _ => none }
def FnExactCrcFromWrongFalsely : Prop := fnExactCrcFromRow.holds Try.pinned (OpenSpec.ofChange fnExactCrcFromWrong)

/-- 'laws.FnExactCrc': WHATEVER THE INPUT: true; the input reads as it did. -/
def fnExactCrcSpec : ChangeSpec := { name := "fnExactCrc", fn := fun _ => fun
  | [d] => { results := [.lit (.bool true)], args := [d] }
  | _ => none }
def fnExactCrcRow : OpenClaim := { program := "ytbfkbiembbbbpaa", sum := "a55fe30280408dc911199b89bb3867b8e73b1cc8b7ad5fbc2211fcd4303fa702", func := "loop.example/g00674/laws.FnExactCrc", spec := "fnExactCrc", apart := false }
def FnExactCrcSaid : Prop := fnExactCrcRow.holds Try.pinned (OpenSpec.ofChange fnExactCrcSpec)

/-- ITS FALSE NEIGHBOUR: 'it returns false'. Refute it at one input. -/
def fnExactCrcWrong : ChangeSpec := { name := "fnExactCrc", fn := fun _ => fun
  | [d] => { results := [.lit (.bool false)], args := [d] }
  | _ => none }
def FnExactCrcWrongFalsely : Prop := fnExactCrcRow.holds Try.pinned (OpenSpec.ofChange fnExactCrcWrong)

/- THE SECOND FORM. 'bulk': how many values and letters a reading holds, each counted each time it is reached (what is shared counts as often as it is met; a slice's spare places count too). A statement '..UptoSaid' is the law's where the arguments, and the package variables that the reading takes, are together of bulk at most 1048576: NARROWER than '..Said'. Prove '..Said' where nothing that the law and all that it calls make is longer than what came in: it says more and counts as full. Else prove '..UptoSaid'. A law counts once. -/
mutual
def uptoBulk {H : Type} : DataW H → Nat
  | .lit (.string bytes) => bytes.length + 1
  | .lit _ => 1
  | .nil => 1
  | .ptr d => uptoBulk d + 1
  | .slice elems spare => uptoBulkAll elems + uptoBulkAll spare + 1
  | .agg parts => uptoBulkAll parts + 1
  | .iface _ d => uptoBulk d + 1
  | .map entries => uptoBulkEntries entries + 1
  | .held _ => 1
def uptoBulkAll {H : Type} : List (DataW H) → Nat
  | [] => 0
  | d :: r => uptoBulk d + uptoBulkAll r
def uptoBulkEntries {H : Type} : List (Lit × DataW H) → Nat
  | [] => 0
  | x :: r => uptoBulkEntry x + uptoBulkEntries r
def uptoBulkEntry {H : Type} : Lit × DataW H → Nat
  | (.string bytes, d) => bytes.length + uptoBulk d + 1
  | (_, d) => uptoBulk d + 1
 end
def uptoSmall : (H : Type) → List (DataW H) → Bool := fun _ ds => decide (uptoBulkAll ds ≤ 1048576)
def OpenSpec.upto (s : _root_.Go.ChangeSpec) : _root_.Go.OpenSpec := { _root_.Go.OpenSpec.ofChange s with cond := some uptoSmall }

/-- 'laws.FnPuts', WHERE WHAT IT READS IS OF BULK AT MOST 1048576: true; the input reads as it did. -/
def fnPutsUptoRow : OpenClaim := { program := "ytbfkbiembbbbpaa", sum := "a55fe30280408dc911199b89bb3867b8e73b1cc8b7ad5fbc2211fcd4303fa702", func := "loop.example/g00674/laws.FnPuts", spec := "fnPuts", apart := false, narrowed := true }
def FnPutsUptoSaid : Prop := fnPutsUptoRow.holds Try.pinned (OpenSpec.upto fnPutsSpec)

/-- 'laws.FnJoins', WHERE WHAT IT READS IS OF BULK AT MOST 1048576: true; the input reads as it did. -/
def fnJoinsUptoRow : OpenClaim := { program := "ytbfkbiembbbbpaa", sum := "a55fe30280408dc911199b89bb3867b8e73b1cc8b7ad5fbc2211fcd4303fa702", func := "loop.example/g00674/laws.FnJoins", spec := "fnJoins", apart := false, narrowed := true }
def FnJoinsUptoSaid : Prop := fnJoinsUptoRow.holds Try.pinned (OpenSpec.upto fnJoinsSpec)

/-- 'laws.FnCrcs', WHERE WHAT IT READS IS OF BULK AT MOST 1048576: true; the input reads as it did. -/
def fnCrcsUptoRow : OpenClaim := { program := "ytbfkbiembbbbpaa", sum := "a55fe30280408dc911199b89bb3867b8e73b1cc8b7ad5fbc2211fcd4303fa702", func := "loop.example/g00674/laws.FnCrcs", spec := "fnCrcs", apart := false, narrowed := true }
def FnCrcsUptoSaid : Prop := fnCrcsUptoRow.holds Try.pinned (OpenSpec.upto fnCrcsSpec)

/-- 'laws.FnEntries', WHERE WHAT IT READS IS OF BULK AT MOST 1048576: true; the input reads as it did. -/
def fnEntriesUptoRow : OpenClaim := { program := "ytbfkbiembbbbpaa", sum := "a55fe30280408dc911199b89bb3867b8e73b1cc8b7ad5fbc2211fcd4303fa702", func := "loop.example/g00674/laws.FnEntries", spec := "fnEntries", apart := false, narrowed := true }
def FnEntriesUptoSaid : Prop := fnEntriesUptoRow.holds Try.pinned (OpenSpec.upto fnEntriesSpec)

/-- 'laws.FnTurned', WHERE WHAT IT READS IS OF BULK AT MOST 1048576: true; the input reads as it did. -/
def fnTurnedUptoRow : OpenClaim := { program := "ytbfkbiembbbbpaa", sum := "a55fe30280408dc911199b89bb3867b8e73b1cc8b7ad5fbc2211fcd4303fa702", func := "loop.example/g00674/laws.FnTurned", spec := "fnTurned", apart := false, narrowed := true }
def FnTurnedUptoSaid : Prop := fnTurnedUptoRow.holds Try.pinned (OpenSpec.upto fnTurnedSpec)

/-- 'laws.FnExactJoin', WHERE WHAT IT READS IS OF BULK AT MOST 1048576: true; the input reads as it did. -/
def fnExactJoinUptoRow : OpenClaim := { program := "ytbfkbiembbbbpaa", sum := "a55fe30280408dc911199b89bb3867b8e73b1cc8b7ad5fbc2211fcd4303fa702", func := "loop.example/g00674/laws.FnExactJoin", spec := "fnExactJoin", apart := false, narrowed := true }
def FnExactJoinUptoSaid : Prop := fnExactJoinUptoRow.holds Try.pinned (OpenSpec.upto fnExactJoinSpec)

/-- 'laws.FnExactCrcEntry', WHERE WHAT IT READS IS OF BULK AT MOST 1048576: true; the input reads as it did. -/
def fnExactCrcEntryUptoRow : OpenClaim := { program := "ytbfkbiembbbbpaa", sum := "a55fe30280408dc911199b89bb3867b8e73b1cc8b7ad5fbc2211fcd4303fa702", func := "loop.example/g00674/laws.FnExactCrcEntry", spec := "fnExactCrcEntry", apart := false, narrowed := true }
def FnExactCrcEntryUptoSaid : Prop := fnExactCrcEntryUptoRow.holds Try.pinned (OpenSpec.upto fnExactCrcEntrySpec)

/-- 'laws.FnExactCrcStep', WHERE WHAT IT READS IS OF BULK AT MOST 1048576: true; the input reads as it did. -/
def fnExactCrcStepUptoRow : OpenClaim := { program := "ytbfkbiembbbbpaa", sum := "a55fe30280408dc911199b89bb3867b8e73b1cc8b7ad5fbc2211fcd4303fa702", func := "loop.example/g00674/laws.FnExactCrcStep", spec := "fnExactCrcStep", apart := false, narrowed := true }
def FnExactCrcStepUptoSaid : Prop := fnExactCrcStepUptoRow.holds Try.pinned (OpenSpec.upto fnExactCrcStepSpec)

/-- 'laws.FnExactCrcFrom', WHERE WHAT IT READS IS OF BULK AT MOST 1048576: true; the input reads as it did. -/
def fnExactCrcFromUptoRow : OpenClaim := { program := "ytbfkbiembbbbpaa", sum := "a55fe30280408dc911199b89bb3867b8e73b1cc8b7ad5fbc2211fcd4303fa702", func := "loop.example/g00674/laws.FnExactCrcFrom", spec := "fnExactCrcFrom", apart := false, narrowed := true }
def FnExactCrcFromUptoSaid : Prop := fnExactCrcFromUptoRow.holds Try.pinned (OpenSpec.upto fnExactCrcFromSpec)

/-- 'laws.FnExactCrc', WHERE WHAT IT READS IS OF BULK AT MOST 1048576: true; the input reads as it did. -/
def fnExactCrcUptoRow : OpenClaim := { program := "ytbfkbiembbbbpaa", sum := "a55fe30280408dc911199b89bb3867b8e73b1cc8b7ad5fbc2211fcd4303fa702", func := "loop.example/g00674/laws.FnExactCrc", spec := "fnExactCrc", apart := false, narrowed := true }
def FnExactCrcUptoSaid : Prop := fnExactCrcUptoRow.holds Try.pinned (OpenSpec.upto fnExactCrcSpec)

end Rows
end Go.Proofs.Ytbfkbiembbbbpaa
