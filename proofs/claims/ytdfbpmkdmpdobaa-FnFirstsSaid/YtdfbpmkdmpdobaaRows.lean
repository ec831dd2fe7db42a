/-
  No cell of these rows narrows 'for every input' (looked for: loops, veiled, ifaces, maps, wideKeys, modest, calm, conditions, laid).
  DERIVED. THE GIVEN ROWS OF THIS SEAT. 9 by the template 'for every input the law returns true; each argument reads behind the call as it read before'; 0 by the template 'total and deterministic' (their statements: YtdfbpmkdmpdobaaTotals.lean).
  GIVEN WITH THE SEED: the statements are not yours to turn. If you find one false, say at which input.
  Laid BY PROGRAM, IN A SANDBOX (cutbox-rows.mjs): the forced cells as the released guide's own fill.sh prints them over the translation 4cf76a6fac80f6bc… (all of the seat's roots in one cut). By AI agents, Wed Nov 11 2026. No macro, syntax, notation, axiom, sorry.
-/
import Derived.Test.YtdfbpmkdmpdobaaChecked
import GoSem.Claim
import GoSem.ClaimJoined
import GoSem.ClaimMapViews
import Derived.JoinedTies
import Derived.KernelRfl
namespace Go.Proofs.Ytdfbpmkdmpdobaa
/- THE CELL 'sum', in the pinned program and in every row, IS THE sha256 OF THE DUMP (.gsa) THAT YtdfbpmkdmpdobaaProg.lean LOADS. Nothing in Lean hashes anything: it is a label: what it is worth is what the hold of that sum in a sandbox is worth. -/
noncomputable def Try.pinned : Pinned := { name := "ytdfbpmkdmpdobaa", sum := "4cf76a6fac80f6bc27785b366ce15fd49e59762b4e8460d9ac440cc0c03be2e7", checked := Try.checked }
namespace Rows
def none {H : Type} : Left H := { results := [], args := [] }

/-- 'laws.FnCodes': WHATEVER THE INPUT: true; the input reads as it did. -/
def fnCodesSpec : ChangeSpec := { name := "fnCodes", fn := fun _ => fun
  | [d] => { results := [.lit (.bool true)], args := [d] }
  | _ => none }
def fnCodesRow : OpenClaim := { program := "ytdfbpmkdmpdobaa", sum := "4cf76a6fac80f6bc27785b366ce15fd49e59762b4e8460d9ac440cc0c03be2e7", func := "loop.example/g00674/laws.FnCodes", spec := "fnCodes", plainKeys := false, apart := false }
def FnCodesSaid : Prop := fnCodesRow.holds Try.pinned (OpenSpec.ofChange fnCodesSpec)

/-- ITS FALSE NEIGHBOUR: 'it returns false'. Refute it at one input. -/
def fnCodesWrong : ChangeSpec := { name := "fnCodes", fn := fun _ => fun
  | [d] => { results := [.lit (.bool false)], args := [d] }
  | _ => none }
def FnCodesWrongFalsely : Prop := fnCodesRow.holds Try.pinned (OpenSpec.ofChange fnCodesWrong)

/-- 'laws.FnSyms': WHATEVER THE INPUT: true; the input reads as it did. -/
def fnSymsSpec : ChangeSpec := { name := "fnSyms", fn := fun _ => fun
  | [d] => { results := [.lit (.bool true)], args := [d] }
  | _ => none }
def fnSymsRow : OpenClaim := { program := "ytdfbpmkdmpdobaa", sum := "4cf76a6fac80f6bc27785b366ce15fd49e59762b4e8460d9ac440cc0c03be2e7", func := "loop.example/g00674/laws.FnSyms", spec := "fnSyms", plainKeys := false, apart := false }
def FnSymsSaid : Prop := fnSymsRow.holds Try.pinned (OpenSpec.ofChange fnSymsSpec)

/-- ITS FALSE NEIGHBOUR: 'it returns false'. Refute it at one input. -/
def fnSymsWrong : ChangeSpec := { name := "fnSyms", fn := fun _ => fun
  | [d] => { results := [.lit (.bool false)], args := [d] }
  | _ => none }
def FnSymsWrongFalsely : Prop := fnSymsRow.holds Try.pinned (OpenSpec.ofChange fnSymsWrong)

/-- 'laws.FnFirsts': WHATEVER THE INPUT: true; the input reads as it did. -/
def fnFirstsSpec : ChangeSpec := { name := "fnFirsts", fn := fun _ => fun
  | [d] => { results := [.lit (.bool true)], args := [d] }
  | _ => none }
def fnFirstsRow : OpenClaim := { program := "ytdfbpmkdmpdobaa", sum := "4cf76a6fac80f6bc27785b366ce15fd49e59762b4e8460d9ac440cc0c03be2e7", func := "loop.example/g00674/laws.FnFirsts", spec := "fnFirsts", plainKeys := false, apart := false }
def FnFirstsSaid : Prop := fnFirstsRow.holds Try.pinned (OpenSpec.ofChange fnFirstsSpec)

/-- ITS FALSE NEIGHBOUR: 'it returns false'. Refute it at one input. -/
def fnFirstsWrong : ChangeSpec := { name := "fnFirsts", fn := fun _ => fun
  | [d] => { results := [.lit (.bool false)], args := [d] }
  | _ => none }
def FnFirstsWrongFalsely : Prop := fnFirstsRow.holds Try.pinned (OpenSpec.ofChange fnFirstsWrong)

/-- 'laws.FnExactOrder': WHATEVER THE INPUT: true; the input reads as it did. -/
def fnExactOrderSpec : ChangeSpec := { name := "fnExactOrder", fn := fun _ => fun
  | [d] => { results := [.lit (.bool true)], args := [d] }
  | _ => none }
def fnExactOrderRow : OpenClaim := { program := "ytdfbpmkdmpdobaa", sum := "4cf76a6fac80f6bc27785b366ce15fd49e59762b4e8460d9ac440cc0c03be2e7", func := "loop.example/g00674/laws.FnExactOrder", spec := "fnExactOrder", plainKeys := false, apart := false }
def FnExactOrderSaid : Prop := fnExactOrderRow.holds Try.pinned (OpenSpec.ofChange fnExactOrderSpec)

/-- ITS FALSE NEIGHBOUR: 'it returns false'. Refute it at one input. -/
def fnExactOrderWrong : ChangeSpec := { name := "fnExactOrder", fn := fun _ => fun
  | [d] => { results := [.lit (.bool false)], args := [d] }
  | _ => none }
def FnExactOrderWrongFalsely : Prop := fnExactOrderRow.holds Try.pinned (OpenSpec.ofChange fnExactOrderWrong)

/-- 'laws.FnExactCodes': WHATEVER THE INPUT: true; the input reads as it did. -/
def fnExactCodesSpec : ChangeSpec := { name := "fnExactCodes", fn := fun _ => fun
  | [d] => { results := [.lit (.bool true)], args := [d] }
  | _ => none }
def fnExactCodesRow : OpenClaim := { program := "ytdfbpmkdmpdobaa", sum := "4cf76a6fac80f6bc27785b366ce15fd49e59762b4e8460d9ac440cc0c03be2e7", func := "loop.example/g00674/laws.FnExactCodes", spec := "fnExactCodes", plainKeys := false, apart := false }
def FnExactCodesSaid : Prop := fnExactCodesRow.holds Try.pinned (OpenSpec.ofChange fnExactCodesSpec)

/-- ITS FALSE NEIGHBOUR: 'it returns false'. Refute it at one input. -/
def fnExactCodesWrong : ChangeSpec := { name := "fnExactCodes", fn := fun _ => fun
  | [d] => { results := [.lit (.bool false)], args := [d] }
  | _ => none }
def FnExactCodesWrongFalsely : Prop := fnExactCodesRow.holds Try.pinned (OpenSpec.ofChange fnExactCodesWrong)

/-- 'laws.FnExactPutSyms': WHATEVER THE INPUT: true; the input reads as it did. -/
def fnExactPutSymsSpec : ChangeSpec := { name := "fnExactPutSyms", fn := fun _ => fun
  | [d1, d2] => { results := [.lit (.bool true)], args := [d1, d2] }
  | _ => none }
def fnExactPutSymsRow : OpenClaim := { program := "ytdfbpmkdmpdobaa", sum := "4cf76a6fac80f6bc27785b366ce15fd49e59762b4e8460d9ac440cc0c03be2e7", func := "loop.example/g00674/laws.FnExactPutSyms", spec := "fnExactPutSyms", plainKeys := false, apart := false }
def FnExactPutSymsSaid : Prop := fnExactPutSymsRow.holds Try.pinned (OpenSpec.ofChange fnExactPutSymsSpec)

/-- ITS FALSE NEIGHBOUR: 'it returns false'. Refute it at one input. -/
def fnExactPutSymsWrong : ChangeSpec := { name := "fnExactPutSyms", fn := fun _ => fun
  | [d1, d2] => { results := [.lit (.bool false)], args := [d1, d2] }
  | _ => none }
def FnExactPutSymsWrongFalsely : Prop := fnExactPutSymsRow.holds Try.pinned (OpenSpec.ofChange fnExactPutSymsWrong)

/-- 'laws.FnExactSymBits': WHATEVER THE INPUT: true; the input reads as it did. -/
def fnExactSymBitsSpec : ChangeSpec := { name := "fnExactSymBits", fn := fun _ => fun
  | [d1, d2] => { results := [.lit (.bool true)], args := [d1, d2] }
  | _ => none }
def fnExactSymBitsRow : OpenClaim := { program := "ytdfbpmkdmpdobaa", sum := "4cf76a6fac80f6bc27785b366ce15fd49e59762b4e8460d9ac440cc0c03be2e7", func := "loop.example/g00674/laws.FnExactSymBits", spec := "fnExactSymBits", plainKeys := false, apart := false }
def FnExactSymBitsSaid : Prop := fnExactSymBitsRow.holds Try.pinned (OpenSpec.ofChange fnExactSymBitsSpec)

/-- ITS FALSE NEIGHBOUR: 'it returns false'. Refute it at one input. -/
def fnExactSymBitsWrong : ChangeSpec := { name := "fnExactSymBits", fn := fun _ => fun
  | [d1, d2] => { results := [.lit (.bool false)], args := [d1, d2] }
  | _ => none }
def FnExactSymBitsWrongFalsely : Prop := fnExactSymBitsRow.holds Try.pinned (OpenSpec.ofChange fnExactSymBitsWrong)

/-- 'laws.FnExactGetSym': WHATEVER THE INPUT: true; the input reads as it did. -/
def fnExactGetSymSpec : ChangeSpec := { name := "fnExactGetSym", fn := fun _ => fun
  | [d1, d2] => { results := [.lit (.bool true)], args := [d1, d2] }
  | _ => none }
def fnExactGetSymRow : OpenClaim := { program := "ytdfbpmkdmpdobaa", sum := "4cf76a6fac80f6bc27785b366ce15fd49e59762b4e8460d9ac440cc0c03be2e7", func := "loop.example/g00674/laws.FnExactGetSym", spec := "fnExactGetSym", plainKeys := false, apart := false }
def FnExactGetSymSaid : Prop := fnExactGetSymRow.holds Try.pinned (OpenSpec.ofChange fnExactGetSymSpec)

/-- ITS FALSE NEIGHBOUR: 'it returns false'. Refute it at one input. -/
def fnExactGetSymWrong : ChangeSpec := { name := "fnExactGetSym", fn := fun _ => fun
  | [d1, d2] => { results := [.lit (.bool false)], args := [d1, d2] }
  | _ => none }
def FnExactGetSymWrongFalsely : Prop := fnExactGetSymRow.holds Try.pinned (OpenSpec.ofChange fnExactGetSymWrong)

/-- 'laws.FnExactGetSyms': WHATEVER THE INPUT: true; the input reads as it did. -/
def fnExactGetSymsSpec : ChangeSpec := { name := "fnExactGetSyms", fn := fun _ => fun
  | [d1, d2, d3] => { results := [.lit (.bool true)], args := [d1, d2, d3] }
  | _ => none }
def fnExactGetSymsRow : OpenClaim := { program := "ytdfbpmkdmpdobaa", sum := "4cf76a6fac80f6bc27785b366ce15fd49e59762b4e8460d9ac440cc0c03be2e7", func := "loop.example/g00674/laws.FnExactGetSyms", spec := "fnExactGetSyms", plainKeys := false, apart := false }
def FnExactGetSymsSaid : Prop := fnExactGetSymsRow.holds Try.pinned (OpenSpec.ofChange fnExactGetSymsSpec)

/-- ITS FALSE NEIGHBOUR: 'it returns false'. Refute it at one input. -/
def fnExactGetSymsWrong : ChangeSpec := { name := "fnExactGetSyms", fn := fun _ => fun
  | [d1, d2, d3] => { results := [.lit (.bool false)], args := [d1, d2, d3] }
  | _ => none }
def FnExactGetSymsWrongFalsely : Prop := fnExactGetSymsRow.holds Try.pinned (OpenSpec.ofChange fnExactGetSymsWrong)

/- THE SECOND FORM. 'bulk': how many values and letters a reading holds, each counted each time it is reached (what is shared counts as often as it is met; a slice's spare places count too). A statement '..UptoSaid' is the law's where the arguments, and the package variables that the reading takes, are together of bulk at most 1048576: NARROWER than '..Said'. Prove '..Said' where nothing that the law and all that it calls make is longer than what came in: it says more and counts as full. Else prove '..UptoSaid'. A law counts once. -/
mutual
def uptoBulk {H : Type} : DataW H → Nat
  | .lit (.string bytes) => bytes.length + 1
  | .lit _ => 1
  | .nil => 1
  | .ptr d => uptoBulk d + 1
  | .slice elems spare => uptoBulkAll elems + uptoBulkAll spare + 1
  | .agg parts => uptoBulkAll parts + 1
  | .iface _ d => uptoBulk d + 1
  | .map entries => uptoBulkEntries entries + 1
  | .held _ => 1
def uptoBulkAll {H : Type} : List (DataW H) → Nat
  | [] => 0
  | d :: r => uptoBulk d + uptoBulkAll r
def uptoBulkEntries {H : Type} : List (Lit × DataW H) → Nat
  | [] => 0
  | x :: r => uptoBulkEntry x + uptoBulkEntries r
def uptoBulkEntry {H : Type} : Lit × DataW H → Nat
  | (.string bytes, d) => bytes.length + uptoBulk d + 1
  | (_, d) => uptoBulk d + 1
 end
def uptoSmall : (H : Type) → List (DataW H) → Bool := fun _ ds => decide (uptoBulkAll ds ≤ 1048576)
def OpenSpec.upto (s : _root_.Go.ChangeSpec) : _root_.Go.OpenSpec := { _root_.Go.OpenSpec.ofChange s with cond := some uptoSmall }

/-- 'laws.FnCodes', WHERE WHAT IT READS IS OF BULK AT MOST 1048576: true; the input reads as it did. -/
def fnCodesUptoRow : OpenClaim := { program := "ytdfbpmkdmpdobaa", sum := "4cf76a6fac80f6bc27785b366ce15fd49e59762b4e8460d9ac440cc0c03be2e7", func := "loop.example/g00674/laws.FnCodes", spec := "fnCodes", plainKeys := false, apart := false, narrowed := true }
def FnCodesUptoSaid : Prop := fnCodesUptoRow.holds Try.pinned (OpenSpec.upto fnCodesSpec)

/-- 'laws.FnSyms', WHERE WHAT IT READS IS OF BULK AT MOST 1048576: true; the input reads as it did. -/
def fnSymsUptoRow : OpenClaim := { program := "ytdfbpmkdmpdobaa", sum := "4cf76a6fac80f6bc27785b366ce15fd49e59762b4e8460d9ac440cc0c03be2e7", func := "loop.example/g00674/laws.FnSyms", spec := "fnSyms", plainKeys := false, apart := false, narrowed := true }
def FnSymsUptoSaid : Prop := fnSymsUptoRow.holds Try.pinned (OpenSpec.upto fnSymsSpec)

/-- 'laws.FnFirsts', WHERE WHAT IT READS IS OF BULK AT MOST 1048576: true; the input reads as it did. -/
def fnFirstsUptoRow : OpenClaim := { program := "ytdfbpmkdmpdobaa", sum := "4cf76a6fac80f6bc27785b366ce15fd49e59762b4e8460d9ac440cc0c03be2e7", func := "loop.example/g00674/laws.FnFirsts", spec := "fnFirsts", plainKeys := false, apart := false, narrowed := true }
def FnFirstsUptoSaid : Prop := fnFirstsUptoRow.holds Try.pinned (OpenSpec.upto fnFirstsSpec)

/-- 'laws.FnExactOrder', WHERE WHAT IT READS IS OF BULK AT MOST 1048576: true; the input reads as it did. -/
def fnExactOrderUptoRow : OpenClaim := { program := "ytdfbpmkdmpdobaa", sum := "4cf76a6fac80f6bc27785b366ce15fd49e59762b4e8460d9ac440cc0c03be2e7", func := "loop.example/g00674/laws.FnExactOrder", spec := "fnExactOrder", plainKeys := false, apart := false, narrowed := true }
def FnExactOrderUptoSaid : Prop := fnExactOrderUptoRow.holds Try.pinned (OpenSpec.upto fnExactOrderSpec)

/-- 'laws.FnExactCodes', WHERE WHAT IT READS IS OF BULK AT MOST 1048576: true; the input reads as it did. -/
def fnExactCodesUptoRow : OpenClaim := { program := "ytdfbpmkdmpdobaa", sum := "4cf76a6fac80f6bc27785b366ce15fd49e59762b4e8460d9ac440cc0c03be2e7", func := "loop.example/g00674/laws.FnExactCodes", spec := "fnExactCodes", plainKeys := false, apart := false, narrowed := true }
def FnExactCodesUptoSaid : Prop := fnExactCodesUptoRow.holds Try.pinned (OpenSpec.upto fnExactCodesSpec)

/-- 'laws.FnExactPutSyms', WHERE WHAT IT READS IS OF BULK AT MOST 1048576: true; the input reads as it did. -/
def fnExactPutSymsUptoRow : OpenClaim := { program := "ytdfbpmkdmpdobaa", sum := "4cf76a6fac80f6bc27785b366ce15fd49e59762b4e8460d9ac440cc0c03be2e7", func := "loop.example/g00674/laws.FnExactPutSyms", spec := "fnExactPutSyms", plainKeys := false, apart := false, narrowed := true }
def FnExactPutSymsUptoSaid : Prop := fnExactPutSymsUptoRow.holds Try.pinned (OpenSpec.upto fnExactPutSymsSpec)

/-- 'laws.FnExactSymBits', WHERE WHAT IT READS IS OF BULK AT MOST 1048576: true; the input reads as it did. -/
def fnExactSymBitsUptoRow : OpenClaim := { program := "ytdfbpmkdmpdobaa", sum := "4cf76a6fac80f6bc27785b366ce15fd49e59762b4e8460d9ac440cc0c03be2e7", func := "loop.example/g00674/laws.FnExactSymBits", spec := "fnExactSymBits", plainKeys := false, apart := false, narrowed := true }
def FnExactSymBitsUptoSaid : Prop := fnExactSymBitsUptoRow.holds Try.pinned (OpenSpec.upto fnExactSymBitsSpec)

/-- 'laws.FnExactGetSym', WHERE WHAT IT READS IS OF BULK AT MOST 1048576: true; the input reads as it did. -/
def fnExactGetSymUptoRow : OpenClaim := { program := "ytdfbpmkdmpdobaa", sum := "4cf76a6fac80f6bc27785b366ce15fd49e59762b4e8460d9ac440cc0c03be2e7", func := "loop.example/g00674/laws.FnExactGetSym", spec := "fnExactGetSym", plainKeys := false, apart := false, narrowed := true }
def FnExactGetSymUptoSaid : Prop := fnExactGetSymUptoRow.holds Try.pinned (OpenSpec.upto fnExactGetSymSpec)

/-- 'laws.FnExactGetSyms', WHERE WHAT IT READS IS OF BULK AT MOST 1048576: true; the input reads as it did. -/
def fnExactGetSymsUptoRow : OpenClaim := { program := "ytdfbpmkdmpdobaa", sum := "4cf76a6fac80f6bc27785b366ce15fd49e59762b4e8460d9ac440cc0c03be2e7", func := "loop.example/g00674/laws.FnExactGetSyms", spec := "fnExactGetSyms", plainKeys := false, apart := false, narrowed := true }
def FnExactGetSymsUptoSaid : Prop := fnExactGetSymsUptoRow.holds Try.pinned (OpenSpec.upto fnExactGetSymsSpec)

end Rows
end Go.Proofs.Ytdfbpmkdmpdobaa
