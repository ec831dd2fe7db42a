/-
  No cell of these rows narrows 'for every input' (looked for: loops, veiled, ifaces, maps, wideKeys, modest, calm, conditions, laid).
  DERIVED. THE GIVEN ROWS OF THIS SEAT. 3 by the template 'for every input the law returns true; each argument reads behind the call as it read before'; 0 by the template 'total and deterministic' (their statements: YtdeikdlbgjpooaaTotals.lean).
  GIVEN WITH THE SEED: the statements are not yours to turn. If you find one false, say at which input.
  Laid BY PROGRAM, IN A SANDBOX (cutbox-rows.mjs): the forced cells as the released guide's own fill.sh prints them over the translation 2e735a937609ad11… (all of the seat's roots in one cut). By AI agents, Wed Nov 11 2026. No macro, syntax, notation, axiom, sorry.
-/
import Derived.Test.YtdeikdlbgjpooaaChecked
import GoSem.Claim
import GoSem.ClaimJoined
import GoSem.ClaimMapViews
import Derived.JoinedTies
import Derived.KernelRfl
namespace Go.Proofs.Ytdeikdlbgjpooaa
/- THE CELL 'sum', in the pinned program and in every row, IS THE sha256 OF THE DUMP (.gsa) THAT YtdeikdlbgjpooaaProg.lean LOADS. Nothing in Lean hashes anything: it is a label: what it is worth is what the hold of that sum in a sandbox is worth. -/
noncomputable def Try.pinned : Pinned := { name := "ytdeikdlbgjpooaa", sum := "2e735a937609ad1137cb760ff5b98e05ba125aab71b75aef87345d087470fb43", checked := Try.checked }
namespace Rows
def none {H : Type} : Left H := { results := [], args := [] }

/-- 'laws.FnExactPutLens': WHATEVER THE INPUT: true; the input reads as it did. -/
def fnExactPutLensSpec : ChangeSpec := { name := "fnExactPutLens", fn := fun _ => fun
  | [d] => { results := [.lit (.bool true)], args := [d] }
  | _ => none }
def fnExactPutLensRow : OpenClaim := { program := "ytdeikdlbgjpooaa", sum := "2e735a937609ad1137cb760ff5b98e05ba125aab71b75aef87345d087470fb43", func := "loop.example/g00674/laws.FnExactPutLens", spec := "fnExactPutLens", apart := false }
def FnExactPutLensSaid : Prop := fnExactPutLensRow.holds Try.pinned (OpenSpec.ofChange fnExactPutLensSpec)

/-- ITS FALSE NEIGHBOUR: 'it returns false'. Refute it at one input. -/
def fnExactPutLensWrong : ChangeSpec := { name := "fnExactPutLens", fn := fun _ => fun
  | [d] => { results := [.lit (.bool false)], args := [d] }
  | _ => none }
def FnExactPutLensWrongFalsely : Prop := fnExactPutLensRow.holds Try.pinned (OpenSpec.ofChange fnExactPutLensWrong)

/-- 'laws.FnExactLensCost': WHATEVER THE INPUT: true; the input reads as it did. -/
def fnExactLensCostSpec : ChangeSpec := { name := "fnExactLensCost", fn := fun _ => fun
  | [d] => { results := [.lit (.bool true)], args := [d] }
  | _ => none }
def fnExactLensCostRow : OpenClaim := { program := "ytdeikdlbgjpooaa", sum := "2e735a937609ad1137cb760ff5b98e05ba125aab71b75aef87345d087470fb43", func := "loop.example/g00674/laws.FnExactLensCost", spec := "fnExactLensCost", apart := false }
def FnExactLensCostSaid : Prop := fnExactLensCostRow.holds Try.pinned (OpenSpec.ofChange fnExactLensCostSpec)

/-- ITS FALSE NEIGHBOUR: 'it returns false'. Refute it at one input. -/
def fnExactLensCostWrong : ChangeSpec := { name := "fnExactLensCost", fn := fun _ => fun
  | [d] => { results := [.lit (.bool false)], args := [d] }
  | _ => none }
def FnExactLensCostWrongFalsely : Prop := fnExactLensCostRow.holds Try.pinned (OpenSpec.ofChange fnExactLensCostWrong)

/-- 'laws.FnExactGetLens': WHATEVER THE INPUT: true; the input reads as it did. -/
def fnExactGetLensSpec : ChangeSpec := { name := "fnExactGetLens", fn := fun _ => fun
  | [d1, d2] => { results := [.lit (.bool true)], args := [d1, d2] }
  | _ => none }
def fnExactGetLensRow : OpenClaim := { program := "ytdeikdlbgjpooaa", sum := "2e735a937609ad1137cb760ff5b98e05ba125aab71b75aef87345d087470fb43", func := "loop.example/g00674/laws.FnExactGetLens", spec := "fnExactGetLens", apart := false }
def FnExactGetLensSaid : Prop := fnExactGetLensRow.holds Try.pinned (OpenSpec.ofChange fnExactGetLensSpec)

/-- ITS FALSE NEIGHBOUR: 'it returns false'. Refute it at one input. -/
def fnExactGetLensWrong : ChangeSpec := { name := "fnExactGetLens", fn := fun _ => fun
  | [d1, d2] => { results := [.lit (.bool false)], args := [d1, d2] }
  | _ => none }
def FnExactGetLensWrongFalsely : Prop := fnExactGetLensRow.holds Try.pinned (OpenSpec.ofChange fnExactGetLensWrong)

/- THE SECOND FORM. 'bulk': how many values and letters a reading holds, each counted each time it is reached (what is shared counts as often as it is met; a slice's spare places count too). A statement '..UptoSaid' is the law's where the arguments, and the package variables that the reading takes, are together of bulk at most 1048576: NARROWER than '..Said'. Prove '..Said' where nothing that the law and all that it calls make is longer than what came in: it says more and counts as full. Else prove '..UptoSaid'. A law counts once. -/
mutual
def uptoBulk {H : Type} : DataW H → Nat
  | .lit (.string bytes) => bytes.length + 1
  | .lit _ => 1
  | .nil => 1
  | .ptr d => uptoBulk d + 1
  | .slice elems spare => uptoBulkAll elems + uptoBulkAll spare + 1
  | .agg parts => uptoBulkAll parts + 1
  | .iface _ d => uptoBulk d + 1
  | .map entries => uptoBulkEntries entries + 1
  | .held _ => 1
def uptoBulkAll {H : Type} : List (DataW H) → Nat
  | [] => 0
  | d :: r => uptoBulk d + uptoBulkAll r
def uptoBulkEntries {H : Type} : List (Lit × DataW H) → Nat
  | [] => 0
  | x :: r => uptoBulkEntry x + uptoBulkEntries r
def uptoBulkEntry {H : Type} : Lit × DataW H → Nat
  | (.string bytes, d) => bytes.length + uptoBulk d + 1
  | (_, d) => uptoBulk d + 1
 end
def uptoSmall : (H : Type) → List (DataW H) → Bool := fun _ ds => decide (uptoBulkAll ds ≤ 1048576)
def OpenSpec.upto (s : _root_.Go.ChangeSpec) : _root_.Go.OpenSpec := { _root_.Go.OpenSpec.ofChange s with cond := some uptoSmall }

/-- 'laws.FnExactPutLens', WHERE WHAT IT READS IS OF BULK AT MOST 1048576: true; the input reads as it did. -/
def fnExactPutLensUptoRow : OpenClaim := { program := "ytdeikdlbgjpooaa", sum := "2e735a937609ad1137cb760ff5b98e05ba125aab71b75aef87345d087470fb43", func := "loop.example/g00674/laws.FnExactPutLens", spec := "fnExactPutLens", apart := false, narrowed := true }
def FnExactPutLensUptoSaid : Prop := fnExactPutLensUptoRow.holds Try.pinned (OpenSpec.upto fnExactPutLensSpec)

/-- 'laws.FnExactLensCost', WHERE WHAT IT READS IS OF BULK AT MOST 1048576: true; the input reads as it did. -/
def fnExactLensCostUptoRow : OpenClaim := { program := "ytdeikdlbgjpooaa", sum := "2e735a937609ad1137cb760ff5b98e05ba125aab71b75aef87345d087470fb43", func := "loop.example/g00674/laws.FnExactLensCost", spec := "fnExactLensCost", apart := false, narrowed := true }
def FnExactLensCostUptoSaid : Prop := fnExactLensCostUptoRow.holds Try.pinned (OpenSpec.upto fnExactLensCostSpec)

/-- 'laws.FnExactGetLens', WHERE WHAT IT READS IS OF BULK AT MOST 1048576: true; the input reads as it did. -/
def fnExactGetLensUptoRow : OpenClaim := { program := "ytdeikdlbgjpooaa", sum := "2e735a937609ad1137cb760ff5b98e05ba125aab71b75aef87345d087470fb43", func := "loop.example/g00674/laws.FnExactGetLens", spec := "fnExactGetLens", apart := false, narrowed := true }
def FnExactGetLensUptoSaid : Prop := fnExactGetLensUptoRow.holds Try.pinned (OpenSpec.upto fnExactGetLensSpec)

end Rows
end Go.Proofs.Ytdeikdlbgjpooaa
