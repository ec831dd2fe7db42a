/-
  No cell of these rows narrows 'for every input' (looked for: loops, veiled, ifaces, maps, wideKeys, modest, calm, conditions, laid).
  DERIVED. THE GIVEN ROWS OF THIS SEAT. 9 by the template 'for every input the law returns true; each argument reads behind the call as it read before'; 0 by the template 'total and deterministic' (their statements: YtpmiphnjnbkjlaaTotals.lean).
  GIVEN WITH THE SEED: the statements are not yours to turn. If you find one false, say at which input.
  Laid BY PROGRAM, IN A SANDBOX (cutbox-rows.mjs): the forced cells as the released guide's own fill.sh prints them over the translation e9d7e6b9552bd97c… (all of the seat's roots in one cut). By AI agents, Wed Nov 11 2026. No macro, syntax, notation, axiom, sorry.
-/
import Derived.Test.YtpmiphnjnbkjlaaChecked
import GoSem.Claim
import GoSem.ClaimJoined
import GoSem.ClaimMapViews
import Derived.JoinedTies
import Derived.KernelRfl
namespace Go.Proofs.Ytpmiphnjnbkjlaa
/- THE CELL 'sum', in the pinned program and in every row, IS THE sha256 OF THE DUMP (.gsa) THAT YtpmiphnjnbkjlaaProg.lean LOADS. Nothing in Lean hashes anything: it is a label: what it is worth is what the hold of that sum in a sandbox is worth. -/
noncomputable def Try.pinned : Pinned := { name := "ytpmiphnjnbkjlaa", sum := "e9d7e6b9552bd97c5cf3720c62ef0b52ccacc44da1c3490051a497f7b14fc743", checked := Try.checked }
namespace Rows
def none {H : Type} : Left H := { results := [], args := [] }

/-- 'laws.FnLens': WHATEVER THE INPUT: true; the input reads as it did. -/
def fnLensSpec : ChangeSpec := { name := "fnLens", fn := fun _ => fun
  | [d] => { results := [.lit (.bool true)], args := [d] }
  | _ => none }
def fnLensRow : OpenClaim := { program := "ytpmiphnjnbkjlaa", sum := "e9d7e6b9552bd97c5cf3720c62ef0b52ccacc44da1c3490051a497f7b14fc743", func := "loop.example/g00674/laws.FnLens", spec := "fnLens", unfollowed := true, recurses := true, apart := false }
def FnLensSaid : Prop := fnLensRow.holds Try.pinned (OpenSpec.ofChange fnLensSpec)

/-- ITS FALSE NEIGHBOUR: 'it returns false'. Refute it at one input. -/
def fnLensWrong : ChangeSpec := { name := "fnLens", fn := fun _ => fun
  | [d] => { results := [.lit (.bool false)], args := [d] }
  | _ => none }
def FnLensWrongFalsely : Prop := fnLensRow.holds Try.pinned (OpenSpec.ofChange fnLensWrong)

/-- 'laws.FnBest': WHATEVER THE INPUT: true; the input reads as it did. -/
def fnBestSpec : ChangeSpec := { name := "fnBest", fn := fun _ => fun
  | [d] => { results := [.lit (.bool true)], args := [d] }
  | _ => none }
def fnBestRow : OpenClaim := { program := "ytpmiphnjnbkjlaa", sum := "e9d7e6b9552bd97c5cf3720c62ef0b52ccacc44da1c3490051a497f7b14fc743", func := "loop.example/g00674/laws.FnBest", spec := "fnBest", unfollowed := true, recurses := true, apart := false }
def FnBestSaid : Prop := fnBestRow.holds Try.pinned (OpenSpec.ofChange fnBestSpec)

/-- ITS FALSE NEIGHBOUR: 'it returns false'. Refute it at one input. -/
def fnBestWrong : ChangeSpec := { name := "fnBest", fn := fun _ => fun
  | [d] => { results := [.lit (.bool false)], args := [d] }
  | _ => none }
def FnBestWrongFalsely : Prop := fnBestRow.holds Try.pinned (OpenSpec.ofChange fnBestWrong)

/-- 'laws.FnOften': WHATEVER THE INPUT: true; the input reads as it did. -/
def fnOftenSpec : ChangeSpec := { name := "fnOften", fn := fun _ => fun
  | [d] => { results := [.lit (.bool true)], args := [d] }
  | _ => none }
def fnOftenRow : OpenClaim := { program := "ytpmiphnjnbkjlaa", sum := "e9d7e6b9552bd97c5cf3720c62ef0b52ccacc44da1c3490051a497f7b14fc743", func := "loop.example/g00674/laws.FnOften", spec := "fnOften", unfollowed := true, recurses := true, apart := false }
def FnOftenSaid : Prop := fnOftenRow.holds Try.pinned (OpenSpec.ofChange fnOftenSpec)

/-- ITS FALSE NEIGHBOUR: 'it returns false'. Refute it at one input. -/
def fnOftenWrong : ChangeSpec := { name := "fnOften", fn := fun _ => fun
  | [d] => { results := [.lit (.bool false)], args := [d] }
  | _ => none }
def FnOftenWrongFalsely : Prop := fnOftenRow.holds Try.pinned (OpenSpec.ofChange fnOftenWrong)

/-- 'laws.FnExactFreqsOk': WHATEVER THE INPUT: true; the input reads as it did. -/
def fnExactFreqsOkSpec : ChangeSpec := { name := "fnExactFreqsOk", fn := fun _ => fun
  | [d] => { results := [.lit (.bool true)], args := [d] }
  | _ => none }
def fnExactFreqsOkRow : OpenClaim := { program := "ytpmiphnjnbkjlaa", sum := "e9d7e6b9552bd97c5cf3720c62ef0b52ccacc44da1c3490051a497f7b14fc743", func := "loop.example/g00674/laws.FnExactFreqsOk", spec := "fnExactFreqsOk", apart := false }
def FnExactFreqsOkSaid : Prop := fnExactFreqsOkRow.holds Try.pinned (OpenSpec.ofChange fnExactFreqsOkSpec)

/-- ITS FALSE NEIGHBOUR: 'it returns false'. Refute it at one input. -/
def fnExactFreqsOkWrong : ChangeSpec := { name := "fnExactFreqsOk", fn := fun _ => fun
  | [d] => { results := [.lit (.bool false)], args := [d] }
  | _ => none }
def FnExactFreqsOkWrongFalsely : Prop := fnExactFreqsOkRow.holds Try.pinned (OpenSpec.ofChange fnExactFreqsOkWrong)

/-- 'laws.FnExactLens': WHATEVER THE INPUT: true; the input reads as it did. -/
def fnExactLensSpec : ChangeSpec := { name := "fnExactLens", fn := fun _ => fun
  | [d1, d2] => { results := [.lit (.bool true)], args := [d1, d2] }
  | _ => none }
def fnExactLensRow : OpenClaim := { program := "ytpmiphnjnbkjlaa", sum := "e9d7e6b9552bd97c5cf3720c62ef0b52ccacc44da1c3490051a497f7b14fc743", func := "loop.example/g00674/laws.FnExactLens", spec := "fnExactLens", unfollowed := true, recurses := true, apart := false }
def FnExactLensSaid : Prop := fnExactLensRow.holds Try.pinned (OpenSpec.ofChange fnExactLensSpec)

/-- ITS FALSE NEIGHBOUR: 'it returns false'. Refute it at one input. -/
def fnExactLensWrong : ChangeSpec := { name := "fnExactLens", fn := fun _ => fun
  | [d1, d2] => { results := [.lit (.bool false)], args := [d1, d2] }
  | _ => none }
def FnExactLensWrongFalsely : Prop := fnExactLensRow.holds Try.pinned (OpenSpec.ofChange fnExactLensWrong)

/-- 'laws.FnExactLensOk': WHATEVER THE INPUT: true; the input reads as it did. -/
def fnExactLensOkSpec : ChangeSpec := { name := "fnExactLensOk", fn := fun _ => fun
  | [d] => { results := [.lit (.bool true)], args := [d] }
  | _ => none }
def fnExactLensOkRow : OpenClaim := { program := "ytpmiphnjnbkjlaa", sum := "e9d7e6b9552bd97c5cf3720c62ef0b52ccacc44da1c3490051a497f7b14fc743", func := "loop.example/g00674/laws.FnExactLensOk", spec := "fnExactLensOk", apart := false }
def FnExactLensOkSaid : Prop := fnExactLensOkRow.holds Try.pinned (OpenSpec.ofChange fnExactLensOkSpec)

/-- ITS FALSE NEIGHBOUR: 'it returns false'. Refute it at one input. -/
def fnExactLensOkWrong : ChangeSpec := { name := "fnExactLensOk", fn := fun _ => fun
  | [d] => { results := [.lit (.bool false)], args := [d] }
  | _ => none }
def FnExactLensOkWrongFalsely : Prop := fnExactLensOkRow.holds Try.pinned (OpenSpec.ofChange fnExactLensOkWrong)

/-- 'laws.FnExactKraft': WHATEVER THE INPUT: true; the input reads as it did. -/
def fnExactKraftSpec : ChangeSpec := { name := "fnExactKraft", fn := fun _ => fun
  | [d] => { results := [.lit (.bool true)], args := [d] }
  | _ => none }
def fnExactKraftRow : OpenClaim := { program := "ytpmiphnjnbkjlaa", sum := "e9d7e6b9552bd97c5cf3720c62ef0b52ccacc44da1c3490051a497f7b14fc743", func := "loop.example/g00674/laws.FnExactKraft", spec := "fnExactKraft", apart := false }
def FnExactKraftSaid : Prop := fnExactKraftRow.holds Try.pinned (OpenSpec.ofChange fnExactKraftSpec)

/-- ITS FALSE NEIGHBOUR: 'it returns false'. Refute it at one input. -/
def fnExactKraftWrong : ChangeSpec := { name := "fnExactKraft", fn := fun _ => fun
  | [d] => { results := [.lit (.bool false)], args := [d] }
  | _ => none }
def FnExactKraftWrongFalsely : Prop := fnExactKraftRow.holds Try.pinned (OpenSpec.ofChange fnExactKraftWrong)

/-- 'laws.FnExactCostOf': WHATEVER THE INPUT: true; the input reads as it did. -/
def fnExactCostOfSpec : ChangeSpec := { name := "fnExactCostOf", fn := fun _ => fun
  | [d1, d2] => { results := [.lit (.bool true)], args := [d1, d2] }
  | _ => none }
def fnExactCostOfRow : OpenClaim := { program := "ytpmiphnjnbkjlaa", sum := "e9d7e6b9552bd97c5cf3720c62ef0b52ccacc44da1c3490051a497f7b14fc743", func := "loop.example/g00674/laws.FnExactCostOf", spec := "fnExactCostOf", apart := false }
def FnExactCostOfSaid : Prop := fnExactCostOfRow.holds Try.pinned (OpenSpec.ofChange fnExactCostOfSpec)

/-- ITS FALSE NEIGHBOUR: 'it returns false'. Refute it at one input. -/
def fnExactCostOfWrong : ChangeSpec := { name := "fnExactCostOf", fn := fun _ => fun
  | [d1, d2] => { results := [.lit (.bool false)], args := [d1, d2] }
  | _ => none }
def FnExactCostOfWrongFalsely : Prop := fnExactCostOfRow.holds Try.pinned (OpenSpec.ofChange fnExactCostOfWrong)

/-- 'laws.FnExactHuffCost': WHATEVER THE INPUT: true; the input reads as it did. -/
def fnExactHuffCostSpec : ChangeSpec := { name := "fnExactHuffCost", fn := fun _ => fun
  | [d] => { results := [.lit (.bool true)], args := [d] }
  | _ => none }
def fnExactHuffCostRow : OpenClaim := { program := "ytpmiphnjnbkjlaa", sum := "e9d7e6b9552bd97c5cf3720c62ef0b52ccacc44da1c3490051a497f7b14fc743", func := "loop.example/g00674/laws.FnExactHuffCost", spec := "fnExactHuffCost", unfollowed := true, recurses := true, apart := false }
def FnExactHuffCostSaid : Prop := fnExactHuffCostRow.holds Try.pinned (OpenSpec.ofChange fnExactHuffCostSpec)

/-- ITS FALSE NEIGHBOUR: 'it returns false'. Refute it at one input. -/
def fnExactHuffCostWrong : ChangeSpec := { name := "fnExactHuffCost", fn := fun _ => fun
  | [d] => { results := [.lit (.bool false)], args := [d] }
  | _ => none }
def FnExactHuffCostWrongFalsely : Prop := fnExactHuffCostRow.holds Try.pinned (OpenSpec.ofChange fnExactHuffCostWrong)

/- THE SECOND FORM. 'bulk': how many values and letters a reading holds, each counted each time it is reached (what is shared counts as often as it is met; a slice's spare places count too). A statement '..UptoSaid' is the law's where the arguments, and the package variables that the reading takes, are together of bulk at most 1048576: NARROWER than '..Said'. Prove '..Said' where nothing that the law and all that it calls make is longer than what came in: it says more and counts as full. Else prove '..UptoSaid'. A law counts once. -/
mutual
def uptoBulk {H : Type} : DataW H → Nat
  | .lit (.string bytes) => bytes.length + 1
  | .lit _ => 1
  | .nil => 1
  | .ptr d => uptoBulk d + 1
  | .slice elems spare => uptoBulkAll elems + uptoBulkAll spare + 1
  | .agg parts => uptoBulkAll parts + 1
  | .iface _ d => uptoBulk d + 1
  | .map entries => uptoBulkEntries entries + 1
  | .held _ => 1
def uptoBulkAll {H : Type} : List (DataW H) → Nat
  | [] => 0
  | d :: r => uptoBulk d + uptoBulkAll r
def uptoBulkEntries {H : Type} : List (Lit × DataW H) → Nat
  | [] => 0
  | x :: r => uptoBulkEntry x + uptoBulkEntries r
def uptoBulkEntry {H : Type} : Lit × DataW H → Nat
  | (.string bytes, d) => bytes.length + uptoBulk d + 1
  | (_, d) => uptoBulk d + 1
 end
def uptoSmall : (H : Type) → List (DataW H) → Bool := fun _ ds => decide (uptoBulkAll ds ≤ 1048576)
def OpenSpec.upto (s : _root_.Go.ChangeSpec) : _root_.Go.OpenSpec := { _root_.Go.OpenSpec.ofChange s with cond := some uptoSmall }

/-- 'laws.FnLens', WHERE WHAT IT READS IS OF BULK AT MOST 1048576: true; the input reads as it did. -/
def fnLensUptoRow : OpenClaim := { program := "ytpmiphnjnbkjlaa", sum := "e9d7e6b9552bd97c5cf3720c62ef0b52ccacc44da1c3490051a497f7b14fc743", func := "loop.example/g00674/laws.FnLens", spec := "fnLens", unfollowed := true, recurses := true, apart := false, narrowed := true }
def FnLensUptoSaid : Prop := fnLensUptoRow.holds Try.pinned (OpenSpec.upto fnLensSpec)

/-- 'laws.FnBest', WHERE WHAT IT READS IS OF BULK AT MOST 1048576: true; the input reads as it did. -/
def fnBestUptoRow : OpenClaim := { program := "ytpmiphnjnbkjlaa", sum := "e9d7e6b9552bd97c5cf3720c62ef0b52ccacc44da1c3490051a497f7b14fc743", func := "loop.example/g00674/laws.FnBest", spec := "fnBest", unfollowed := true, recurses := true, apart := false, narrowed := true }
def FnBestUptoSaid : Prop := fnBestUptoRow.holds Try.pinned (OpenSpec.upto fnBestSpec)

/-- 'laws.FnOften', WHERE WHAT IT READS IS OF BULK AT MOST 1048576: true; the input reads as it did. -/
def fnOftenUptoRow : OpenClaim := { program := "ytpmiphnjnbkjlaa", sum := "e9d7e6b9552bd97c5cf3720c62ef0b52ccacc44da1c3490051a497f7b14fc743", func := "loop.example/g00674/laws.FnOften", spec := "fnOften", unfollowed := true, recurses := true, apart := false, narrowed := true }
def FnOftenUptoSaid : Prop := fnOftenUptoRow.holds Try.pinned (OpenSpec.upto fnOftenSpec)

/-- 'laws.FnExactFreqsOk', WHERE WHAT IT READS IS OF BULK AT MOST 1048576: true; the input reads as it did. -/
def fnExactFreqsOkUptoRow : OpenClaim := { program := "ytpmiphnjnbkjlaa", sum := "e9d7e6b9552bd97c5cf3720c62ef0b52ccacc44da1c3490051a497f7b14fc743", func := "loop.example/g00674/laws.FnExactFreqsOk", spec := "fnExactFreqsOk", apart := false, narrowed := true }
def FnExactFreqsOkUptoSaid : Prop := fnExactFreqsOkUptoRow.holds Try.pinned (OpenSpec.upto fnExactFreqsOkSpec)

/-- 'laws.FnExactLens', WHERE WHAT IT READS IS OF BULK AT MOST 1048576: true; the input reads as it did. -/
def fnExactLensUptoRow : OpenClaim := { program := "ytpmiphnjnbkjlaa", sum := "e9d7e6b9552bd97c5cf3720c62ef0b52ccacc44da1c3490051a497f7b14fc743", func := "loop.example/g00674/laws.FnExactLens", spec := "fnExactLens", unfollowed := true, recurses := true, apart := false, narrowed := true }
def FnExactLensUptoSaid : Prop := fnExactLensUptoRow.holds Try.pinned (OpenSpec.upto fnExactLensSpec)

/-- 'laws.FnExactLensOk', WHERE WHAT IT READS IS OF BULK AT MOST 1048576: true; the input reads as it did. -/
def fnExactLensOkUptoRow : OpenClaim := { program := "ytpmiphnjnbkjlaa", sum := "e9d7e6b9552bd97c5cf3720c62ef0b52ccacc44da1c3490051a497f7b14fc743", func := "loop.example/g00674/laws.FnExactLensOk", spec := "fnExactLensOk", apart := false, narrowed := true }
def FnExactLensOkUptoSaid : Prop := fnExactLensOkUptoRow.holds Try.pinned (OpenSpec.upto fnExactLensOkSpec)

/-- 'laws.FnExactKraft', WHERE WHAT IT READS IS OF BULK AT MOST 1048576: true; the input reads as it did. -/
def fnExactKraftUptoRow : OpenClaim := { program := "ytpmiphnjnbkjlaa", sum := "e9d7e6b9552bd97c5cf3720c62ef0b52ccacc44da1c3490051a497f7b14fc743", func := "loop.example/g00674/laws.FnExactKraft", spec := "fnExactKraft", apart := false, narrowed := true }
def FnExactKraftUptoSaid : Prop := fnExactKraftUptoRow.holds Try.pinned (OpenSpec.upto fnExactKraftSpec)

/-- 'laws.FnExactCostOf', WHERE WHAT IT READS IS OF BULK AT MOST 1048576: true; the input reads as it did. -/
def fnExactCostOfUptoRow : OpenClaim := { program := "ytpmiphnjnbkjlaa", sum := "e9d7e6b9552bd97c5cf3720c62ef0b52ccacc44da1c3490051a497f7b14fc743", func := "loop.example/g00674/laws.FnExactCostOf", spec := "fnExactCostOf", apart := false, narrowed := true }
def FnExactCostOfUptoSaid : Prop := fnExactCostOfUptoRow.holds Try.pinned (OpenSpec.upto fnExactCostOfSpec)

/-- 'laws.FnExactHuffCost', WHERE WHAT IT READS IS OF BULK AT MOST 1048576: true; the input reads as it did. -/
def fnExactHuffCostUptoRow : OpenClaim := { program := "ytpmiphnjnbkjlaa", sum := "e9d7e6b9552bd97c5cf3720c62ef0b52ccacc44da1c3490051a497f7b14fc743", func := "loop.example/g00674/laws.FnExactHuffCost", spec := "fnExactHuffCost", unfollowed := true, recurses := true, apart := false, narrowed := true }
def FnExactHuffCostUptoSaid : Prop := fnExactHuffCostUptoRow.holds Try.pinned (OpenSpec.upto fnExactHuffCostSpec)

end Rows
end Go.Proofs.Ytpmiphnjnbkjlaa
