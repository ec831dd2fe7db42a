/-
  No cell of these rows narrows 'for every input' (looked for: loops, veiled, ifaces, maps, wideKeys, modest, calm, conditions, laid).
  DERIVED. THE GIVEN ROWS OF THIS SEAT. 5 by the template 'for every input the law returns true; each argument reads behind the call as it read before'; 0 by the template 'total and deterministic' (their statements: YticfdjdmbcdbkaaTotals.lean).
  GIVEN WITH THE SEED: the statements are not yours to turn. If you find one false, say at which input.
  Laid BY PROGRAM, IN A SANDBOX (cutbox-rows.mjs): the forced cells as the released guide's own fill.sh prints them over the translation 4879911eb834dc20… (all of the seat's roots in one cut). By AI agents, Wed Nov 11 2026. No macro, syntax, notation, axiom, sorry.
-/
import Derived.Test.YticfdjdmbcdbkaaChecked
import GoSem.Claim
import GoSem.ClaimJoined
import GoSem.ClaimMapViews
import Derived.JoinedTies
import Derived.KernelRfl
namespace Go.Proofs.Yticfdjdmbcdbkaa
/- THE CELL 'sum', in the pinned program and in every row, IS THE sha256 OF THE DUMP (.gsa) THAT YticfdjdmbcdbkaaProg.lean LOADS. Nothing in Lean hashes anything: it is a label: what it is worth is what the hold of that sum in a sandbox is worth. -/
noncomputable def Try.pinned : Pinned := { name := "yticfdjdmbcdbkaa", sum := "4879911eb834dc20fd4604a8b38729e87a97ac244a2c589f017bcb9604ba75d2", checked := Try.checked }
namespace Rows
def none {H : Type} : Left H := { results := [], args := [] }

/-- 'laws.FnExactRotations': WHATEVER THE INPUT: true; the input reads as it did. -/
def fnExactRotationsSpec : ChangeSpec := { name := "fnExactRotations", fn := fun _ => fun
  | [d] => { results := [.lit (.bool true)], args := [d] }
  | _ => none }
def fnExactRotationsRow : OpenClaim := { program := "yticfdjdmbcdbkaa", sum := "4879911eb834dc20fd4604a8b38729e87a97ac244a2c589f017bcb9604ba75d2", func := "loop.example/g00674/laws.FnExactRotations", spec := "fnExactRotations", inPlace := ["internal/bytealg.abigen_runtime_cmpstring"], unfollowed := true, recurses := true, apart := false }
def FnExactRotationsSaid : Prop := fnExactRotationsRow.holds Try.pinned (OpenSpec.ofChange fnExactRotationsSpec)

/-- ITS FALSE NEIGHBOUR: 'it returns false'. Refute it at one input. -/
def fnExactRotationsWrong : ChangeSpec := { name := "fnExactRotations", fn := fun _ => fun
  | [d] => { results := [.lit (.bool false)], args := [d] }
  | _ => none }
def FnExactRotationsWrongFalsely : Prop := fnExactRotationsRow.holds Try.pinned (OpenSpec.ofChange fnExactRotationsWrong)

/-- 'laws.FnExactLast': WHATEVER THE INPUT: true; the input reads as it did. -/
def fnExactLastSpec : ChangeSpec := { name := "fnExactLast", fn := fun _ => fun
  | [d] => { results := [.lit (.bool true)], args := [d] }
  | _ => none }
def fnExactLastRow : OpenClaim := { program := "yticfdjdmbcdbkaa", sum := "4879911eb834dc20fd4604a8b38729e87a97ac244a2c589f017bcb9604ba75d2", func := "loop.example/g00674/laws.FnExactLast", spec := "fnExactLast", inPlace := ["internal/bytealg.abigen_runtime_cmpstring"], unfollowed := true, recurses := true, apart := false }
def FnExactLastSaid : Prop := fnExactLastRow.holds Try.pinned (OpenSpec.ofChange fnExactLastSpec)

/-- ITS FALSE NEIGHBOUR: 'it returns false'. Refute it at one input. -/
def fnExactLastWrong : ChangeSpec := { name := "fnExactLast", fn := fun _ => fun
  | [d] => { results := [.lit (.bool false)], args := [d] }
  | _ => none }
def FnExactLastWrongFalsely : Prop := fnExactLastRow.holds Try.pinned (OpenSpec.ofChange fnExactLastWrong)

/-- 'laws.FnExactPeriod': WHATEVER THE INPUT: true; the input reads as it did. -/
def fnExactPeriodSpec : ChangeSpec := { name := "fnExactPeriod", fn := fun _ => fun
  | [d] => { results := [.lit (.bool true)], args := [d] }
  | _ => none }
def fnExactPeriodRow : OpenClaim := { program := "yticfdjdmbcdbkaa", sum := "4879911eb834dc20fd4604a8b38729e87a97ac244a2c589f017bcb9604ba75d2", func := "loop.example/g00674/laws.FnExactPeriod", spec := "fnExactPeriod", inPlace := ["internal/bytealg.IndexByteString", "internal/bytealg.IndexString"], named := ["internal/bytealg.MaxLen"], apart := false }
def FnExactPeriodSaid : Prop := fnExactPeriodRow.holds Try.pinned (OpenSpec.ofChange fnExactPeriodSpec)

/-- ITS FALSE NEIGHBOUR: 'it returns false'. Refute it at one input. -/
def fnExactPeriodWrong : ChangeSpec := { name := "fnExactPeriod", fn := fun _ => fun
  | [d] => { results := [.lit (.bool false)], args := [d] }
  | _ => none }
def FnExactPeriodWrongFalsely : Prop := fnExactPeriodRow.holds Try.pinned (OpenSpec.ofChange fnExactPeriodWrong)

/-- 'laws.FnExactLf': WHATEVER THE INPUT: true; the input reads as it did. -/
def fnExactLfSpec : ChangeSpec := { name := "fnExactLf", fn := fun _ => fun
  | [d] => { results := [.lit (.bool true)], args := [d] }
  | _ => none }
def fnExactLfRow : OpenClaim := { program := "yticfdjdmbcdbkaa", sum := "4879911eb834dc20fd4604a8b38729e87a97ac244a2c589f017bcb9604ba75d2", func := "loop.example/g00674/laws.FnExactLf", spec := "fnExactLf", unfollowed := true, recurses := true, apart := false }
def FnExactLfSaid : Prop := fnExactLfRow.holds Try.pinned (OpenSpec.ofChange fnExactLfSpec)

/-- ITS FALSE NEIGHBOUR: 'it returns false'. Refute it at one input. -/
def fnExactLfWrong : ChangeSpec := { name := "fnExactLf", fn := fun _ => fun
  | [d] => { results := [.lit (.bool false)], args := [d] }
  | _ => none }
def FnExactLfWrongFalsely : Prop := fnExactLfRow.holds Try.pinned (OpenSpec.ofChange fnExactLfWrong)

/-- 'laws.FnExactUnrotate': WHATEVER THE INPUT: true; the input reads as it did. -/
def fnExactUnrotateSpec : ChangeSpec := { name := "fnExactUnrotate", fn := fun _ => fun
  | [d1, d2] => { results := [.lit (.bool true)], args := [d1, d2] }
  | _ => none }
def fnExactUnrotateRow : OpenClaim := { program := "yticfdjdmbcdbkaa", sum := "4879911eb834dc20fd4604a8b38729e87a97ac244a2c589f017bcb9604ba75d2", func := "loop.example/g00674/laws.FnExactUnrotate", spec := "fnExactUnrotate", inPlace := ["internal/bytealg.abigen_runtime_cmpstring"], unfollowed := true, recurses := true, apart := false }
def FnExactUnrotateSaid : Prop := fnExactUnrotateRow.holds Try.pinned (OpenSpec.ofChange fnExactUnrotateSpec)

/-- ITS FALSE NEIGHBOUR: 'it returns false'. Refute it at one input. -/
def fnExactUnrotateWrong : ChangeSpec := { name := "fnExactUnrotate", fn := fun _ => fun
  | [d1, d2] => { results := [.lit (.bool false)], args := [d1, d2] }
  | _ => none }
def FnExactUnrotateWrongFalsely : Prop := fnExactUnrotateRow.holds Try.pinned (OpenSpec.ofChange fnExactUnrotateWrong)

/- THE SECOND FORM. 'bulk': how many values and letters a reading holds, each counted each time it is reached (what is shared counts as often as it is met; a slice's spare places count too). A statement '..UptoSaid' is the law's where the arguments, and the package variables that the reading takes, are together of bulk at most 1048576: NARROWER than '..Said'. Prove '..Said' where nothing that the law and all that it calls make is longer than what came in: it says more and counts as full. Else prove '..UptoSaid'. A law counts once. -/
mutual
def uptoBulk {H : Type} : DataW H → Nat
  | .lit (.string bytes) => bytes.length + 1
  | .lit _ => 1
  | .nil => 1
  | .ptr d => uptoBulk d + 1
  | .slice elems spare => uptoBulkAll elems + uptoBulkAll spare + 1
  | .agg parts => uptoBulkAll parts + 1
  | .iface _ d => uptoBulk d + 1
  | .map entries => uptoBulkEntries entries + 1
  | .held _ => 1
def uptoBulkAll {H : Type} : List (DataW H) → Nat
  | [] => 0
  | d :: r => uptoBulk d + uptoBulkAll r
def uptoBulkEntries {H : Type} : List (Lit × DataW H) → Nat
  | [] => 0
  | x :: r => uptoBulkEntry x + uptoBulkEntries r
def uptoBulkEntry {H : Type} : Lit × DataW H → Nat
  | (.string bytes, d) => bytes.length + uptoBulk d + 1
  | (_, d) => uptoBulk d + 1
 end
def uptoSmall : (H : Type) → List (DataW H) → Bool := fun _ ds => decide (uptoBulkAll ds ≤ 1048576)
def OpenSpec.upto (s : _root_.Go.ChangeSpec) : _root_.Go.OpenSpec := { _root_.Go.OpenSpec.ofChange s with cond := some uptoSmall }

/-- 'laws.FnExactRotations', WHERE WHAT IT READS IS OF BULK AT MOST 1048576: true; the input reads as it did. -/
def fnExactRotationsUptoRow : OpenClaim := { program := "yticfdjdmbcdbkaa", sum := "4879911eb834dc20fd4604a8b38729e87a97ac244a2c589f017bcb9604ba75d2", func := "loop.example/g00674/laws.FnExactRotations", spec := "fnExactRotations", inPlace := ["internal/bytealg.abigen_runtime_cmpstring"], unfollowed := true, recurses := true, apart := false, narrowed := true }
def FnExactRotationsUptoSaid : Prop := fnExactRotationsUptoRow.holds Try.pinned (OpenSpec.upto fnExactRotationsSpec)

/-- 'laws.FnExactLast', WHERE WHAT IT READS IS OF BULK AT MOST 1048576: true; the input reads as it did. -/
def fnExactLastUptoRow : OpenClaim := { program := "yticfdjdmbcdbkaa", sum := "4879911eb834dc20fd4604a8b38729e87a97ac244a2c589f017bcb9604ba75d2", func := "loop.example/g00674/laws.FnExactLast", spec := "fnExactLast", inPlace := ["internal/bytealg.abigen_runtime_cmpstring"], unfollowed := true, recurses := true, apart := false, narrowed := true }
def FnExactLastUptoSaid : Prop := fnExactLastUptoRow.holds Try.pinned (OpenSpec.upto fnExactLastSpec)

/-- 'laws.FnExactPeriod', WHERE WHAT IT READS IS OF BULK AT MOST 1048576: true; the input reads as it did. -/
def fnExactPeriodUptoRow : OpenClaim := { program := "yticfdjdmbcdbkaa", sum := "4879911eb834dc20fd4604a8b38729e87a97ac244a2c589f017bcb9604ba75d2", func := "loop.example/g00674/laws.FnExactPeriod", spec := "fnExactPeriod", inPlace := ["internal/bytealg.IndexByteString", "internal/bytealg.IndexString"], named := ["internal/bytealg.MaxLen"], apart := false, narrowed := true }
def FnExactPeriodUptoSaid : Prop := fnExactPeriodUptoRow.holds Try.pinned (OpenSpec.upto fnExactPeriodSpec)

/-- 'laws.FnExactLf', WHERE WHAT IT READS IS OF BULK AT MOST 1048576: true; the input reads as it did. -/
def fnExactLfUptoRow : OpenClaim := { program := "yticfdjdmbcdbkaa", sum := "4879911eb834dc20fd4604a8b38729e87a97ac244a2c589f017bcb9604ba75d2", func := "loop.example/g00674/laws.FnExactLf", spec := "fnExactLf", unfollowed := true, recurses := true, apart := false, narrowed := true }
def FnExactLfUptoSaid : Prop := fnExactLfUptoRow.holds Try.pinned (OpenSpec.upto fnExactLfSpec)

/-- 'laws.FnExactUnrotate', WHERE WHAT IT READS IS OF BULK AT MOST 1048576: true; the input reads as it did. -/
def fnExactUnrotateUptoRow : OpenClaim := { program := "yticfdjdmbcdbkaa", sum := "4879911eb834dc20fd4604a8b38729e87a97ac244a2c589f017bcb9604ba75d2", func := "loop.example/g00674/laws.FnExactUnrotate", spec := "fnExactUnrotate", inPlace := ["internal/bytealg.abigen_runtime_cmpstring"], unfollowed := true, recurses := true, apart := false, narrowed := true }
def FnExactUnrotateUptoSaid : Prop := fnExactUnrotateUptoRow.holds Try.pinned (OpenSpec.upto fnExactUnrotateSpec)

end Rows
end Go.Proofs.Yticfdjdmbcdbkaa
