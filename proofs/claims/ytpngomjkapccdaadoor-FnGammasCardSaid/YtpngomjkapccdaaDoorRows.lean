/-
  NARROWER THAN 'FOR EVERY INPUT', by the rows' own cells (each row's printed sentence says how): FnGammas: ifaces, laid · FnExactGetGamma: ifaces, laid.
  DERIVED. THE GIVEN ROWS OF THIS SEAT. 2 by the template 'for every input the law returns true; each argument reads behind the call as it read before'; 0 by the template 'total and deterministic' (their statements: YtpngomjkapccdaaDoorTotals.lean).
  GIVEN WITH THE SEED: the statements are not yours to turn. If you find one false, say at which input.
  Laid BY PROGRAM, IN A SANDBOX (cutbox-rows.mjs): the forced cells as the released guide's own fill.sh prints them over the translation 4bbf153c0bfe4f88… (all of the seat's roots in one cut). By AI agents, Wed Nov 11 2026. No macro, syntax, notation, axiom, sorry.
-/
import Derived.Test.YtpngomjkapccdaaDoorChecked
import GoSem.Claim
import GoSem.ClaimJoined
import GoSem.ClaimMapViews
import Derived.JoinedTies
import Derived.KernelRfl
namespace Go.Proofs.YtpngomjkapccdaaDoor
/- THE CELL 'sum', in the pinned program and in every row, IS THE sha256 OF THE DUMP (.gsa) THAT YtpngomjkapccdaaDoorProg.lean LOADS. Nothing in Lean hashes anything: it is a label: what it is worth is what the hold of that sum in a sandbox is worth. -/
noncomputable def Tryd.pinned : Pinned := { name := "ytpngomjkapccdaadoor", sum := "4bbf153c0bfe4f88b21198f3f06c2065b867b588ee21fd75e8a9130b8d6c5bd5", checked := Tryd.checked }
namespace Rows
def none {H : Type} : Left H := { results := [], args := [] }

/- WHAT THE LISTED PACKAGE-LEVEL VARIABLES READ AS WHEN THE CALL BEGINS. Each datum BY PROGRAM (the guide's laid-datum.mjs) off the statement by which the dump's own 'gosem.cut.vars' lays the variable. In a bare row this is a premise. The card (YtpngomjkapccdaaDoorCards.lean) ties it to the program's text. -/
def laid_loop_example_g00674_impl_errMissing {H : Type} : DataW H := .iface "*errors.errorString" (.ptr (.agg [.lit (.string [98, 105, 116, 115, 32, 97, 114, 101, 32, 109, 105, 115, 115, 105, 110, 103])]))

/-- 'laws.FnGammas': WHATEVER THE INPUT: true; the input reads as it did. -/
def fnGammasSpec : ChangeSpec := { name := "fnGammas", vars := ["loop.example/g00674/impl.errMissing"], fn := fun _ => fun
  | [d, g1] => { results := [.lit (.bool true)], args := [d], vars := [g1] }
  | _ => none }
def fnGammasRow : OpenClaim := { program := "ytpngomjkapccdaadoor", sum := "4bbf153c0bfe4f88b21198f3f06c2065b867b588ee21fd75e8a9130b8d6c5bd5", func := "loop.example/g00674/laws.FnGammas", spec := "fnGammas", inPlace := ["internal/reflectlite.TypeOf"], unfollowed := true, recurses := true, named := ["loop.example/g00674/impl.errMissing"], ifaces := true, apart := false, laid := [("loop.example/g00674/impl.errMissing", laid_loop_example_g00674_impl_errMissing)] }
def FnGammasSaid : Prop := fnGammasRow.holds Tryd.pinned (OpenSpec.ofChange fnGammasSpec)

/-- ITS FALSE NEIGHBOUR: 'it returns false'. Refute it at one input. -/
def fnGammasWrong : ChangeSpec := { name := "fnGammas", vars := ["loop.example/g00674/impl.errMissing"], fn := fun _ => fun
  | [d, g1] => { results := [.lit (.bool false)], args := [d], vars := [g1] }
  | _ => none }
def FnGammasWrongFalsely : Prop := fnGammasRow.holds Tryd.pinned (OpenSpec.ofChange fnGammasWrong)

/-- 'laws.FnExactGetGamma': WHATEVER THE INPUT: true; the input reads as it did. -/
def fnExactGetGammaSpec : ChangeSpec := { name := "fnExactGetGamma", vars := ["loop.example/g00674/impl.errMissing"], fn := fun _ => fun
  | [d, g1] => { results := [.lit (.bool true)], args := [d], vars := [g1] }
  | _ => none }
def fnExactGetGammaRow : OpenClaim := { program := "ytpngomjkapccdaadoor", sum := "4bbf153c0bfe4f88b21198f3f06c2065b867b588ee21fd75e8a9130b8d6c5bd5", func := "loop.example/g00674/laws.FnExactGetGamma", spec := "fnExactGetGamma", inPlace := ["internal/reflectlite.TypeOf"], unfollowed := true, recurses := true, named := ["loop.example/g00674/impl.errMissing"], ifaces := true, apart := false, laid := [("loop.example/g00674/impl.errMissing", laid_loop_example_g00674_impl_errMissing)] }
def FnExactGetGammaSaid : Prop := fnExactGetGammaRow.holds Tryd.pinned (OpenSpec.ofChange fnExactGetGammaSpec)

/-- ITS FALSE NEIGHBOUR: 'it returns false'. Refute it at one input. -/
def fnExactGetGammaWrong : ChangeSpec := { name := "fnExactGetGamma", vars := ["loop.example/g00674/impl.errMissing"], fn := fun _ => fun
  | [d, g1] => { results := [.lit (.bool false)], args := [d], vars := [g1] }
  | _ => none }
def FnExactGetGammaWrongFalsely : Prop := fnExactGetGammaRow.holds Tryd.pinned (OpenSpec.ofChange fnExactGetGammaWrong)

/- THE SECOND FORM. 'bulk': how many values and letters a reading holds, each counted each time it is reached (what is shared counts as often as it is met; a slice's spare places count too). A statement '..UptoSaid' is the law's where the arguments, and the package variables that the reading takes, are together of bulk at most 1048576: NARROWER than '..Said'. Prove '..Said' where nothing that the law and all that it calls make is longer than what came in: it says more and counts as full. Else prove '..UptoSaid'. A law counts once. -/
mutual
def uptoBulk {H : Type} : DataW H → Nat
  | .lit (.string bytes) => bytes.length + 1
  | .lit _ => 1
  | .nil => 1
  | .ptr d => uptoBulk d + 1
  | .slice elems spare => uptoBulkAll elems + uptoBulkAll spare + 1
  | .agg parts => uptoBulkAll parts + 1
  | .iface _ d => uptoBulk d + 1
  | .map entries => uptoBulkEntries entries + 1
  | .held _ => 1
def uptoBulkAll {H : Type} : List (DataW H) → Nat
  | [] => 0
  | d :: r => uptoBulk d + uptoBulkAll r
def uptoBulkEntries {H : Type} : List (Lit × DataW H) → Nat
  | [] => 0
  | x :: r => uptoBulkEntry x + uptoBulkEntries r
def uptoBulkEntry {H : Type} : Lit × DataW H → Nat
  | (.string bytes, d) => bytes.length + uptoBulk d + 1
  | (_, d) => uptoBulk d + 1
 end
def uptoSmall : (H : Type) → List (DataW H) → Bool := fun _ ds => decide (uptoBulkAll ds ≤ 1048576)
def OpenSpec.upto (s : _root_.Go.ChangeSpec) : _root_.Go.OpenSpec := { _root_.Go.OpenSpec.ofChange s with cond := some uptoSmall }

/-- 'laws.FnGammas', WHERE WHAT IT READS IS OF BULK AT MOST 1048576: true; the input reads as it did. -/
def fnGammasUptoRow : OpenClaim := { program := "ytpngomjkapccdaadoor", sum := "4bbf153c0bfe4f88b21198f3f06c2065b867b588ee21fd75e8a9130b8d6c5bd5", func := "loop.example/g00674/laws.FnGammas", spec := "fnGammas", inPlace := ["internal/reflectlite.TypeOf"], unfollowed := true, recurses := true, named := ["loop.example/g00674/impl.errMissing"], ifaces := true, apart := false, laid := [("loop.example/g00674/impl.errMissing", laid_loop_example_g00674_impl_errMissing)], narrowed := true }
def FnGammasUptoSaid : Prop := fnGammasUptoRow.holds Tryd.pinned (OpenSpec.upto fnGammasSpec)

/-- 'laws.FnExactGetGamma', WHERE WHAT IT READS IS OF BULK AT MOST 1048576: true; the input reads as it did. -/
def fnExactGetGammaUptoRow : OpenClaim := { program := "ytpngomjkapccdaadoor", sum := "4bbf153c0bfe4f88b21198f3f06c2065b867b588ee21fd75e8a9130b8d6c5bd5", func := "loop.example/g00674/laws.FnExactGetGamma", spec := "fnExactGetGamma", inPlace := ["internal/reflectlite.TypeOf"], unfollowed := true, recurses := true, named := ["loop.example/g00674/impl.errMissing"], ifaces := true, apart := false, laid := [("loop.example/g00674/impl.errMissing", laid_loop_example_g00674_impl_errMissing)], narrowed := true }
def FnExactGetGammaUptoSaid : Prop := fnExactGetGammaUptoRow.holds Tryd.pinned (OpenSpec.upto fnExactGetGammaSpec)

end Rows
end Go.Proofs.YtpngomjkapccdaaDoor
