/-
  No cell of these rows narrows 'for every input' (looked for: loops, veiled, ifaces, maps, wideKeys, modest, calm, conditions, laid).
  DERIVED. THE GIVEN ROWS OF THIS SEAT. 3 by the template 'for every input the law returns true; each argument reads behind the call as it read before'; 0 by the template 'total and deterministic' (their statements: YtpngomjkapccdaaTotals.lean).
  GIVEN WITH THE SEED: the statements are not yours to turn. If you find one false, say at which input.
  Laid BY PROGRAM, IN A SANDBOX (cutbox-rows.mjs): the forced cells as the released guide's own fill.sh prints them over the translation 402ffa2af45fc8f2… (all of the seat's roots in one cut). By AI agents, Wed Nov 11 2026. No macro, syntax, notation, axiom, sorry.
-/
import Derived.Test.YtpngomjkapccdaaChecked
import GoSem.Claim
import GoSem.ClaimJoined
import GoSem.ClaimMapViews
import Derived.JoinedTies
import Derived.KernelRfl
namespace Go.Proofs.Ytpngomjkapccdaa
/- THE CELL 'sum', in the pinned program and in every row, IS THE sha256 OF THE DUMP (.gsa) THAT YtpngomjkapccdaaProg.lean LOADS. Nothing in Lean hashes anything: it is a label: what it is worth is what the hold of that sum in a sandbox is worth. -/
noncomputable def Try.pinned : Pinned := { name := "ytpngomjkapccdaa", sum := "402ffa2af45fc8f260b219b24f00c6a9bf7c4a4152d0661c1ac823d330324e82", checked := Try.checked }
namespace Rows
def none {H : Type} : Left H := { results := [], args := [] }

/-- 'laws.FnLensBits': WHATEVER THE INPUT: true; the input reads as it did. -/
def fnLensBitsSpec : ChangeSpec := { name := "fnLensBits", fn := fun _ => fun
  | [d] => { results := [.lit (.bool true)], args := [d] }
  | _ => none }
def fnLensBitsRow : OpenClaim := { program := "ytpngomjkapccdaa", sum := "402ffa2af45fc8f260b219b24f00c6a9bf7c4a4152d0661c1ac823d330324e82", func := "loop.example/g00674/laws.FnLensBits", spec := "fnLensBits", apart := false }
def FnLensBitsSaid : Prop := fnLensBitsRow.holds Try.pinned (OpenSpec.ofChange fnLensBitsSpec)

/-- ITS FALSE NEIGHBOUR: 'it returns false'. Refute it at one input. -/
def fnLensBitsWrong : ChangeSpec := { name := "fnLensBits", fn := fun _ => fun
  | [d] => { results := [.lit (.bool false)], args := [d] }
  | _ => none }
def FnLensBitsWrongFalsely : Prop := fnLensBitsRow.holds Try.pinned (OpenSpec.ofChange fnLensBitsWrong)

/-- 'laws.FnExactPutGamma': WHATEVER THE INPUT: true; the input reads as it did. -/
def fnExactPutGammaSpec : ChangeSpec := { name := "fnExactPutGamma", fn := fun _ => fun
  | [d] => { results := [.lit (.bool true)], args := [d] }
  | _ => none }
def fnExactPutGammaRow : OpenClaim := { program := "ytpngomjkapccdaa", sum := "402ffa2af45fc8f260b219b24f00c6a9bf7c4a4152d0661c1ac823d330324e82", func := "loop.example/g00674/laws.FnExactPutGamma", spec := "fnExactPutGamma", apart := false }
def FnExactPutGammaSaid : Prop := fnExactPutGammaRow.holds Try.pinned (OpenSpec.ofChange fnExactPutGammaSpec)

/-- ITS FALSE NEIGHBOUR: 'it returns false'. Refute it at one input. -/
def fnExactPutGammaWrong : ChangeSpec := { name := "fnExactPutGamma", fn := fun _ => fun
  | [d] => { results := [.lit (.bool false)], args := [d] }
  | _ => none }
def FnExactPutGammaWrongFalsely : Prop := fnExactPutGammaRow.holds Try.pinned (OpenSpec.ofChange fnExactPutGammaWrong)

/-- 'laws.FnExactGammaBits': WHATEVER THE INPUT: true; the input reads as it did. -/
def fnExactGammaBitsSpec : ChangeSpec := { name := "fnExactGammaBits", fn := fun _ => fun
  | [d] => { results := [.lit (.bool true)], args := [d] }
  | _ => none }
def fnExactGammaBitsRow : OpenClaim := { program := "ytpngomjkapccdaa", sum := "402ffa2af45fc8f260b219b24f00c6a9bf7c4a4152d0661c1ac823d330324e82", func := "loop.example/g00674/laws.FnExactGammaBits", spec := "fnExactGammaBits", apart := false }
def FnExactGammaBitsSaid : Prop := fnExactGammaBitsRow.holds Try.pinned (OpenSpec.ofChange fnExactGammaBitsSpec)

/-- ITS FALSE NEIGHBOUR: 'it returns false'. Refute it at one input. -/
def fnExactGammaBitsWrong : ChangeSpec := { name := "fnExactGammaBits", fn := fun _ => fun
  | [d] => { results := [.lit (.bool false)], args := [d] }
  | _ => none }
def FnExactGammaBitsWrongFalsely : Prop := fnExactGammaBitsRow.holds Try.pinned (OpenSpec.ofChange fnExactGammaBitsWrong)

/- THE SECOND FORM. 'bulk': how many values and letters a reading holds, each counted each time it is reached (what is shared counts as often as it is met; a slice's spare places count too). A statement '..UptoSaid' is the law's where the arguments, and the package variables that the reading takes, are together of bulk at most 1048576: NARROWER than '..Said'. Prove '..Said' where nothing that the law and all that it calls make is longer than what came in: it says more and counts as full. Else prove '..UptoSaid'. A law counts once. -/
mutual
def uptoBulk {H : Type} : DataW H → Nat
  | .lit (.string bytes) => bytes.length + 1
  | .lit _ => 1
  | .nil => 1
  | .ptr d => uptoBulk d + 1
  | .slice elems spare => uptoBulkAll elems + uptoBulkAll spare + 1
  | .agg parts => uptoBulkAll parts + 1
  | .iface _ d => uptoBulk d + 1
  | .map entries => uptoBulkEntries entries + 1
  | .held _ => 1
def uptoBulkAll {H : Type} : List (DataW H) → Nat
  | [] => 0
  | d :: r => uptoBulk d + uptoBulkAll r
def uptoBulkEntries {H : Type} : List (Lit × DataW H) → Nat
  | [] => 0
  | x :: r => uptoBulkEntry x + uptoBulkEntries r
def uptoBulkEntry {H : Type} : Lit × DataW H → Nat
  | (.string bytes, d) => bytes.length + uptoBulk d + 1
  | (_, d) => uptoBulk d + 1
 end
def uptoSmall : (H : Type) → List (DataW H) → Bool := fun _ ds => decide (uptoBulkAll ds ≤ 1048576)
def OpenSpec.upto (s : _root_.Go.ChangeSpec) : _root_.Go.OpenSpec := { _root_.Go.OpenSpec.ofChange s with cond := some uptoSmall }

/-- 'laws.FnLensBits', WHERE WHAT IT READS IS OF BULK AT MOST 1048576: true; the input reads as it did. -/
def fnLensBitsUptoRow : OpenClaim := { program := "ytpngomjkapccdaa", sum := "402ffa2af45fc8f260b219b24f00c6a9bf7c4a4152d0661c1ac823d330324e82", func := "loop.example/g00674/laws.FnLensBits", spec := "fnLensBits", apart := false, narrowed := true }
def FnLensBitsUptoSaid : Prop := fnLensBitsUptoRow.holds Try.pinned (OpenSpec.upto fnLensBitsSpec)

/-- 'laws.FnExactPutGamma', WHERE WHAT IT READS IS OF BULK AT MOST 1048576: true; the input reads as it did. -/
def fnExactPutGammaUptoRow : OpenClaim := { program := "ytpngomjkapccdaa", sum := "402ffa2af45fc8f260b219b24f00c6a9bf7c4a4152d0661c1ac823d330324e82", func := "loop.example/g00674/laws.FnExactPutGamma", spec := "fnExactPutGamma", apart := false, narrowed := true }
def FnExactPutGammaUptoSaid : Prop := fnExactPutGammaUptoRow.holds Try.pinned (OpenSpec.upto fnExactPutGammaSpec)

/-- 'laws.FnExactGammaBits', WHERE WHAT IT READS IS OF BULK AT MOST 1048576: true; the input reads as it did. -/
def fnExactGammaBitsUptoRow : OpenClaim := { program := "ytpngomjkapccdaa", sum := "402ffa2af45fc8f260b219b24f00c6a9bf7c4a4152d0661c1ac823d330324e82", func := "loop.example/g00674/laws.FnExactGammaBits", spec := "fnExactGammaBits", apart := false, narrowed := true }
def FnExactGammaBitsUptoSaid : Prop := fnExactGammaBitsUptoRow.holds Try.pinned (OpenSpec.upto fnExactGammaBitsSpec)

end Rows
end Go.Proofs.Ytpngomjkapccdaa
