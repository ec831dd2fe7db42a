/-
  No cell of these rows narrows 'for every input' (looked for: loops, veiled, ifaces, maps, wideKeys, modest, calm, conditions, laid).
  DERIVED. THE GIVEN ROWS OF THIS SEAT. 11 by the template 'for every input the law returns true; each argument reads behind the call as it read before'; 0 by the template 'total and deterministic' (their statements: YteaohgipndmciaaTotals.lean).
  GIVEN WITH THE SEED: the statements are not yours to turn. If you find one false, say at which input.
  Laid BY PROGRAM, IN A SANDBOX (cutbox-rows.mjs): the forced cells as the released guide's own fill.sh prints them over the translation 3c37bcc4312bc117… (all of the seat's roots in one cut). By AI agents, Wed Nov 11 2026. No macro, syntax, notation, axiom, sorry.
-/
import Derived.Test.YteaohgipndmciaaChecked
import GoSem.Claim
import GoSem.ClaimJoined
import GoSem.ClaimMapViews
import Derived.JoinedTies
import Derived.KernelRfl
namespace Go.Proofs.Yteaohgipndmciaa
/- THE CELL 'sum', in the pinned program and in every row, IS THE sha256 OF THE DUMP (.gsa) THAT YteaohgipndmciaaProg.lean LOADS. Nothing in Lean hashes anything: it is a label: what it is worth is what the hold of that sum in a sandbox is worth. -/
noncomputable def Try.pinned : Pinned := { name := "yteaohgipndmciaa", sum := "3c37bcc4312bc117a6749fc777756604bce7b4a821e71be512feb21d6f6c72c1", checked := Try.checked }
namespace Rows
def none {H : Type} : Left H := { results := [], args := [] }

/-- 'laws.FnUsed': WHATEVER THE INPUT: true; the input reads as it did. -/
def fnUsedSpec : ChangeSpec := { name := "fnUsed", fn := fun _ => fun
  | [d] => { results := [.lit (.bool true)], args := [d] }
  | _ => none }
def fnUsedRow : OpenClaim := { program := "yteaohgipndmciaa", sum := "3c37bcc4312bc117a6749fc777756604bce7b4a821e71be512feb21d6f6c72c1", func := "loop.example/g00674/laws.FnUsed", spec := "fnUsed", inPlace := ["internal/bytealg.IndexByteString"], unfollowed := true, recurses := true, apart := false }
def FnUsedSaid : Prop := fnUsedRow.holds Try.pinned (OpenSpec.ofChange fnUsedSpec)

/-- ITS FALSE NEIGHBOUR: 'it returns false'. Refute it at one input. -/
def fnUsedWrong : ChangeSpec := { name := "fnUsed", fn := fun _ => fun
  | [d] => { results := [.lit (.bool false)], args := [d] }
  | _ => none }
def FnUsedWrongFalsely : Prop := fnUsedRow.holds Try.pinned (OpenSpec.ofChange fnUsedWrong)

/-- 'laws.FnOrders': WHATEVER THE INPUT: true; the input reads as it did. -/
def fnOrdersSpec : ChangeSpec := { name := "fnOrders", fn := fun _ => fun
  | [d] => { results := [.lit (.bool true)], args := [d] }
  | _ => none }
def fnOrdersRow : OpenClaim := { program := "yteaohgipndmciaa", sum := "3c37bcc4312bc117a6749fc777756604bce7b4a821e71be512feb21d6f6c72c1", func := "loop.example/g00674/laws.FnOrders", spec := "fnOrders", inPlace := ["internal/bytealg.IndexByteString"], unfollowed := true, recurses := true, apart := false }
def FnOrdersSaid : Prop := fnOrdersRow.holds Try.pinned (OpenSpec.ofChange fnOrdersSpec)

/-- ITS FALSE NEIGHBOUR: 'it returns false'. Refute it at one input. -/
def fnOrdersWrong : ChangeSpec := { name := "fnOrders", fn := fun _ => fun
  | [d] => { results := [.lit (.bool false)], args := [d] }
  | _ => none }
def FnOrdersWrongFalsely : Prop := fnOrdersRow.holds Try.pinned (OpenSpec.ofChange fnOrdersWrong)

/-- 'laws.FnRanks': WHATEVER THE INPUT: true; the input reads as it did. -/
def fnRanksSpec : ChangeSpec := { name := "fnRanks", fn := fun _ => fun
  | [d] => { results := [.lit (.bool true)], args := [d] }
  | _ => none }
def fnRanksRow : OpenClaim := { program := "yteaohgipndmciaa", sum := "3c37bcc4312bc117a6749fc777756604bce7b4a821e71be512feb21d6f6c72c1", func := "loop.example/g00674/laws.FnRanks", spec := "fnRanks", inPlace := ["internal/bytealg.IndexByteString"], unfollowed := true, recurses := true, apart := false }
def FnRanksSaid : Prop := fnRanksRow.holds Try.pinned (OpenSpec.ofChange fnRanksSpec)

/-- ITS FALSE NEIGHBOUR: 'it returns false'. Refute it at one input. -/
def fnRanksWrong : ChangeSpec := { name := "fnRanks", fn := fun _ => fun
  | [d] => { results := [.lit (.bool false)], args := [d] }
  | _ => none }
def FnRanksWrongFalsely : Prop := fnRanksRow.holds Try.pinned (OpenSpec.ofChange fnRanksWrong)

/-- 'laws.FnExactPutUsed': WHATEVER THE INPUT: true; the input reads as it did. -/
def fnExactPutUsedSpec : ChangeSpec := { name := "fnExactPutUsed", fn := fun _ => fun
  | [d] => { results := [.lit (.bool true)], args := [d] }
  | _ => none }
def fnExactPutUsedRow : OpenClaim := { program := "yteaohgipndmciaa", sum := "3c37bcc4312bc117a6749fc777756604bce7b4a821e71be512feb21d6f6c72c1", func := "loop.example/g00674/laws.FnExactPutUsed", spec := "fnExactPutUsed", unfollowed := true, recurses := true, apart := false }
def FnExactPutUsedSaid : Prop := fnExactPutUsedRow.holds Try.pinned (OpenSpec.ofChange fnExactPutUsedSpec)

/-- ITS FALSE NEIGHBOUR: 'it returns false'. Refute it at one input. -/
def fnExactPutUsedWrong : ChangeSpec := { name := "fnExactPutUsed", fn := fun _ => fun
  | [d] => { results := [.lit (.bool false)], args := [d] }
  | _ => none }
def FnExactPutUsedWrongFalsely : Prop := fnExactPutUsedRow.holds Try.pinned (OpenSpec.ofChange fnExactPutUsedWrong)

/-- 'laws.FnExactRanksOk': WHATEVER THE INPUT: true; the input reads as it did. -/
def fnExactRanksOkSpec : ChangeSpec := { name := "fnExactRanksOk", fn := fun _ => fun
  | [d1, d2] => { results := [.lit (.bool true)], args := [d1, d2] }
  | _ => none }
def fnExactRanksOkRow : OpenClaim := { program := "yteaohgipndmciaa", sum := "3c37bcc4312bc117a6749fc777756604bce7b4a821e71be512feb21d6f6c72c1", func := "loop.example/g00674/laws.FnExactRanksOk", spec := "fnExactRanksOk", apart := false }
def FnExactRanksOkSaid : Prop := fnExactRanksOkRow.holds Try.pinned (OpenSpec.ofChange fnExactRanksOkSpec)

/-- ITS FALSE NEIGHBOUR: 'it returns false'. Refute it at one input. -/
def fnExactRanksOkWrong : ChangeSpec := { name := "fnExactRanksOk", fn := fun _ => fun
  | [d1, d2] => { results := [.lit (.bool false)], args := [d1, d2] }
  | _ => none }
def FnExactRanksOkWrongFalsely : Prop := fnExactRanksOkRow.holds Try.pinned (OpenSpec.ofChange fnExactRanksOkWrong)

/-- 'laws.FnExactMtf': WHATEVER THE INPUT: true; the input reads as it did. -/
def fnExactMtfSpec : ChangeSpec := { name := "fnExactMtf", fn := fun _ => fun
  | [d1, d2] => { results := [.lit (.bool true)], args := [d1, d2] }
  | _ => none }
def fnExactMtfRow : OpenClaim := { program := "yteaohgipndmciaa", sum := "3c37bcc4312bc117a6749fc777756604bce7b4a821e71be512feb21d6f6c72c1", func := "loop.example/g00674/laws.FnExactMtf", spec := "fnExactMtf", unfollowed := true, recurses := true, apart := false }
def FnExactMtfSaid : Prop := fnExactMtfRow.holds Try.pinned (OpenSpec.ofChange fnExactMtfSpec)

/-- ITS FALSE NEIGHBOUR: 'it returns false'. Refute it at one input. -/
def fnExactMtfWrong : ChangeSpec := { name := "fnExactMtf", fn := fun _ => fun
  | [d1, d2] => { results := [.lit (.bool false)], args := [d1, d2] }
  | _ => none }
def FnExactMtfWrongFalsely : Prop := fnExactMtfRow.holds Try.pinned (OpenSpec.ofChange fnExactMtfWrong)

/-- 'laws.FnExactUnMtf': WHATEVER THE INPUT: true; the input reads as it did. -/
def fnExactUnMtfSpec : ChangeSpec := { name := "fnExactUnMtf", fn := fun _ => fun
  | [d1, d2] => { results := [.lit (.bool true)], args := [d1, d2] }
  | _ => none }
def fnExactUnMtfRow : OpenClaim := { program := "yteaohgipndmciaa", sum := "3c37bcc4312bc117a6749fc777756604bce7b4a821e71be512feb21d6f6c72c1", func := "loop.example/g00674/laws.FnExactUnMtf", spec := "fnExactUnMtf", unfollowed := true, recurses := true, apart := false }
def FnExactUnMtfSaid : Prop := fnExactUnMtfRow.holds Try.pinned (OpenSpec.ofChange fnExactUnMtfSpec)

/-- ITS FALSE NEIGHBOUR: 'it returns false'. Refute it at one input. -/
def fnExactUnMtfWrong : ChangeSpec := { name := "fnExactUnMtf", fn := fun _ => fun
  | [d1, d2] => { results := [.lit (.bool false)], args := [d1, d2] }
  | _ => none }
def FnExactUnMtfWrongFalsely : Prop := fnExactUnMtfRow.holds Try.pinned (OpenSpec.ofChange fnExactUnMtfWrong)

/-- 'laws.FnExactSbr': WHATEVER THE INPUT: true; the input reads as it did. -/
def fnExactSbrSpec : ChangeSpec := { name := "fnExactSbr", fn := fun _ => fun
  | [d1, d2] => { results := [.lit (.bool true)], args := [d1, d2] }
  | _ => none }
def fnExactSbrRow : OpenClaim := { program := "yteaohgipndmciaa", sum := "3c37bcc4312bc117a6749fc777756604bce7b4a821e71be512feb21d6f6c72c1", func := "loop.example/g00674/laws.FnExactSbr", spec := "fnExactSbr", unfollowed := true, recurses := true, apart := false }
def FnExactSbrSaid : Prop := fnExactSbrRow.holds Try.pinned (OpenSpec.ofChange fnExactSbrSpec)

/-- ITS FALSE NEIGHBOUR: 'it returns false'. Refute it at one input. -/
def fnExactSbrWrong : ChangeSpec := { name := "fnExactSbr", fn := fun _ => fun
  | [d1, d2] => { results := [.lit (.bool false)], args := [d1, d2] }
  | _ => none }
def FnExactSbrWrongFalsely : Prop := fnExactSbrRow.holds Try.pinned (OpenSpec.ofChange fnExactSbrWrong)

/-- 'laws.FnExactUnSbr': WHATEVER THE INPUT: true; the input reads as it did. -/
def fnExactUnSbrSpec : ChangeSpec := { name := "fnExactUnSbr", fn := fun _ => fun
  | [d1, d2] => { results := [.lit (.bool true)], args := [d1, d2] }
  | _ => none }
def fnExactUnSbrRow : OpenClaim := { program := "yteaohgipndmciaa", sum := "3c37bcc4312bc117a6749fc777756604bce7b4a821e71be512feb21d6f6c72c1", func := "loop.example/g00674/laws.FnExactUnSbr", spec := "fnExactUnSbr", unfollowed := true, recurses := true, apart := false }
def FnExactUnSbrSaid : Prop := fnExactUnSbrRow.holds Try.pinned (OpenSpec.ofChange fnExactUnSbrSpec)

/-- ITS FALSE NEIGHBOUR: 'it returns false'. Refute it at one input. -/
def fnExactUnSbrWrong : ChangeSpec := { name := "fnExactUnSbr", fn := fun _ => fun
  | [d1, d2] => { results := [.lit (.bool false)], args := [d1, d2] }
  | _ => none }
def FnExactUnSbrWrongFalsely : Prop := fnExactUnSbrRow.holds Try.pinned (OpenSpec.ofChange fnExactUnSbrWrong)

/-- 'laws.FnExactInv': WHATEVER THE INPUT: true; the input reads as it did. -/
def fnExactInvSpec : ChangeSpec := { name := "fnExactInv", fn := fun _ => fun
  | [d1, d2] => { results := [.lit (.bool true)], args := [d1, d2] }
  | _ => none }
def fnExactInvRow : OpenClaim := { program := "yteaohgipndmciaa", sum := "3c37bcc4312bc117a6749fc777756604bce7b4a821e71be512feb21d6f6c72c1", func := "loop.example/g00674/laws.FnExactInv", spec := "fnExactInv", unfollowed := true, recurses := true, apart := false }
def FnExactInvSaid : Prop := fnExactInvRow.holds Try.pinned (OpenSpec.ofChange fnExactInvSpec)

/-- ITS FALSE NEIGHBOUR: 'it returns false'. Refute it at one input. -/
def fnExactInvWrong : ChangeSpec := { name := "fnExactInv", fn := fun _ => fun
  | [d1, d2] => { results := [.lit (.bool false)], args := [d1, d2] }
  | _ => none }
def FnExactInvWrongFalsely : Prop := fnExactInvRow.holds Try.pinned (OpenSpec.ofChange fnExactInvWrong)

/-- 'laws.FnExactUnInv': WHATEVER THE INPUT: true; the input reads as it did. -/
def fnExactUnInvSpec : ChangeSpec := { name := "fnExactUnInv", fn := fun _ => fun
  | [d1, d2, d3] => { results := [.lit (.bool true)], args := [d1, d2, d3] }
  | _ => none }
def fnExactUnInvRow : OpenClaim := { program := "yteaohgipndmciaa", sum := "3c37bcc4312bc117a6749fc777756604bce7b4a821e71be512feb21d6f6c72c1", func := "loop.example/g00674/laws.FnExactUnInv", spec := "fnExactUnInv", unfollowed := true, recurses := true, apart := false }
def FnExactUnInvSaid : Prop := fnExactUnInvRow.holds Try.pinned (OpenSpec.ofChange fnExactUnInvSpec)

/-- ITS FALSE NEIGHBOUR: 'it returns false'. Refute it at one input. -/
def fnExactUnInvWrong : ChangeSpec := { name := "fnExactUnInv", fn := fun _ => fun
  | [d1, d2, d3] => { results := [.lit (.bool false)], args := [d1, d2, d3] }
  | _ => none }
def FnExactUnInvWrongFalsely : Prop := fnExactUnInvRow.holds Try.pinned (OpenSpec.ofChange fnExactUnInvWrong)

/- THE SECOND FORM. 'bulk': how many values and letters a reading holds, each counted each time it is reached (what is shared counts as often as it is met; a slice's spare places count too). A statement '..UptoSaid' is the law's where the arguments, and the package variables that the reading takes, are together of bulk at most 1048576: NARROWER than '..Said'. Prove '..Said' where nothing that the law and all that it calls make is longer than what came in: it says more and counts as full. Else prove '..UptoSaid'. A law counts once. -/
mutual
def uptoBulk {H : Type} : DataW H → Nat
  | .lit (.string bytes) => bytes.length + 1
  | .lit _ => 1
  | .nil => 1
  | .ptr d => uptoBulk d + 1
  | .slice elems spare => uptoBulkAll elems + uptoBulkAll spare + 1
  | .agg parts => uptoBulkAll parts + 1
  | .iface _ d => uptoBulk d + 1
  | .map entries => uptoBulkEntries entries + 1
  | .held _ => 1
def uptoBulkAll {H : Type} : List (DataW H) → Nat
  | [] => 0
  | d :: r => uptoBulk d + uptoBulkAll r
def uptoBulkEntries {H : Type} : List (Lit × DataW H) → Nat
  | [] => 0
  | x :: r => uptoBulkEntry x + uptoBulkEntries r
def uptoBulkEntry {H : Type} : Lit × DataW H → Nat
  | (.string bytes, d) => bytes.length + uptoBulk d + 1
  | (_, d) => uptoBulk d + 1
 end
def uptoSmall : (H : Type) → List (DataW H) → Bool := fun _ ds => decide (uptoBulkAll ds ≤ 1048576)
def OpenSpec.upto (s : _root_.Go.ChangeSpec) : _root_.Go.OpenSpec := { _root_.Go.OpenSpec.ofChange s with cond := some uptoSmall }

/-- 'laws.FnUsed', WHERE WHAT IT READS IS OF BULK AT MOST 1048576: true; the input reads as it did. -/
def fnUsedUptoRow : OpenClaim := { program := "yteaohgipndmciaa", sum := "3c37bcc4312bc117a6749fc777756604bce7b4a821e71be512feb21d6f6c72c1", func := "loop.example/g00674/laws.FnUsed", spec := "fnUsed", inPlace := ["internal/bytealg.IndexByteString"], unfollowed := true, recurses := true, apart := false, narrowed := true }
def FnUsedUptoSaid : Prop := fnUsedUptoRow.holds Try.pinned (OpenSpec.upto fnUsedSpec)

/-- 'laws.FnOrders', WHERE WHAT IT READS IS OF BULK AT MOST 1048576: true; the input reads as it did. -/
def fnOrdersUptoRow : OpenClaim := { program := "yteaohgipndmciaa", sum := "3c37bcc4312bc117a6749fc777756604bce7b4a821e71be512feb21d6f6c72c1", func := "loop.example/g00674/laws.FnOrders", spec := "fnOrders", inPlace := ["internal/bytealg.IndexByteString"], unfollowed := true, recurses := true, apart := false, narrowed := true }
def FnOrdersUptoSaid : Prop := fnOrdersUptoRow.holds Try.pinned (OpenSpec.upto fnOrdersSpec)

/-- 'laws.FnRanks', WHERE WHAT IT READS IS OF BULK AT MOST 1048576: true; the input reads as it did. -/
def fnRanksUptoRow : OpenClaim := { program := "yteaohgipndmciaa", sum := "3c37bcc4312bc117a6749fc777756604bce7b4a821e71be512feb21d6f6c72c1", func := "loop.example/g00674/laws.FnRanks", spec := "fnRanks", inPlace := ["internal/bytealg.IndexByteString"], unfollowed := true, recurses := true, apart := false, narrowed := true }
def FnRanksUptoSaid : Prop := fnRanksUptoRow.holds Try.pinned (OpenSpec.upto fnRanksSpec)

/-- 'laws.FnExactPutUsed', WHERE WHAT IT READS IS OF BULK AT MOST 1048576: true; the input reads as it did. -/
def fnExactPutUsedUptoRow : OpenClaim := { program := "yteaohgipndmciaa", sum := "3c37bcc4312bc117a6749fc777756604bce7b4a821e71be512feb21d6f6c72c1", func := "loop.example/g00674/laws.FnExactPutUsed", spec := "fnExactPutUsed", unfollowed := true, recurses := true, apart := false, narrowed := true }
def FnExactPutUsedUptoSaid : Prop := fnExactPutUsedUptoRow.holds Try.pinned (OpenSpec.upto fnExactPutUsedSpec)

/-- 'laws.FnExactRanksOk', WHERE WHAT IT READS IS OF BULK AT MOST 1048576: true; the input reads as it did. -/
def fnExactRanksOkUptoRow : OpenClaim := { program := "yteaohgipndmciaa", sum := "3c37bcc4312bc117a6749fc777756604bce7b4a821e71be512feb21d6f6c72c1", func := "loop.example/g00674/laws.FnExactRanksOk", spec := "fnExactRanksOk", apart := false, narrowed := true }
def FnExactRanksOkUptoSaid : Prop := fnExactRanksOkUptoRow.holds Try.pinned (OpenSpec.upto fnExactRanksOkSpec)

/-- 'laws.FnExactMtf', WHERE WHAT IT READS IS OF BULK AT MOST 1048576: true; the input reads as it did. -/
def fnExactMtfUptoRow : OpenClaim := { program := "yteaohgipndmciaa", sum := "3c37bcc4312bc117a6749fc777756604bce7b4a821e71be512feb21d6f6c72c1", func := "loop.example/g00674/laws.FnExactMtf", spec := "fnExactMtf", unfollowed := true, recurses := true, apart := false, narrowed := true }
def FnExactMtfUptoSaid : Prop := fnExactMtfUptoRow.holds Try.pinned (OpenSpec.upto fnExactMtfSpec)

/-- 'laws.FnExactUnMtf', WHERE WHAT IT READS IS OF BULK AT MOST 1048576: true; the input reads as it did. -/
def fnExactUnMtfUptoRow : OpenClaim := { program := "yteaohgipndmciaa", sum := "3c37bcc4312bc117a6749fc777756604bce7b4a821e71be512feb21d6f6c72c1", func := "loop.example/g00674/laws.FnExactUnMtf", spec := "fnExactUnMtf", unfollowed := true, recurses := true, apart := false, narrowed := true }
def FnExactUnMtfUptoSaid : Prop := fnExactUnMtfUptoRow.holds Try.pinned (OpenSpec.upto fnExactUnMtfSpec)

/-- 'laws.FnExactSbr', WHERE WHAT IT READS IS OF BULK AT MOST 1048576: true; the input reads as it did. -/
def fnExactSbrUptoRow : OpenClaim := { program := "yteaohgipndmciaa", sum := "3c37bcc4312bc117a6749fc777756604bce7b4a821e71be512feb21d6f6c72c1", func := "loop.example/g00674/laws.FnExactSbr", spec := "fnExactSbr", unfollowed := true, recurses := true, apart := false, narrowed := true }
def FnExactSbrUptoSaid : Prop := fnExactSbrUptoRow.holds Try.pinned (OpenSpec.upto fnExactSbrSpec)

/-- 'laws.FnExactUnSbr', WHERE WHAT IT READS IS OF BULK AT MOST 1048576: true; the input reads as it did. -/
def fnExactUnSbrUptoRow : OpenClaim := { program := "yteaohgipndmciaa", sum := "3c37bcc4312bc117a6749fc777756604bce7b4a821e71be512feb21d6f6c72c1", func := "loop.example/g00674/laws.FnExactUnSbr", spec := "fnExactUnSbr", unfollowed := true, recurses := true, apart := false, narrowed := true }
def FnExactUnSbrUptoSaid : Prop := fnExactUnSbrUptoRow.holds Try.pinned (OpenSpec.upto fnExactUnSbrSpec)

/-- 'laws.FnExactInv', WHERE WHAT IT READS IS OF BULK AT MOST 1048576: true; the input reads as it did. -/
def fnExactInvUptoRow : OpenClaim := { program := "yteaohgipndmciaa", sum := "3c37bcc4312bc117a6749fc777756604bce7b4a821e71be512feb21d6f6c72c1", func := "loop.example/g00674/laws.FnExactInv", spec := "fnExactInv", unfollowed := true, recurses := true, apart := false, narrowed := true }
def FnExactInvUptoSaid : Prop := fnExactInvUptoRow.holds Try.pinned (OpenSpec.upto fnExactInvSpec)

/-- 'laws.FnExactUnInv', WHERE WHAT IT READS IS OF BULK AT MOST 1048576: true; the input reads as it did. -/
def fnExactUnInvUptoRow : OpenClaim := { program := "yteaohgipndmciaa", sum := "3c37bcc4312bc117a6749fc777756604bce7b4a821e71be512feb21d6f6c72c1", func := "loop.example/g00674/laws.FnExactUnInv", spec := "fnExactUnInv", unfollowed := true, recurses := true, apart := false, narrowed := true }
def FnExactUnInvUptoSaid : Prop := fnExactUnInvUptoRow.holds Try.pinned (OpenSpec.upto fnExactUnInvSpec)

end Rows
end Go.Proofs.Yteaohgipndmciaa
