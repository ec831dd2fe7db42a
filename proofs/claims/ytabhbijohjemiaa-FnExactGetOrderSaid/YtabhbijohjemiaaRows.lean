/-
  No cell of these rows narrows 'for every input' (looked for: loops, veiled, ifaces, maps, wideKeys, modest, calm, conditions, laid).
  DERIVED. THE GIVEN ROWS OF THIS SEAT. 12 by the template 'for every input the law returns true; each argument reads behind the call as it read before'; 0 by the template 'total and deterministic' (their statements: YtabhbijohjemiaaTotals.lean).
  GIVEN WITH THE SEED: the statements are not yours to turn. If you find one false, say at which input.
  Laid BY PROGRAM, IN A SANDBOX (cutbox-rows.mjs): the forced cells as the released guide's own fill.sh prints them over the translation 731d44df0a5c260e… (all of the seat's roots in one cut). By AI agents, Wed Nov 11 2026. No macro, syntax, notation, axiom, sorry.
-/
import Derived.Test.YtabhbijohjemiaaChecked
import GoSem.Claim
import GoSem.ClaimJoined
import GoSem.ClaimMapViews
import Derived.JoinedTies
import Derived.KernelRfl
namespace Go.Proofs.Ytabhbijohjemiaa
/- THE CELL 'sum', in the pinned program and in every row, IS THE sha256 OF THE DUMP (.gsa) THAT YtabhbijohjemiaaProg.lean LOADS. Nothing in Lean hashes anything: it is a label: what it is worth is what the hold of that sum in a sandbox is worth. -/
noncomputable def Try.pinned : Pinned := { name := "ytabhbijohjemiaa", sum := "731d44df0a5c260e5072015054baf0f7092e5a9fe2b7bfc500e71f273c6f0683", checked := Try.checked }
namespace Rows
def none {H : Type} : Left H := { results := [], args := [] }

/-- 'laws.FnUsed': WHATEVER THE INPUT: true; the input reads as it did. -/
def fnUsedSpec : ChangeSpec := { name := "fnUsed", fn := fun _ => fun
  | [d] => { results := [.lit (.bool true)], args := [d] }
  | _ => none }
def fnUsedRow : OpenClaim := { program := "ytabhbijohjemiaa", sum := "731d44df0a5c260e5072015054baf0f7092e5a9fe2b7bfc500e71f273c6f0683", func := "loop.example/g00674/laws.FnUsed", spec := "fnUsed", inPlace := ["internal/bytealg.IndexByteString"], unfollowed := true, recurses := true, apart := false }
def FnUsedSaid : Prop := fnUsedRow.holds Try.pinned (OpenSpec.ofChange fnUsedSpec)

/-- ITS FALSE NEIGHBOUR: 'it returns false'. Refute it at one input. -/
def fnUsedWrong : ChangeSpec := { name := "fnUsed", fn := fun _ => fun
  | [d] => { results := [.lit (.bool false)], args := [d] }
  | _ => none }
def FnUsedWrongFalsely : Prop := fnUsedRow.holds Try.pinned (OpenSpec.ofChange fnUsedWrong)

/-- 'laws.FnOrders': WHATEVER THE INPUT: true; the input reads as it did. -/
def fnOrdersSpec : ChangeSpec := { name := "fnOrders", fn := fun _ => fun
  | [d] => { results := [.lit (.bool true)], args := [d] }
  | _ => none }
def fnOrdersRow : OpenClaim := { program := "ytabhbijohjemiaa", sum := "731d44df0a5c260e5072015054baf0f7092e5a9fe2b7bfc500e71f273c6f0683", func := "loop.example/g00674/laws.FnOrders", spec := "fnOrders", inPlace := ["internal/bytealg.IndexByteString"], unfollowed := true, recurses := true, apart := false }
def FnOrdersSaid : Prop := fnOrdersRow.holds Try.pinned (OpenSpec.ofChange fnOrdersSpec)

/-- ITS FALSE NEIGHBOUR: 'it returns false'. Refute it at one input. -/
def fnOrdersWrong : ChangeSpec := { name := "fnOrders", fn := fun _ => fun
  | [d] => { results := [.lit (.bool false)], args := [d] }
  | _ => none }
def FnOrdersWrongFalsely : Prop := fnOrdersRow.holds Try.pinned (OpenSpec.ofChange fnOrdersWrong)

/-- 'laws.FnRanks': WHATEVER THE INPUT: true; the input reads as it did. -/
def fnRanksSpec : ChangeSpec := { name := "fnRanks", fn := fun _ => fun
  | [d] => { results := [.lit (.bool true)], args := [d] }
  | _ => none }
def fnRanksRow : OpenClaim := { program := "ytabhbijohjemiaa", sum := "731d44df0a5c260e5072015054baf0f7092e5a9fe2b7bfc500e71f273c6f0683", func := "loop.example/g00674/laws.FnRanks", spec := "fnRanks", inPlace := ["internal/bytealg.IndexByteString"], unfollowed := true, recurses := true, apart := false }
def FnRanksSaid : Prop := fnRanksRow.holds Try.pinned (OpenSpec.ofChange fnRanksSpec)

/-- ITS FALSE NEIGHBOUR: 'it returns false'. Refute it at one input. -/
def fnRanksWrong : ChangeSpec := { name := "fnRanks", fn := fun _ => fun
  | [d] => { results := [.lit (.bool false)], args := [d] }
  | _ => none }
def FnRanksWrongFalsely : Prop := fnRanksRow.holds Try.pinned (OpenSpec.ofChange fnRanksWrong)

/-- 'laws.FnExactUsed': WHATEVER THE INPUT: true; the input reads as it did. -/
def fnExactUsedSpec : ChangeSpec := { name := "fnExactUsed", fn := fun _ => fun
  | [d] => { results := [.lit (.bool true)], args := [d] }
  | _ => none }
def fnExactUsedRow : OpenClaim := { program := "ytabhbijohjemiaa", sum := "731d44df0a5c260e5072015054baf0f7092e5a9fe2b7bfc500e71f273c6f0683", func := "loop.example/g00674/laws.FnExactUsed", spec := "fnExactUsed", unfollowed := true, recurses := true, apart := false }
def FnExactUsedSaid : Prop := fnExactUsedRow.holds Try.pinned (OpenSpec.ofChange fnExactUsedSpec)

/-- ITS FALSE NEIGHBOUR: 'it returns false'. Refute it at one input. -/
def fnExactUsedWrong : ChangeSpec := { name := "fnExactUsed", fn := fun _ => fun
  | [d] => { results := [.lit (.bool false)], args := [d] }
  | _ => none }
def FnExactUsedWrongFalsely : Prop := fnExactUsedRow.holds Try.pinned (OpenSpec.ofChange fnExactUsedWrong)

/-- 'laws.FnExactByCount': WHATEVER THE INPUT: true; the input reads as it did. -/
def fnExactByCountSpec : ChangeSpec := { name := "fnExactByCount", fn := fun _ => fun
  | [d] => { results := [.lit (.bool true)], args := [d] }
  | _ => none }
def fnExactByCountRow : OpenClaim := { program := "ytabhbijohjemiaa", sum := "731d44df0a5c260e5072015054baf0f7092e5a9fe2b7bfc500e71f273c6f0683", func := "loop.example/g00674/laws.FnExactByCount", spec := "fnExactByCount", unfollowed := true, recurses := true, apart := false }
def FnExactByCountSaid : Prop := fnExactByCountRow.holds Try.pinned (OpenSpec.ofChange fnExactByCountSpec)

/-- ITS FALSE NEIGHBOUR: 'it returns false'. Refute it at one input. -/
def fnExactByCountWrong : ChangeSpec := { name := "fnExactByCount", fn := fun _ => fun
  | [d] => { results := [.lit (.bool false)], args := [d] }
  | _ => none }
def FnExactByCountWrongFalsely : Prop := fnExactByCountRow.holds Try.pinned (OpenSpec.ofChange fnExactByCountWrong)

/-- 'laws.FnExactOrderOk': WHATEVER THE INPUT: true; the input reads as it did. -/
def fnExactOrderOkSpec : ChangeSpec := { name := "fnExactOrderOk", fn := fun _ => fun
  | [d] => { results := [.lit (.bool true)], args := [d] }
  | _ => none }
def fnExactOrderOkRow : OpenClaim := { program := "ytabhbijohjemiaa", sum := "731d44df0a5c260e5072015054baf0f7092e5a9fe2b7bfc500e71f273c6f0683", func := "loop.example/g00674/laws.FnExactOrderOk", spec := "fnExactOrderOk", apart := false }
def FnExactOrderOkSaid : Prop := fnExactOrderOkRow.holds Try.pinned (OpenSpec.ofChange fnExactOrderOkSpec)

/-- ITS FALSE NEIGHBOUR: 'it returns false'. Refute it at one input. -/
def fnExactOrderOkWrong : ChangeSpec := { name := "fnExactOrderOk", fn := fun _ => fun
  | [d] => { results := [.lit (.bool false)], args := [d] }
  | _ => none }
def FnExactOrderOkWrongFalsely : Prop := fnExactOrderOkRow.holds Try.pinned (OpenSpec.ofChange fnExactOrderOkWrong)

/-- 'laws.FnExactPutUsed': WHATEVER THE INPUT: true; the input reads as it did. -/
def fnExactPutUsedSpec : ChangeSpec := { name := "fnExactPutUsed", fn := fun _ => fun
  | [d] => { results := [.lit (.bool true)], args := [d] }
  | _ => none }
def fnExactPutUsedRow : OpenClaim := { program := "ytabhbijohjemiaa", sum := "731d44df0a5c260e5072015054baf0f7092e5a9fe2b7bfc500e71f273c6f0683", func := "loop.example/g00674/laws.FnExactPutUsed", spec := "fnExactPutUsed", unfollowed := true, recurses := true, apart := false }
def FnExactPutUsedSaid : Prop := fnExactPutUsedRow.holds Try.pinned (OpenSpec.ofChange fnExactPutUsedSpec)

/-- ITS FALSE NEIGHBOUR: 'it returns false'. Refute it at one input. -/
def fnExactPutUsedWrong : ChangeSpec := { name := "fnExactPutUsed", fn := fun _ => fun
  | [d] => { results := [.lit (.bool false)], args := [d] }
  | _ => none }
def FnExactPutUsedWrongFalsely : Prop := fnExactPutUsedRow.holds Try.pinned (OpenSpec.ofChange fnExactPutUsedWrong)

/-- 'laws.FnExactGetUsed': WHATEVER THE INPUT: true; the input reads as it did. -/
def fnExactGetUsedSpec : ChangeSpec := { name := "fnExactGetUsed", fn := fun _ => fun
  | [d] => { results := [.lit (.bool true)], args := [d] }
  | _ => none }
def fnExactGetUsedRow : OpenClaim := { program := "ytabhbijohjemiaa", sum := "731d44df0a5c260e5072015054baf0f7092e5a9fe2b7bfc500e71f273c6f0683", func := "loop.example/g00674/laws.FnExactGetUsed", spec := "fnExactGetUsed", apart := false }
def FnExactGetUsedSaid : Prop := fnExactGetUsedRow.holds Try.pinned (OpenSpec.ofChange fnExactGetUsedSpec)

/-- ITS FALSE NEIGHBOUR: 'it returns false'. Refute it at one input. -/
def fnExactGetUsedWrong : ChangeSpec := { name := "fnExactGetUsed", fn := fun _ => fun
  | [d] => { results := [.lit (.bool false)], args := [d] }
  | _ => none }
def FnExactGetUsedWrongFalsely : Prop := fnExactGetUsedRow.holds Try.pinned (OpenSpec.ofChange fnExactGetUsedWrong)

/-- 'laws.FnExactPutOrder': WHATEVER THE INPUT: true; the input reads as it did. -/
def fnExactPutOrderSpec : ChangeSpec := { name := "fnExactPutOrder", fn := fun _ => fun
  | [d] => { results := [.lit (.bool true)], args := [d] }
  | _ => none }
def fnExactPutOrderRow : OpenClaim := { program := "ytabhbijohjemiaa", sum := "731d44df0a5c260e5072015054baf0f7092e5a9fe2b7bfc500e71f273c6f0683", func := "loop.example/g00674/laws.FnExactPutOrder", spec := "fnExactPutOrder", apart := false }
def FnExactPutOrderSaid : Prop := fnExactPutOrderRow.holds Try.pinned (OpenSpec.ofChange fnExactPutOrderSpec)

/-- ITS FALSE NEIGHBOUR: 'it returns false'. Refute it at one input. -/
def fnExactPutOrderWrong : ChangeSpec := { name := "fnExactPutOrder", fn := fun _ => fun
  | [d] => { results := [.lit (.bool false)], args := [d] }
  | _ => none }
def FnExactPutOrderWrongFalsely : Prop := fnExactPutOrderRow.holds Try.pinned (OpenSpec.ofChange fnExactPutOrderWrong)

/-- 'laws.FnExactGetOrder': WHATEVER THE INPUT: true; the input reads as it did. -/
def fnExactGetOrderSpec : ChangeSpec := { name := "fnExactGetOrder", fn := fun _ => fun
  | [d1, d2] => { results := [.lit (.bool true)], args := [d1, d2] }
  | _ => none }
def fnExactGetOrderRow : OpenClaim := { program := "ytabhbijohjemiaa", sum := "731d44df0a5c260e5072015054baf0f7092e5a9fe2b7bfc500e71f273c6f0683", func := "loop.example/g00674/laws.FnExactGetOrder", spec := "fnExactGetOrder", unfollowed := true, recurses := true, apart := false }
def FnExactGetOrderSaid : Prop := fnExactGetOrderRow.holds Try.pinned (OpenSpec.ofChange fnExactGetOrderSpec)

/-- ITS FALSE NEIGHBOUR: 'it returns false'. Refute it at one input. -/
def fnExactGetOrderWrong : ChangeSpec := { name := "fnExactGetOrder", fn := fun _ => fun
  | [d1, d2] => { results := [.lit (.bool false)], args := [d1, d2] }
  | _ => none }
def FnExactGetOrderWrongFalsely : Prop := fnExactGetOrderRow.holds Try.pinned (OpenSpec.ofChange fnExactGetOrderWrong)

/-- 'laws.FnExactToRanks': WHATEVER THE INPUT: true; the input reads as it did. -/
def fnExactToRanksSpec : ChangeSpec := { name := "fnExactToRanks", fn := fun _ => fun
  | [d1, d2] => { results := [.lit (.bool true)], args := [d1, d2] }
  | _ => none }
def fnExactToRanksRow : OpenClaim := { program := "ytabhbijohjemiaa", sum := "731d44df0a5c260e5072015054baf0f7092e5a9fe2b7bfc500e71f273c6f0683", func := "loop.example/g00674/laws.FnExactToRanks", spec := "fnExactToRanks", inPlace := ["internal/bytealg.IndexByteString"], apart := false }
def FnExactToRanksSaid : Prop := fnExactToRanksRow.holds Try.pinned (OpenSpec.ofChange fnExactToRanksSpec)

/-- ITS FALSE NEIGHBOUR: 'it returns false'. Refute it at one input. -/
def fnExactToRanksWrong : ChangeSpec := { name := "fnExactToRanks", fn := fun _ => fun
  | [d1, d2] => { results := [.lit (.bool false)], args := [d1, d2] }
  | _ => none }
def FnExactToRanksWrongFalsely : Prop := fnExactToRanksRow.holds Try.pinned (OpenSpec.ofChange fnExactToRanksWrong)

/-- 'laws.FnExactFromRanks': WHATEVER THE INPUT: true; the input reads as it did. -/
def fnExactFromRanksSpec : ChangeSpec := { name := "fnExactFromRanks", fn := fun _ => fun
  | [d1, d2] => { results := [.lit (.bool true)], args := [d1, d2] }
  | _ => none }
def fnExactFromRanksRow : OpenClaim := { program := "ytabhbijohjemiaa", sum := "731d44df0a5c260e5072015054baf0f7092e5a9fe2b7bfc500e71f273c6f0683", func := "loop.example/g00674/laws.FnExactFromRanks", spec := "fnExactFromRanks", apart := false }
def FnExactFromRanksSaid : Prop := fnExactFromRanksRow.holds Try.pinned (OpenSpec.ofChange fnExactFromRanksSpec)

/-- ITS FALSE NEIGHBOUR: 'it returns false'. Refute it at one input. -/
def fnExactFromRanksWrong : ChangeSpec := { name := "fnExactFromRanks", fn := fun _ => fun
  | [d1, d2] => { results := [.lit (.bool false)], args := [d1, d2] }
  | _ => none }
def FnExactFromRanksWrongFalsely : Prop := fnExactFromRanksRow.holds Try.pinned (OpenSpec.ofChange fnExactFromRanksWrong)

/- THE SECOND FORM. 'bulk': how many values and letters a reading holds, each counted each time it is reached (what is shared counts as often as it is met; a slice's spare places count too). A statement '..UptoSaid' is the law's where the arguments, and the package variables that the reading takes, are together of bulk at most 1048576: NARROWER than '..Said'. Prove '..Said' where nothing that the law and all that it calls make is longer than what came in: it says more and counts as full. Else prove '..UptoSaid'. A law counts once. -/
mutual
def uptoBulk {H : Type} : DataW H → Nat
  | .lit (.string bytes) => bytes.length + 1
  | .lit _ => 1
  | .nil => 1
  | .ptr d => uptoBulk d + 1
  | .slice elems spare => uptoBulkAll elems + uptoBulkAll spare + 1
  | .agg parts => uptoBulkAll parts + 1
  | .iface _ d => uptoBulk d + 1
  | .map entries => uptoBulkEntries entries + 1
  | .held _ => 1
def uptoBulkAll {H : Type} : List (DataW H) → Nat
  | [] => 0
  | d :: r => uptoBulk d + uptoBulkAll r
def uptoBulkEntries {H : Type} : List (Lit × DataW H) → Nat
  | [] => 0
  | x :: r => uptoBulkEntry x + uptoBulkEntries r
def uptoBulkEntry {H : Type} : Lit × DataW H → Nat
  | (.string bytes, d) => bytes.length + uptoBulk d + 1
  | (_, d) => uptoBulk d + 1
 end
def uptoSmall : (H : Type) → List (DataW H) → Bool := fun _ ds => decide (uptoBulkAll ds ≤ 1048576)
def OpenSpec.upto (s : _root_.Go.ChangeSpec) : _root_.Go.OpenSpec := { _root_.Go.OpenSpec.ofChange s with cond := some uptoSmall }

/-- 'laws.FnUsed', WHERE WHAT IT READS IS OF BULK AT MOST 1048576: true; the input reads as it did. -/
def fnUsedUptoRow : OpenClaim := { program := "ytabhbijohjemiaa", sum := "731d44df0a5c260e5072015054baf0f7092e5a9fe2b7bfc500e71f273c6f0683", func := "loop.example/g00674/laws.FnUsed", spec := "fnUsed", inPlace := ["internal/bytealg.IndexByteString"], unfollowed := true, recurses := true, apart := false, narrowed := true }
def FnUsedUptoSaid : Prop := fnUsedUptoRow.holds Try.pinned (OpenSpec.upto fnUsedSpec)

/-- 'laws.FnOrders', WHERE WHAT IT READS IS OF BULK AT MOST 1048576: true; the input reads as it did. -/
def fnOrdersUptoRow : OpenClaim := { program := "ytabhbijohjemiaa", sum := "731d44df0a5c260e5072015054baf0f7092e5a9fe2b7bfc500e71f273c6f0683", func := "loop.example/g00674/laws.FnOrders", spec := "fnOrders", inPlace := ["internal/bytealg.IndexByteString"], unfollowed := true, recurses := true, apart := false, narrowed := true }
def FnOrdersUptoSaid : Prop := fnOrdersUptoRow.holds Try.pinned (OpenSpec.upto fnOrdersSpec)

/-- 'laws.FnRanks', WHERE WHAT IT READS IS OF BULK AT MOST 1048576: true; the input reads as it did. -/
def fnRanksUptoRow : OpenClaim := { program := "ytabhbijohjemiaa", sum := "731d44df0a5c260e5072015054baf0f7092e5a9fe2b7bfc500e71f273c6f0683", func := "loop.example/g00674/laws.FnRanks", spec := "fnRanks", inPlace := ["internal/bytealg.IndexByteString"], unfollowed := true, recurses := true, apart := false, narrowed := true }
def FnRanksUptoSaid : Prop := fnRanksUptoRow.holds Try.pinned (OpenSpec.upto fnRanksSpec)

/-- 'laws.FnExactUsed', WHERE WHAT IT READS IS OF BULK AT MOST 1048576: true; the input reads as it did. -/
def fnExactUsedUptoRow : OpenClaim := { program := "ytabhbijohjemiaa", sum := "731d44df0a5c260e5072015054baf0f7092e5a9fe2b7bfc500e71f273c6f0683", func := "loop.example/g00674/laws.FnExactUsed", spec := "fnExactUsed", unfollowed := true, recurses := true, apart := false, narrowed := true }
def FnExactUsedUptoSaid : Prop := fnExactUsedUptoRow.holds Try.pinned (OpenSpec.upto fnExactUsedSpec)

/-- 'laws.FnExactByCount', WHERE WHAT IT READS IS OF BULK AT MOST 1048576: true; the input reads as it did. -/
def fnExactByCountUptoRow : OpenClaim := { program := "ytabhbijohjemiaa", sum := "731d44df0a5c260e5072015054baf0f7092e5a9fe2b7bfc500e71f273c6f0683", func := "loop.example/g00674/laws.FnExactByCount", spec := "fnExactByCount", unfollowed := true, recurses := true, apart := false, narrowed := true }
def FnExactByCountUptoSaid : Prop := fnExactByCountUptoRow.holds Try.pinned (OpenSpec.upto fnExactByCountSpec)

/-- 'laws.FnExactOrderOk', WHERE WHAT IT READS IS OF BULK AT MOST 1048576: true; the input reads as it did. -/
def fnExactOrderOkUptoRow : OpenClaim := { program := "ytabhbijohjemiaa", sum := "731d44df0a5c260e5072015054baf0f7092e5a9fe2b7bfc500e71f273c6f0683", func := "loop.example/g00674/laws.FnExactOrderOk", spec := "fnExactOrderOk", apart := false, narrowed := true }
def FnExactOrderOkUptoSaid : Prop := fnExactOrderOkUptoRow.holds Try.pinned (OpenSpec.upto fnExactOrderOkSpec)

/-- 'laws.FnExactPutUsed', WHERE WHAT IT READS IS OF BULK AT MOST 1048576: true; the input reads as it did. -/
def fnExactPutUsedUptoRow : OpenClaim := { program := "ytabhbijohjemiaa", sum := "731d44df0a5c260e5072015054baf0f7092e5a9fe2b7bfc500e71f273c6f0683", func := "loop.example/g00674/laws.FnExactPutUsed", spec := "fnExactPutUsed", unfollowed := true, recurses := true, apart := false, narrowed := true }
def FnExactPutUsedUptoSaid : Prop := fnExactPutUsedUptoRow.holds Try.pinned (OpenSpec.upto fnExactPutUsedSpec)

/-- 'laws.FnExactGetUsed', WHERE WHAT IT READS IS OF BULK AT MOST 1048576: true; the input reads as it did. -/
def fnExactGetUsedUptoRow : OpenClaim := { program := "ytabhbijohjemiaa", sum := "731d44df0a5c260e5072015054baf0f7092e5a9fe2b7bfc500e71f273c6f0683", func := "loop.example/g00674/laws.FnExactGetUsed", spec := "fnExactGetUsed", apart := false, narrowed := true }
def FnExactGetUsedUptoSaid : Prop := fnExactGetUsedUptoRow.holds Try.pinned (OpenSpec.upto fnExactGetUsedSpec)

/-- 'laws.FnExactPutOrder', WHERE WHAT IT READS IS OF BULK AT MOST 1048576: true; the input reads as it did. -/
def fnExactPutOrderUptoRow : OpenClaim := { program := "ytabhbijohjemiaa", sum := "731d44df0a5c260e5072015054baf0f7092e5a9fe2b7bfc500e71f273c6f0683", func := "loop.example/g00674/laws.FnExactPutOrder", spec := "fnExactPutOrder", apart := false, narrowed := true }
def FnExactPutOrderUptoSaid : Prop := fnExactPutOrderUptoRow.holds Try.pinned (OpenSpec.upto fnExactPutOrderSpec)

/-- 'laws.FnExactGetOrder', WHERE WHAT IT READS IS OF BULK AT MOST 1048576: true; the input reads as it did. -/
def fnExactGetOrderUptoRow : OpenClaim := { program := "ytabhbijohjemiaa", sum := "731d44df0a5c260e5072015054baf0f7092e5a9fe2b7bfc500e71f273c6f0683", func := "loop.example/g00674/laws.FnExactGetOrder", spec := "fnExactGetOrder", unfollowed := true, recurses := true, apart := false, narrowed := true }
def FnExactGetOrderUptoSaid : Prop := fnExactGetOrderUptoRow.holds Try.pinned (OpenSpec.upto fnExactGetOrderSpec)

/-- 'laws.FnExactToRanks', WHERE WHAT IT READS IS OF BULK AT MOST 1048576: true; the input reads as it did. -/
def fnExactToRanksUptoRow : OpenClaim := { program := "ytabhbijohjemiaa", sum := "731d44df0a5c260e5072015054baf0f7092e5a9fe2b7bfc500e71f273c6f0683", func := "loop.example/g00674/laws.FnExactToRanks", spec := "fnExactToRanks", inPlace := ["internal/bytealg.IndexByteString"], apart := false, narrowed := true }
def FnExactToRanksUptoSaid : Prop := fnExactToRanksUptoRow.holds Try.pinned (OpenSpec.upto fnExactToRanksSpec)

/-- 'laws.FnExactFromRanks', WHERE WHAT IT READS IS OF BULK AT MOST 1048576: true; the input reads as it did. -/
def fnExactFromRanksUptoRow : OpenClaim := { program := "ytabhbijohjemiaa", sum := "731d44df0a5c260e5072015054baf0f7092e5a9fe2b7bfc500e71f273c6f0683", func := "loop.example/g00674/laws.FnExactFromRanks", spec := "fnExactFromRanks", apart := false, narrowed := true }
def FnExactFromRanksUptoSaid : Prop := fnExactFromRanksUptoRow.holds Try.pinned (OpenSpec.upto fnExactFromRanksSpec)

end Rows
end Go.Proofs.Ytabhbijohjemiaa
