/- Chapter 4, the program: what the keys of its map read as; the map of the codes. -/
import Derived.Test.YtdfbpmkdmpdobaaI4C
import Derived.Maps.OwnSet
import Derived.DeepKeys4
namespace Go.Proofs.Ytdfbpmkdmpdobaa
set_option linter.unusedVariables false
set_option linter.unusedSimpArgs false
open Go.RowKit Go.Maps

theorem codeLaid : laidOutB Try.prog = true := by kernel_rfl
theorem codeRow : (90 : TypeId) < Try.prog.types.size := of_decide_eq_true (by kernel_rfl)
theorem codeWide : (match Try.prog.underlying 90 with | some (.array _ _) | some (.struct _) => true | _ => false) = true := by rw [Try.underlying90]
set_option maxRecDepth 100000 in
theorem codeLaw : Keyed Try.prog 90 := Keyed.of_law (deep_law_laid codeLaid (m := 2) (by omega) codeRow (by kernel_rfl) codeWide)
theorem codeKt : Try.prog.keyType 90 = true := by kernel_rfl
theorem codeCells : Try.prog.cellsOf 90 = 2 := by kernel_rfl
theorem intCells : Try.prog.cellsOf 3 = 1 := by kernel_rfl
theorem zeroInt (w : World) : (zeroValue 3).run Try.prog w = .ok (.int .i64 0) w := by kernel_rfl
/-- What a code reads as, as a key. -/
def keyL (v n : Nat) : Lit := .string (keyBytes [.int .i64 (v : Int), .int .i64 (n : Int)])
theorem key_code (v n : Nat) (hv : v ≤ 4611686018427387904) (hn : n ≤ 4611686018427387904) : keyOf Try.prog 90 (.agg #[.int .i64 (v : Int), .int .i64 (n : Int)]) = some (keyL v n) := by
  have wv : (Lit.int .i64 (v : Int)).wf = true := WalkArith.wf_i64 (by omega)
  have wn : (Lit.int .i64 (n : Int)).wf = true := WalkArith.wf_i64 (by omega)
  obtain ⟨d, hd⟩ : ∃ d, Try.prog.types.size = d + 1 := ⟨Try.prog.types.size - 1, by have h : (90 : Nat) < Try.prog.types.size := codeRow; omega⟩
  unfold keyOf
  rw [hd]
  simp only [Try.underlying90]
  have hf : Value.formed Try.prog 90 (Value.agg #[.int .i64 (v : Int), .int .i64 (n : Int)]) = true := by simp [Value.formed, Try.underlying90, codeCells]
  rw [codeKt, hf]
  have hi : ∀ (x : Int), (Lit.int .i64 x).wf = true → Try.prog.keyLits (d + 1) 3 [.int .i64 x] = some [.int .i64 x] := fun x hx => by
    unfold Program.keyLits
    simp only [Try.underlying3]
    rw [if_pos ⟨trivial, hx⟩]
  have hk : Try.prog.keyLits (d + 1 + 1) 90 [.int .i64 (v : Int), .int .i64 (n : Int)] = some [.int .i64 (v : Int), .int .i64 (n : Int)] := by
    unfold Program.keyLits
    simp only [Try.underlying90]
    rw [if_pos ⟨by simp [codeCells], by simp⟩]
    simp [intCells, hi _ wv, hi _ wn]
  have hc : (Value.agg #[.int .i64 (v : Int), .int .i64 (n : Int)]).cells.toList = [.int .i64 (v : Int), .int .i64 (n : Int)] := rfl
  rw [hc, hk, if_pos (by rfl)]
  rfl
theorem keyL_inj {v n v2 n2 : Nat} (h1 : v ≤ 4611686018427387904) (h2 : n ≤ 4611686018427387904) (h3 : v2 ≤ 4611686018427387904) (h4 : n2 ≤ 4611686018427387904) (h : keyL v n = keyL v2 n2) : v = v2 ∧ n = n2 := by
  have a := key_code v n h1 h2
  have b := key_code v2 n2 h3 h4
  rw [h] at a
  have e := codeLaw.inj a b
  simp at e
  omega
theorem keyL_lit (v n : Nat) (hv : v ≤ 4611686018427387904) (hn : n ≤ 4611686018427387904) : WideAt.IsKeyLit (keyL v n) := codeLaw.key (key_code v n hv hn)
end Go.Proofs.Ytdfbpmkdmpdobaa
