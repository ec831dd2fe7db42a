/- Texts of the proof, merged. -/
import Derived.RegionTactic
import Derived.ChangeAlike
import Derived.Deep.QuietTactic
import Derived.BigQuiet
import Derived.OwnWalk
import Derived.Test.YtembljihmnmmfaaGreatKS4
import Derived.Test.YtembljihmnmmfaaGreatKS1
namespace Go.Proofs.YtembljihmnmmfaaGreat
set_option linter.unusedVariables false
set_option linter.unusedSimpArgs false
open Go.RowKit

def intsV (zs : List Int) : List Value := zs.map fun x => Value.int .i64 x
theorem intsV_len (zs : List Int) : (intsV zs).length = zs.length := by simp [intsV]
theorem intsV_get (zs : List Int) (j : Nat) (h : j < zs.length) : (intsV zs)[j]? = some (.int .i64 (zs.getD j 0)) := by simp [intsV, List.getD_eq_getElem?_getD, h]
theorem intsV_set (zs : List Int) (j : Nat) (x : Int) : (intsV zs).set j (.int .i64 x) = intsV (zs.set j x) := by simp [intsV, List.map_set]
theorem Tryz.infoI : (Tryz.prog.info? 3).map (fun i => (i.zero, i.size, i.bytes)) = some (some (.int .i64 0), 1, 8) := by kernel_rfl
theorem Ints.ofOwn {w : World} {base n c : Nat} {a : Option Addr} {zs : List Int} (h : w.ownsRow base 3 1 (.slice a n c) n (intsV zs)) (hn : n ≤ 140737488355328) (hr : ∀ x ∈ zs, -9223372036854775808 ≤ x ∧ x ≤ 9223372036854775807) : zs.length = n ∧ Ints w w.heap.size a zs := by
  have hl : zs.length = n := by have := h.1; rw [intsV_len] at this; omega
  refine ⟨hl, by omega, hr, fun h0 => ?_⟩
  rcases h.2 with ⟨hv, hn0⟩ | ⟨g, cap, cur, hv, _⟩
  · omega
  · simp only [Value.slice.injEq] at hv
    obtain ⟨rfl, _, rfl⟩ := hv
    refine ⟨g, 0, rfl, (h.lt g rfl).2, fun i hi => ?_⟩
    rw [Nat.zero_add, h.cellAt i (by omega), intsV_get zs i hi]
theorem made_ints (n : Nat) : (madeCells #[Value.int .i64 0] n).toList = intsV (List.replicate n 0) := by
  rw [toList_madeCells_one]; simp [intsV]
set_option maxHeartbeats 2000000 in
set_option maxRecDepth 100000 in
theorem eqIntS_any (a a2 : Option Addr) (cap cap2 B : Nat) (zs ys : List Int) (w : World) (hz : Ints w B a zs) (hy : Ints w B a2 ys) :
    Calls Tryz.prog 9 #[.slice a zs.length cap, .slice a2 ys.length cap2] w fun e w' => e = .returned (.bool (decide (zs = ys))) ∧ Below w.heap.size w w' := by
  obtain ⟨n, hn⟩ : ∃ n, zs.length = n := ⟨_, rfl⟩
  obtain ⟨m, hm⟩ : ∃ m, ys.length = m := ⟨_, rfl⟩
  have HN := hidden hn
  have HM := hidden hm
  have HZ := hidden hz
  have HY := hidden hy
  have hl := hz.1
  have hl2 := hy.1
  rw [hn] at hl ⊢
  rw [hm] at hl2 ⊢
  obtain ⟨r, hr⟩ : ∃ r, decide (zs = ys) = r := ⟨_, rfl⟩
  rw [hr]
  have HR := hidden hr
  clear hn hm hz hy hr
  by_cases hnm : n = m
  · subst hnm
    have hne : ((n : Int) != (n : Int)) = false := by simp
    go_enter Tryz.func9, Tryz.ntmps9
    go_wp2
    go_loopw [5] (fun si wr => ∃ k nq : Nat, k ≤ n ∧ si = .int .i64 k ∧ Hid (∀ j, j < k → zs.getD j 0 = ys.getD j 0) ∧ wr = w.drewN nq) (fun si _ => n - (intOf si).toNat)
    case atStart => exact ⟨0, 0, Nat.zero_le _, rfl, hidden (fun j hj => by omega), rfl⟩
    case round =>
      obtain ⟨k, nq, hk, rfl, HE, rfl⟩ := hrel
      by_cases hlt : k < n
      · obtain ⟨b, off, rfl, hb, hc⟩ := HZ.out.2.2 (by rw [HN.out]; omega)
        obtain ⟨b2, off2, rfl, hb2, hc2⟩ := HY.out.2.2 (by rw [HM.out]; omega)
        have ck := hc k (by rw [HN.out]; exact hlt)
        have ck2 := hc2 k (by rw [HM.out]; exact hlt)
        obtain ⟨x, hx⟩ : ∃ x, zs.getD k 0 = x := ⟨_, rfl⟩
        obtain ⟨y, hy⟩ : ∃ y, ys.getD k 0 = y := ⟨_, rfl⟩
        rw [hx] at ck
        rw [hy] at ck2
        have HX := hidden hx
        have HYy := hidden hy
        clear hx hy hc hc2
        by_cases hxy : x = y
        · have hxb : (x != y) = false := by simp [hxy]
          have HE2 : Hid (∀ j, j < k + 1 → zs.getD j 0 = ys.getD j 0) := hidden (fun j hj => by
            rcases Nat.lt_or_ge j k with h | h
            · exact HE.out j h
            · rw [show j = k by omega, HX.out, HYy.out, hxy])
          clear hxy
          go_wp2
          go_quiet (fail)
          go_wp2
          exact ⟨⟨k + 1, _, by omega, by go_num, HE2, rfl⟩, by simp [intOf]; omega⟩
        · have hxb : (x != y) = true := by simp [hxy]
          have HF : Hid (r = false) := hidden (by
            rw [← HR.out, decide_eq_false_iff_not]
            intro e
            exact hxy (by rw [← HX.out, ← HYy.out, e]))
          clear hxy
          go_wp2
          go_quiet (fail)
          go_wp2
          go_ret
          exact ⟨ret_bool HF.out.symm, bel_drewN (bel_drewN (Below.refl _ _) _) _⟩
      · have HF : Hid (r = true) := hidden (by
          rw [← HR.out, decide_eq_true_eq]
          apply List.ext_getElem (by rw [HN.out, HM.out])
          intro j h1 h2
          have := HE.out j (by rw [HN.out] at h1; omega)
          simpa [List.getD_eq_getElem?_getD, h1, h2] using this)
        go_wp2
        go_ret
        exact ⟨ret_bool HF.out.symm, bel_drewN (Below.refl _ _) _⟩
  · have hne : ((n : Int) != (m : Int)) = true := by simp; omega
    have HF : Hid (r = false) := hidden (by
      rw [← HR.out, decide_eq_false_iff_not]
      intro e
      have := congrArg List.length e
      rw [HN.out, HM.out] at this
      exact hnm this)
    clear hnm
    go_enter Tryz.func9, Tryz.ntmps9
    go_wp2
    go_ret
    exact ⟨ret_bool HF.out.symm, Below.refl _ _⟩

/-- k, k + 1, .. -/
def upFrom (k n : Nat) : List Int := (List.range n).map fun i => ((k + i : Nat) : Int)
theorem upFrom_len (k n : Nat) : (upFrom k n).length = n := by simp [upFrom]
theorem upFrom_get (k n j : Nat) (h : j < n) : (upFrom k n).getD j 0 = ((k + j : Nat) : Int) := by simp [upFrom, List.getD_eq_getElem?_getD, h]
set_option maxHeartbeats 2000000 in
set_option maxRecDepth 100000 in
theorem markIntS_any (base k n : Nat) (v : Value) (zs : List Int) (w : World) (h : w.ownsRow base 3 1 v n (intsV zs)) (hn : n ≤ 1048576) (hk : k ≤ 1000000000) :
    Calls Tryz.prog 10 #[v, .int .i64 k] w fun e w' => e = .returned (.int .i64 ((k + n : Nat) : Int)) ∧ w'.ownsRow base 3 1 v n (intsV (upFrom k n)) ∧ w.grownBy w' v.ownBlock := by
  by_cases hn0 : n = 0
  · subst hn0
    obtain ⟨a, c, rfl⟩ : ∃ a c, v = .slice a 0 c := by
      rcases h.2 with ⟨rfl, _⟩ | ⟨g, cap, cur, rfl, _⟩
      · exact ⟨none, 0, rfl⟩
      · exact ⟨_, cap, rfl⟩
    have hz : zs = [] := by have := h.1; rw [intsV_len] at this; exact List.eq_nil_of_length_eq_zero (by omega)
    subst hz
    go_enter Tryz.func10, Tryz.ntmps10
    go_wp2
    go_loop [1, 5] (fun sk si => sk = .int .i64 k ∧ si = .int .i64 0) (fun _ _ => 0)
    case atStart => exact ⟨rfl, rfl⟩
    case round =>
      obtain ⟨rfl, rfl⟩ := hrel
      go_wp2
      go_ret
      exact ⟨rfl, h, World.grownBy.refl _ _⟩
  · obtain ⟨g, c, hv⟩ := Joins.ownsRow_form h (by omega)
    subst hv
    have H0 := hidden h
    have hzl : zs.length = n := by have := h.1; rw [intsV_len] at this; omega
    have HZL := hidden hzl
    clear h hzl
    go_enter Tryz.func10, Tryz.ntmps10
    go_wp2
    go_loopw [1, 5] (fun sk si wr => ∃ (i : Nat) (D : List Int), i ≤ n ∧ sk = .int .i64 ((k : Int) + (i : Int)) ∧ si = .int .i64 i ∧ Hid (D.length = n ∧ D.take i = upFrom k i) ∧ wr.ownsRow base 3 1 (.slice (some ⟨g, 0, none⟩) n c) n (intsV D) ∧ w.grownBy wr (some g)) (fun _ si _ => n - (intOf si).toNat)
    case atStart => exact ⟨0, zs, Nat.zero_le _, by simp, rfl, hidden ⟨HZL.out, rfl⟩, H0.out, World.grownBy.refl _ _⟩
    case round =>
      obtain ⟨i, D, hin, rfl, rfl, HD, hown, hgr⟩ := hrel
      by_cases hlt : i < n
      · have d0 := hown.cellAt i (by omega)
        rw [intsV_get D i (by rw [HD.out.1]; exact hlt)] at d0
        have f0 := hown.frozenAt i
        have HD2 : Hid ((D.set i ((k : Int) + (i : Int))).length = n ∧ (D.set i ((k : Int) + (i : Int))).take (i + 1) = upFrom k (i + 1)) := hidden (by
          refine ⟨by rw [List.length_set, HD.out.1], ?_⟩
          have hkd : i < (D.set i ((k : Int) + (i : Int))).length := by rw [List.length_set, HD.out.1]; exact hlt
          rw [List.take_succ_eq_append_getElem hkd, List.take_set_of_le (Nat.le_refl _), HD.out.2, List.getElem_set_self]
          simp [upFrom, List.range_succ])
        go_wp2
        go_roundw
        case rel => exact ⟨i + 1, D.set i ((k : Int) + (i : Int)), by omega, by go_num, by go_num, HD2, by rw [← intsV_set]; exact (hown.stored i _).1, by
          have h2 := (hown.stored i (.int .i64 ((k : Int) + (i : Int)))).2
          exact ⟨h2.os.trans hgr.os, h2.tape.trans hgr.tape, h2.output.trans hgr.output, Nat.le_trans hgr.size h2.size, fun b hb hne => (h2.block b (Nat.lt_of_lt_of_le hb hgr.size) hne).trans (hgr.block b hb hne)⟩⟩
        case measure => simp [intOf]; omega
      · have hie : i = n := by omega
        subst hie
        have e : D = upFrom k i := by
          have := HD.out.2
          rwa [List.take_of_length_le (by rw [HD.out.1]; exact Nat.le_refl _)] at this
        subst e
        go_wp2
        go_ret
        exact ⟨ret_int (by omega), hown, hgr⟩
set_option maxHeartbeats 2000000 in
set_option maxRecDepth 100000 in
theorem heldIntS_any (a : Option Addr) (cap B k n : Nat) (w : World) (hz : Ints w B a (upFrom k n)) (hn : n ≤ 1048576) (hk : k ≤ 1000000000) :
    Calls Tryz.prog 11 #[.slice a n cap, .int .i64 k] w fun e w' => e = .returned (.int .i64 ((k + n : Nat) : Int)) ∧ w' = w := by
  have HZ := hidden hz
  clear hz
  go_enter Tryz.func11, Tryz.ntmps11
  go_wp2
  go_loop [1, 5] (fun sk si => ∃ i : Nat, i ≤ n ∧ sk = .int .i64 ((k : Int) + (i : Int)) ∧ si = .int .i64 i) (fun _ si => n - (intOf si).toNat)
  case atStart => exact ⟨0, Nat.zero_le _, by simp, rfl⟩
  case round =>
    obtain ⟨i, hin, rfl, rfl⟩ := hrel
    by_cases hlt : i < n
    · obtain ⟨b, off, rfl, hb, hc⟩ := HZ.out.2.2 (by rw [upFrom_len]; omega)
      have ck := hc i (by rw [upFrom_len]; exact hlt)
      rw [upFrom_get k n i hlt, Int.natCast_add] at ck
      have hne : (((k : Int) + (i : Int)) != ((k : Int) + (i : Int))) = false := by simp
      clear hc
      go_wp2
      go_round
      case rel => exact ⟨i + 1, by omega, by go_num, by go_num⟩
      case measure => simp [intOf]; omega
    · have hie : i = n := by omega
      subst hie
      go_wp2
      go_ret
      exact ⟨ret_int (by omega), rfl⟩
end Go.Proofs.YtembljihmnmmfaaGreat
namespace Go.Proofs.YtembljihmnmmfaaGreat
set_option linter.unusedVariables false
set_option linter.unusedSimpArgs false
open Go.RowKit

/-- The code: a row of bytes that came in, below block B. -/
def Code (w : World) (B : Nat) (a : Option Addr) (len cap : Nat) (zs : List Int) : Prop :=
  len ≤ 9223372036854775807 ∧ (∀ n ∈ zs, (Lit.int .u8 n).wf = true) ∧ (0 < len → ∃ b off, a = some ⟨b, off, none⟩ ∧ b < B ∧ ∀ i, i < len → w.cell? ⟨b, off + i, none⟩ = some (.int .u8 (zs.getD i 0)))
theorem Code.keep {w w' : World} {B : Nat} {a : Option Addr} {len cap : Nat} {zs : List Int} (h : Code w B a len cap zs) (hk : ∀ p : Addr, p.block < B → w'.cell? p = w.cell? p) : Code w' B a len cap zs :=
  ⟨h.1, h.2.1, fun h0 => by
    obtain ⟨b, off, e, hb, hc⟩ := h.2.2 h0
    exact ⟨b, off, e, hb, fun i hi => (hk _ hb).trans (hc i hi)⟩⟩
theorem Code.below {w w' : World} {B : Nat} {a : Option Addr} {len cap : Nat} {zs : List Int} (h : Code w B a len cap zs) (hb : Below B w w') : Code w' B a len cap zs := h.keep fun _ hp => hb.cell hp
theorem cell_lt {w : World} {p : Addr} {v : Value} (h : w.cell? p = some v) : p.block < w.heap.size := by
  rcases Nat.lt_or_ge p.block w.heap.size with hl | hl
  · exact hl
  · simp [World.cell?, Array.getElem?_eq_none hl] at h

end Go.Proofs.YtembljihmnmmfaaGreat
namespace Go.Proofs.YtembljihmnmmfaaGreat
set_option linter.unusedVariables false
set_option linter.unusedSimpArgs false
open Go.RowKit

theorem quiet_add_l {P : Program} {f : FuncId} {args : Array Value} {w : World} {a n : Nat} {v : Value}
    (h : Calls P f args (w.drewN (a + n)) fun e w' => e = .returned v ∧ w.drewN (a + n) = w') :
    Calls P f args (w.drewN (a + n)) fun e w'' => e = .returned v ∧ ∃ m, w'' = w.drewN (a + m) :=
  h.mono fun _ _ ⟨he, hm⟩ => ⟨he, n, hm.symm⟩
theorem quiet_l {P : Program} {f : FuncId} {args : Array Value} {w : World} {n : Nat} {v : Value}
    (h : Calls P f args (w.drewN n) fun e w' => e = .returned v ∧ w.drewN n = w') : Calls P f args (w.drewN n) fun e w'' => e = .returned v ∧ ∃ m, w'' = w.drewN m :=
  h.mono fun _ _ ⟨he, hm⟩ => ⟨he, n, hm.symm⟩

end Go.Proofs.YtembljihmnmmfaaGreat
namespace Go.Proofs.YtembljihmnmmfaaGreat
set_option linter.unusedVariables false
set_option linter.unusedSimpArgs false
open Go.RowKit

/-- Are they numbers of times? -/
def fOk (zs : List Int) : Bool := decide (1 ≤ zs.length ∧ zs.length ≤ 260 ∧ ∀ k, k < zs.length → 0 ≤ zs.getD k 0 ∧ zs.getD k 0 ≤ 1000000)
theorem fOk_iff (zs : List Int) : fOk zs = true ↔ 1 ≤ zs.length ∧ zs.length ≤ 260 ∧ ∀ k, k < zs.length → 0 ≤ zs.getD k 0 ∧ zs.getD k 0 ≤ 1000000 := by simp [fOk]
/-- Lengths that a code may have. -/
def lRange (zs : List Int) : Prop := 1 ≤ zs.length ∧ zs.length ≤ 260 ∧ ∀ k, k < zs.length → 1 ≤ zs.getD k 0 ∧ zs.getD k 0 ≤ 20
instance (zs : List Int) : Decidable (lRange zs) := by unfold lRange; exact inferInstance
/-- How much of all codes the first k lengths take. -/
def kSum (zs : List Int) (k : Nat) : Nat := rsum k fun j => 2 ^ (20 - (zs.getD j 0).toNat)
def kraftI (zs : List Int) : Int := if lRange zs then (kSum zs zs.length : Int) else -1
/-- Are there codes of such lengths? -/
def lOk (zs : List Int) : Bool := decide (0 ≤ kraftI zs ∧ kraftI zs ≤ 1048576)
end Go.Proofs.YtembljihmnmmfaaGreat
namespace Go.Proofs.YtembljihmnmmfaaGreat
set_option linter.unusedVariables false
set_option linter.unusedSimpArgs false
open Go.RowKit

def lnF (ls : List Int) (s : Nat) : Nat := (ls.getD s 0).toNat
def cdF (ls : List Int) (s : Nat) : Nat := codeN ls.length (lnF ls) s
/-- At bit a of s stands the code of symbol i, n bits. -/
def hit (ls : List Int) (s : ByteArray) (a n i : Nat) : Prop := i < ls.length ∧ lnF ls i = n ∧ a + n ≤ 8 * s.size ∧ num (row s a n) = cdF ls i
/-- Symbols read one after the other, from bit a on to bit b. -/
inductive Reads (ls : List Int) (s : ByteArray) : Nat → List Nat → Nat → Prop
  | nil (a : Nat) : Reads ls s a [] a
  | cons (a n i : Nat) (xs : List Nat) (b : Nat) (h : hit ls s a n i) (hr : Reads ls s (a + n) xs b) : Reads ls s a (i :: xs) b
theorem Reads.le {ls : List Int} {s : ByteArray} {a b : Nat} {xs : List Nat} (h : Reads ls s a xs b) (ha : a ≤ 8 * s.size) : b ≤ 8 * s.size := by
  induction h with
  | nil a => exact ha
  | cons a n i xs b hh hr ih => exact ih hh.2.2.1
theorem Reads.mem {ls : List Int} {s : ByteArray} {a b : Nat} {xs : List Nat} (h : Reads ls s a xs b) : ∀ x ∈ xs, x < ls.length := by
  induction h with
  | nil a => intro x hx; simp at hx
  | cons a n i xs b hh hr ih =>
    intro x hx
    rcases List.mem_cons.1 hx with rfl | hx
    · exact hh.1
    · exact ih x hx
end Go.Proofs.YtembljihmnmmfaaGreat
namespace Go.Proofs.YtembljihmnmmfaaGreat
set_option linter.unusedVariables false
set_option linter.unusedSimpArgs false
open Go.RowKit

/-- The table's row: the highest byte against the byte taken in. -/
def top (m b : Nat) : Nat := m / 16777216 ^^^ b
end Go.Proofs.YtembljihmnmmfaaGreat
namespace Go.Proofs.YtembljihmnmmfaaGreat
set_option linter.unusedVariables false
set_option linter.unusedSimpArgs false
open Go.RowKit

/-- n lengths stand at bit a of s, up to bit c. -/
def Lens5 (s : ByteArray) (a : Nat) (xs : List Nat) (c : Nat) : Prop := a + 5 ≤ 8 * s.size ∧ StpL s (a + 5) (num (row s a 5)) xs c
theorem Lens5.le {s : ByteArray} {a b : Nat} {xs : List Nat} (h : Lens5 s a xs b) : b ≤ 8 * s.size := (h.2.le h.1).2
theorem Lens5.range {s : ByteArray} {a b : Nat} {xs : List Nat} (h : Lens5 s a xs b) : ∀ x ∈ xs, 1 ≤ x ∧ x ≤ 20 := h.2.range
end Go.Proofs.YtembljihmnmmfaaGreat
namespace Go.Proofs.YtembljihmnmmfaaGreat
set_option linter.unusedVariables false
set_option linter.unusedSimpArgs false
open Go.RowKit

theorem Ints.lit (w : World) (cs : List Int) (hm : cs.length ≤ 140737488355328) (hr : ∀ x ∈ cs, -9223372036854775808 ≤ x ∧ x ≤ 9223372036854775807) : Ints (w.alloc (.cells (intsV cs).toArray 3)) (w.heap.size + 1) (some ⟨w.heap.size, 0, none⟩) cs := by
  refine ⟨hm, hr, fun h0 => ⟨w.heap.size, 0, rfl, by omega, fun i hi => ?_⟩⟩
  have h := (Has.fresh w 3 (intsV cs).toArray).cell i
  rw [Nat.zero_add]
  refine h.trans ?_
  rw [List.getElem?_toArray]
  exact intsV_get cs i hi
end Go.Proofs.YtembljihmnmmfaaGreat
