/- Merged: C1LGet, Dr, C3Arr, Same, DrSize, C1Get. -/
import Derived.Test.YtpjgoikdfkaefaaGreatQZ3
import Derived.Test.YtpjgoikdfkaefaaGreatQZ1
import Derived.RegionTactic
import Derived.ChangeAlike
import Derived.Deep.QuietTactic
import Derived.BigQuiet
import Derived.OwnWalk
namespace Go.Proofs.YtpjgoikdfkaefaaGreat
set_option linter.unusedVariables false
set_option linter.unusedSimpArgs false
open Go.RowKit

theorem quiet_add_l {P : Program} {f : FuncId} {args : Array Value} {w : World} {a n : Nat} {v : Value}
    (h : Calls P f args (w.drewN (a + n)) fun e w' => e = .returned v ∧ w.drewN (a + n) = w') :
    Calls P f args (w.drewN (a + n)) fun e w'' => e = .returned v ∧ ∃ m, w'' = w.drewN (a + m) :=
  h.mono fun _ _ ⟨he, hm⟩ => ⟨he, n, hm.symm⟩
theorem quiet_l {P : Program} {f : FuncId} {args : Array Value} {w : World} {n : Nat} {v : Value}
    (h : Calls P f args (w.drewN n) fun e w' => e = .returned v ∧ w.drewN n = w') : Calls P f args (w.drewN n) fun e w'' => e = .returned v ∧ ∃ m, w'' = w.drewN m :=
  h.mono fun _ _ ⟨he, hm⟩ => ⟨he, n, hm.symm⟩

end Go.Proofs.YtpjgoikdfkaefaaGreat
namespace Go.Proofs.YtpjgoikdfkaefaaGreat
set_option linter.unusedVariables false
set_option linter.unusedSimpArgs false
open Go.RowKit

theorem and255 (n : Int) : 0 ≤ bits BinOp.and IntKind.i64 n 255 ∧ bits BinOp.and IntKind.i64 n 255 ≤ 255 := by
  have h := i64_mask n 8 (by omega)
  have e : bits BinOp.and IntKind.i64 n 255 = n % 256 := by simpa using h
  omega
/-- The code: a row of bytes that came in, below block B. -/
def Code (w : World) (B : Nat) (a : Option Addr) (len cap : Nat) (zs : List Int) : Prop :=
  len ≤ 9223372036854775807 ∧ (∀ n ∈ zs, (Lit.int .u8 n).wf = true) ∧ (0 < len → ∃ b off, a = some ⟨b, off, none⟩ ∧ b < B ∧ ∀ i, i < len → w.cell? ⟨b, off + i, none⟩ = some (.int .u8 (zs.getD i 0)))
theorem Code.keep {w w' : World} {B : Nat} {a : Option Addr} {len cap : Nat} {zs : List Int} (h : Code w B a len cap zs) (hk : ∀ p : Addr, p.block < B → w'.cell? p = w.cell? p) : Code w' B a len cap zs :=
  ⟨h.1, h.2.1, fun h0 => by
    obtain ⟨b, off, e, hb, hc⟩ := h.2.2 h0
    exact ⟨b, off, e, hb, fun i hi => (hk _ hb).trans (hc i hi)⟩⟩
theorem Code.below {w w' : World} {B : Nat} {a : Option Addr} {len cap : Nat} {zs : List Int} (h : Code w B a len cap zs) (hb : Below B w w') : Code w' B a len cap zs := h.keep fun _ hp => hb.cell hp
theorem cell_lt {w : World} {p : Addr} {v : Value} (h : w.cell? p = some v) : p.block < w.heap.size := by
  rcases Nat.lt_or_ge p.block w.heap.size with hl | hl
  · exact hl
  · simp [World.cell?, Array.getElem?_eq_none hl] at h
theorem Code.ofRow {w : World} {a : Option Addr} {len cap : Nat} {zs : List Int} (h : IsRow .u8 w a len cap zs) : Code w w.heap.size a len cap zs := by
  rcases h with ⟨rfl, rfl, rfl, rfl⟩ | ⟨x, rfl, hl, hm, hz, hc, hwz⟩
  · exact ⟨by omega, by simp, fun h => by omega⟩
  · refine ⟨by unfold maxLen at hm; omega, hwz, fun h0 => ?_⟩
    have h1 := hc 0 (by omega)
    obtain ⟨b, off, spot⟩ := x
    have hspot : spot = none := by simpa [Addr.add] using World.cell?_spot h1
    subst hspot
    refine ⟨b, off, rfl, ?_, fun i hi => ?_⟩
    · have := cell_lt h1
      simpa [Addr.add] using this
    · have := hc i (by omega)
      by_cases e : i = 0
      · subst e; simpa [Addr.add] using this
      · simpa [Addr.add, e] using this

/-- Block g is a cursor over a code that lies below block B. -/
def Cur (w : World) (g B : Nat) : Prop :=
  B ≤ g ∧ ∃ (a : Option Addr) (len cap : Nat) (zs : List Int) (i : Nat) (h : Int), Has w g 53 #[.slice a len cap, .int .i64 i, .int .i64 h] ∧ i ≤ len ∧ Code w B a len cap zs
theorem Cur.lt {w : World} {g B : Nat} (h : Cur w g B) : g < w.heap.size := by
  obtain ⟨_, _, _, _, _, _, _, hB, _⟩ := h; exact hB.lt
theorem Cur.below {w w' : World} {g B B' : Nat} (h : Cur w g B) (hb : Below B' w w') (hg : g < B') : Cur w' g B := by
  obtain ⟨h0, a, len, cap, zs, i, hh, hB, hi, hc⟩ := h
  exact ⟨h0, a, len, cap, zs, i, hh, hB.below hb hg, hi, hc.below (hb.mono (by omega))⟩

theorem Only.trans_ {g : Nat} {a b c : World} (h : Only g a b) (k : Only g b c) : Only g a c :=
  ⟨k.os.trans h.os, k.tape.trans h.tape, k.output.trans h.output, Nat.le_trans h.size k.size, fun i hi hne => (k.block i (Nat.lt_of_lt_of_le hi h.size) hne).trans (h.block i hi hne)⟩
set_option maxRecDepth 100000 in
set_option maxHeartbeats 1000000 in
theorem l1Byte_any (g B : Nat) (w : World) (hc : Cur w g B) :
    Calls Tryz.prog 39 #[.pointer (some ⟨g, 0, none⟩)] w fun e w' => ∃ x : Int, e = .returned (.int .i64 x) ∧ 0 ≤ x ∧ x ≤ 255 ∧ Cur w' g B ∧ Only g w w' := by
  obtain ⟨hBg, a, len, cap, zs, i, h, hB, hi, hcode⟩ := hc
  have c0 := hB.cell 0
  have c1 := hB.cell 1
  have c2 := hB.cell 2
  have f1 := hB.free 1
  have f2 := hB.free 2
  simp at c0 c1 c2
  by_cases hlt : i < len
  · obtain ⟨b, off, rfl, hb, hcell⟩ := hcode.2.2 (by omega)
    have ci := hcell i hlt
    have hbg : ¬ b = g := by omega
    have hbg' : ¬ g = b := by omega
    have hl := hcode.1
    go_enter Tryz.func39, Tryz.ntmps39
    go_wp2
    go_quiet (fail)
    go_wp2
    go_quiet (fail)
    go_wp2
    go_quiet (fail)
    go_wp2
    go_ret
    refine ⟨_, rfl, (and255 _).1, (and255 _).2, ⟨hBg, some ⟨b, off, none⟩, len, cap, zs, i + 1, wrap64 (wrap64 (h * 6364136223846793005) + 1442695040888963407), ?_, by omega, ?_⟩, ?_⟩
    · have := fun k => ((hB.store 2 (.int .i64 (wrap64 (wrap64 (h * 6364136223846793005) + 1442695040888963407)))).drewN k).store 1 (.int .i64 ((i + 1 : Nat) : Int))
      simpa using this _
    · exact hcode.keep fun p hp => by
        rw [World.cell?_setCell_other _ _ _ _ (by intro e; subst e; simp at hp; omega)]
        show (w.setCell _ _).cell? p = _
        rw [World.cell?_setCell_other _ _ _ _ (by intro e; subst e; simp at hp; omega)]
    · exact (((Only.refl g w).store (p := ⟨g, 2, none⟩) (.inl rfl) _).drewN _).store (p := ⟨g, 1, none⟩) (.inl rfl) _
  · have hie : i = len := by omega
    subst hie
    go_enter Tryz.func39, Tryz.ntmps39
    go_wp2
    go_quiet (fail)
    go_wp2
    go_quiet (fail)
    go_wp2
    go_ret
    refine ⟨_, rfl, (and255 _).1, (and255 _).2, ⟨hBg, a, i, cap, zs, i, wrap64 (wrap64 (h * 6364136223846793005) + 1442695040888963407), ?_, by omega, ?_⟩, ?_⟩
    · have := hB.store 2 (.int .i64 (wrap64 (wrap64 (h * 6364136223846793005) + 1442695040888963407)))
      simp at this
      exact (this.drewN _).drewN _
    · exact hcode.keep fun p hp => by
        show (w.setCell _ _).cell? p = _
        rw [World.cell?_setCell_other _ _ _ _ (by intro e; subst e; simp at hp; omega)]
    · exact (((Only.refl g w).store (p := ⟨g, 2, none⟩) (.inl rfl) _).drewN _).drewN _

theorem below_lemma (x n : Int) (hx : 0 ≤ x) (hn : 0 < n) : 0 ≤ x % n ∧ x % n < n := ⟨Int.emod_nonneg _ (by omega), Int.emod_lt_of_pos _ hn⟩
set_option maxHeartbeats 1000000 in
set_option maxRecDepth 100000 in
theorem l1Below_any (g B : Nat) (n : Int) (w : World) (hc : Cur w g B) (hn : n ≤ 4611686018427387904) :
    Calls Tryz.prog 21 #[.pointer (some ⟨g, 0, none⟩), .int .i64 n] w fun e w' => ∃ r : Int, e = .returned (.int .i64 r) ∧ 0 ≤ r ∧ (0 < n → r < n) ∧ (n ≤ 0 → r = 0) ∧ Cur w' g B ∧ Only g w w' := by
  by_cases h0 : n ≤ 0
  · go_enter Tryz.func21, Tryz.ntmps21
    go_wp2
    go_ret
    exact ⟨0, rfl, by omega, fun h => by omega, fun _ => rfl, hc, Only.refl _ _⟩
  · by_cases h1 : n ≤ 256
    · go_enter Tryz.func21, Tryz.ntmps21
      go_wp2_with fail
      refine (l1Byte_any g B _ hc).mono ?_
      rintro e w1 ⟨x, rfl, hx0, hx1, hc1, hO⟩
      go_wp2
      go_ret
      have := below_lemma x n hx0 (by omega)
      exact ⟨_, rfl, this.1, fun _ => this.2, fun h => by omega, hc1, hO⟩
    · go_enter Tryz.func21, Tryz.ntmps21
      go_wp2_with fail
      refine (l1Byte_any g B _ hc).mono ?_
      rintro e w1 ⟨x, rfl, hx0, hx1, hc1, hO1⟩
      go_wp2_with fail
      refine (l1Byte_any g B _ hc1).mono ?_
      rintro e w2 ⟨y, rfl, hy0, hy1, hc2, hO2⟩
      go_wp2_with fail
      refine (l1Byte_any g B _ hc2).mono ?_
      rintro e w3 ⟨z, rfl, hz0, hz1, hc3, hO3⟩
      go_wp2_with fail
      refine (l1Byte_any g B _ hc3).mono ?_
      rintro e w4 ⟨u, rfl, hu0, hu1, hc4, hO4⟩
      go_wp2
      go_ret
      have := below_lemma (x * 16777216 + y * 65536 + z * 256 + u) n (by omega) (by omega)
      exact ⟨_, rfl, this.1, fun _ => this.2, fun h => by omega, hc4, ((hO1.trans_ hO2).trans_ hO3).trans_ hO4⟩
theorem l1Once_any (g B : Nat) (n : Int) (w : World) (hc : Cur w g B) (hn : n ≤ 4611686018427387904) :
    Calls Tryz.prog 36 #[.pointer (some ⟨g, 0, none⟩), .int .i64 n] w fun e w' => ∃ b : Bool, e = .returned (.bool b) ∧ Cur w' g B ∧ Only g w w' := by
  go_enter Tryz.func36, Tryz.ntmps36
  go_wp2_with fail
  refine (l1Below_any g B n _ hc hn).mono ?_
  rintro e w1 ⟨x, rfl, _, _, _, hc1, hO⟩
  go_wp2
  go_ret
  exact ⟨_, rfl, hc1, hO⟩

set_option maxRecDepth 100000 in
set_option maxHeartbeats 1000000 in
theorem l1New_any (a : Option Addr) (len cap : Nat) (zs : List Int) (w : World) (hcode : Code w w.heap.size a len cap zs) :
    Calls Tryz.prog 17 #[.slice a len cap] w fun e w' => ∃ g, e = .returned (.pointer (some ⟨g, 0, none⟩)) ∧ Cur w' g w.heap.size ∧ Below w.heap.size w w' := by
  have hl := hcode.1
  go_enter Tryz.func17, Tryz.ntmps17
  go_wp2
  go_loop [3, 4] (fun h i => ∃ (k : Nat) (v : Int), k ≤ len ∧ i = .int .i64 k ∧ h = .int .i64 v) (fun _ i => len - (intOf i).toNat)
  case atStart => exact ⟨0, _, Nat.zero_le _, rfl, rfl⟩
  case round =>
    obtain ⟨k, v, hk, rfl, rfl⟩ := hrel
    by_cases hlt : k < len ∧ k < 4000
    · obtain ⟨h1, h2⟩ := hlt
      obtain ⟨b, off, rfl, hb, hcell⟩ := hcode.2.2 (by omega)
      have ci := hcell k h1
      clear hcell
      go_wp2
      go_round
      case rel => exact ⟨k + 1, _, by omega, by go_num, rfl⟩
      case measure => simp [intOf]; omega
    · by_cases h1 : k < len
      · have h2 : ¬ k < 4000 := fun h => hlt ⟨h1, h⟩
        clear hlt
        go_wp2
        go_ret
        exact ⟨w.heap.size, rfl, ⟨Nat.le_refl _, a, len, cap, zs, 0, v, Has.fresh _ _ _, Nat.zero_le _, hcode.below ((Below.refl _ _).alloc (Nat.le_refl _) _)⟩, (Below.refl _ _).alloc (Nat.le_refl _) _⟩
      · clear hlt
        go_wp2
        go_ret
        exact ⟨w.heap.size, rfl, ⟨Nat.le_refl _, a, len, cap, zs, 0, v, Has.fresh _ _ _, Nat.zero_le _, hcode.below ((Below.refl _ _).alloc (Nat.le_refl _) _)⟩, (Below.refl _ _).alloc (Nat.le_refl _) _⟩
end Go.Proofs.YtpjgoikdfkaefaaGreat
namespace Go.Proofs.YtpjgoikdfkaefaaGreat
set_option linter.unusedVariables false
set_option linter.unusedSimpArgs false
open Go.RowKit

def intsV (zs : List Int) : List Value := zs.map fun x => Value.int .i64 x
theorem intsV_len (zs : List Int) : (intsV zs).length = zs.length := by simp [intsV]
theorem intsV_get (zs : List Int) (j : Nat) (h : j < zs.length) : (intsV zs)[j]? = some (.int .i64 (zs.getD j 0)) := by simp [intsV, List.getD_eq_getElem?_getD, h]
theorem intsV_set (zs : List Int) (j : Nat) (x : Int) : (intsV zs).set j (.int .i64 x) = intsV (zs.set j x) := by simp [intsV, List.map_set]
theorem Tryz.infoI : (Tryz.prog.info? 3).map (fun i => (i.zero, i.size, i.bytes)) = some (some (.int .i64 0), 1, 8) := by kernel_rfl
theorem Ints.ofOwn {w : World} {base n c : Nat} {a : Option Addr} {zs : List Int} (h : w.ownsRow base 3 1 (.slice a n c) n (intsV zs)) (hn : n ≤ 140737488355328) (hr : ∀ x ∈ zs, -9223372036854775808 ≤ x ∧ x ≤ 9223372036854775807) : zs.length = n ∧ Ints w w.heap.size a zs := by
  have hl : zs.length = n := by have := h.1; rw [intsV_len] at this; omega
  refine ⟨hl, by omega, hr, fun h0 => ?_⟩
  rcases h.2 with ⟨hv, hn0⟩ | ⟨g, cap, cur, hv, _⟩
  · omega
  · simp only [Value.slice.injEq] at hv
    obtain ⟨rfl, _, rfl⟩ := hv
    refine ⟨g, 0, rfl, (h.lt g rfl).2, fun i hi => ?_⟩
    rw [Nat.zero_add, h.cellAt i (by omega), intsV_get zs i hi]
theorem made_ints (n : Nat) : (madeCells #[Value.int .i64 0] n).toList = intsV (List.replicate n 0) := by
  rw [toList_madeCells_one]; simp [intsV]
/-- k, k + 1, .. -/
def upFrom (k n : Nat) : List Int := (List.range n).map fun i => ((k + i : Nat) : Int)
theorem upFrom_len (k n : Nat) : (upFrom k n).length = n := by simp [upFrom]
theorem upFrom_get (k n j : Nat) (h : j < n) : (upFrom k n).getD j 0 = ((k + j : Nat) : Int) := by simp [upFrom, List.getD_eq_getElem?_getD, h]
end Go.Proofs.YtpjgoikdfkaefaaGreat
namespace Go.Proofs.YtpjgoikdfkaefaaGreat
set_option linter.unusedVariables false
set_option linter.unusedSimpArgs false
open Go.RowKit

theorem sameInts_any (a a2 : Option Addr) (cap cap2 B : Nat) (zs ys : List Int) (w : World) (hz : Ints w B a zs) (hy : Ints w B a2 ys) :
    Calls Tryz.prog 25 #[.slice a zs.length cap, .slice a2 ys.length cap2] w fun e w' => e = .returned (.bool (decide (zs = ys))) ∧ Below w.heap.size w w' := by
  obtain ⟨n, hn⟩ : ∃ n, zs.length = n := ⟨_, rfl⟩
  obtain ⟨m, hm⟩ : ∃ m, ys.length = m := ⟨_, rfl⟩
  have HN := hidden hn
  have HM := hidden hm
  have HZ := hidden hz
  have HY := hidden hy
  have hl := hz.1
  have hl2 := hy.1
  rw [hn] at hl ⊢
  rw [hm] at hl2 ⊢
  obtain ⟨r, hr⟩ : ∃ r, decide (zs = ys) = r := ⟨_, rfl⟩
  rw [hr]
  have HR := hidden hr
  clear hn hm hz hy hr
  by_cases hnm : n = m
  · subst hnm
    have hne : ((n : Int) != (n : Int)) = false := by simp
    go_enter Tryz.func25, Tryz.ntmps25
    go_wp2
    go_loopw [5] (fun si wr => ∃ k nq : Nat, k ≤ n ∧ si = .int .i64 k ∧ Hid (∀ j, j < k → zs.getD j 0 = ys.getD j 0) ∧ wr = w.drewN nq) (fun si _ => n - (intOf si).toNat)
    case atStart => exact ⟨0, 0, Nat.zero_le _, rfl, hidden (fun j hj => by omega), rfl⟩
    case round =>
      obtain ⟨k, nq, hk, rfl, HE, rfl⟩ := hrel
      by_cases hlt : k < n
      · obtain ⟨b, off, rfl, hb, hc⟩ := HZ.out.2.2 (by rw [HN.out]; omega)
        obtain ⟨b2, off2, rfl, hb2, hc2⟩ := HY.out.2.2 (by rw [HM.out]; omega)
        have ck := hc k (by rw [HN.out]; exact hlt)
        have ck2 := hc2 k (by rw [HM.out]; exact hlt)
        obtain ⟨x, hx⟩ : ∃ x, zs.getD k 0 = x := ⟨_, rfl⟩
        obtain ⟨y, hy⟩ : ∃ y, ys.getD k 0 = y := ⟨_, rfl⟩
        rw [hx] at ck
        rw [hy] at ck2
        have HX := hidden hx
        have HYy := hidden hy
        clear hx hy hc hc2
        by_cases hxy : x = y
        · have hxb : (x != y) = false := by simp [hxy]
          have HE2 : Hid (∀ j, j < k + 1 → zs.getD j 0 = ys.getD j 0) := hidden (fun j hj => by
            rcases Nat.lt_or_ge j k with h | h
            · exact HE.out j h
            · rw [show j = k by omega, HX.out, HYy.out, hxy])
          clear hxy
          go_wp2
          go_quiet (fail)
          go_wp2
          exact ⟨⟨k + 1, _, by omega, by go_num, HE2, rfl⟩, by simp [intOf]; omega⟩
        · have hxb : (x != y) = true := by simp [hxy]
          have HF : Hid (r = false) := hidden (by
            rw [← HR.out, decide_eq_false_iff_not]
            intro e
            exact hxy (by rw [← HX.out, ← HYy.out, e]))
          clear hxy
          go_wp2
          go_quiet (fail)
          go_wp2
          go_ret
          exact ⟨ret_bool HF.out.symm, bel_drewN (bel_drewN (Below.refl _ _) _) _⟩
      · have HF : Hid (r = true) := hidden (by
          rw [← HR.out, decide_eq_true_eq]
          apply List.ext_getElem (by rw [HN.out, HM.out])
          intro j h1 h2
          have := HE.out j (by rw [HN.out] at h1; omega)
          simpa [List.getD_eq_getElem?_getD, h1, h2] using this)
        go_wp2
        go_ret
        exact ⟨ret_bool HF.out.symm, bel_drewN (Below.refl _ _) _⟩
  · have hne : ((n : Int) != (m : Int)) = true := by simp; omega
    have HF : Hid (r = false) := hidden (by
      rw [← HR.out, decide_eq_false_iff_not]
      intro e
      have := congrArg List.length e
      rw [HN.out, HM.out] at this
      exact hnm this)
    clear hnm
    go_enter Tryz.func25, Tryz.ntmps25
    go_wp2
    go_ret
    exact ⟨ret_bool HF.out.symm, Below.refl _ _⟩


theorem Ints.lit (w : World) (cs : List Int) (hm : cs.length ≤ 140737488355328) (hr : ∀ x ∈ cs, -9223372036854775808 ≤ x ∧ x ≤ 9223372036854775807) : Ints (w.alloc (.cells (intsV cs).toArray 3)) (w.heap.size + 1) (some ⟨w.heap.size, 0, none⟩) cs := by
  refine ⟨hm, hr, fun h0 => ⟨w.heap.size, 0, rfl, by omega, fun i hi => ?_⟩⟩
  have h := (Has.fresh w 3 (intsV cs).toArray).cell i
  rw [Nat.zero_add]
  refine h.trans ?_
  rw [List.getElem?_toArray]
  exact intsV_get cs i hi
end Go.Proofs.YtpjgoikdfkaefaaGreat
namespace Go.Proofs.YtpjgoikdfkaefaaGreat
set_option linter.unusedVariables false
set_option linter.unusedSimpArgs false
open Go.RowKit

theorem l1Size_any (a : Option Addr) (len cap : Nat) (m : Int) (w : World) (hl : len ≤ 9223372036854775807) (h0 : 0 ≤ m) (h1 : m ≤ 1000) :
    Calls Tryz.prog 19 #[.slice a len cap, .int .i64 m] w fun e w' => ∃ x : Int, e = .returned (.int .i64 x) ∧ 0 ≤ x ∧ x ≤ m ∧ w = w' := by
  by_cases h : m < 2 + (len : Int) / 20
  · go_enter Tryz.func19, Tryz.ntmps19
    go_wp2
    go_ret
    exact ⟨m, rfl, by omega, by omega, rfl⟩
  · go_enter Tryz.func19, Tryz.ntmps19
    go_wp2
    go_ret
    exact ⟨_, rfl, by omega, by omega, rfl⟩

end Go.Proofs.YtpjgoikdfkaefaaGreat
namespace Go.Proofs.YtpjgoikdfkaefaaGreat
set_option linter.unusedVariables false
set_option linter.unusedSimpArgs false
open Go.RowKit

end Go.Proofs.YtpjgoikdfkaefaaGreat
