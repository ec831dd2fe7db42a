/- Merged: C3, C3Arr, C4P, C1LGet, Dr, Same, DrSize, I3K, C1Get, C1Get2. -/
import Derived.Test.YtaaahmfkdiogkaaQM4
import Derived.Test.YtaaahmfkdiogkaaQM1
import Derived.RegionTactic
import Derived.ChangeAlike
import Derived.Deep.QuietTactic
import Derived.BigQuiet
import Derived.OwnWalk
namespace Go.Proofs.Ytaaahmfkdiogkaa
set_option linter.unusedVariables false
set_option linter.unusedSimpArgs false
open Go.RowKit

/-- Are they numbers of times? -/
def fOk (zs : List Int) : Bool := decide (1 ≤ zs.length ∧ zs.length ≤ 260 ∧ ∀ k, k < zs.length → 0 ≤ zs.getD k 0 ∧ zs.getD k 0 ≤ 1000000)
theorem fOk_iff (zs : List Int) : fOk zs = true ↔ 1 ≤ zs.length ∧ zs.length ≤ 260 ∧ ∀ k, k < zs.length → 0 ≤ zs.getD k 0 ∧ zs.getD k 0 ≤ 1000000 := by simp [fOk]
theorem fOk_no {zs : List Int} (h : ¬ (1 ≤ zs.length ∧ zs.length ≤ 260 ∧ ∀ k, k < zs.length → 0 ≤ zs.getD k 0 ∧ zs.getD k 0 ≤ 1000000)) : fOk zs = false := by
  rw [Bool.eq_false_iff, Ne, fOk_iff]; exact h
set_option maxHeartbeats 1000000 in
set_option maxRecDepth 100000 in
theorem specFreqsOk_any (a : Option Addr) (cap B : Nat) (zs : List Int) (w : World) (hz : Ints w B a zs) :
    Calls Try.prog 122 #[.slice a zs.length cap] w fun e w' => e = .returned (.bool (fOk zs)) ∧ w' = w := by
  obtain ⟨n, hn⟩ : ∃ n, zs.length = n := ⟨_, rfl⟩
  have hN := hidden hn
  have hl := hz.1
  rw [hn] at hl ⊢
  by_cases h1 : n < 1
  · rw [fOk_no (by rw [hn]; omega)]
    go_enter Try.func122, Try.ntmps122
    go_wp2
    go_ret
    exact ⟨rfl, rfl⟩
  · by_cases h2 : 260 < n
    · rw [fOk_no (by rw [hn]; omega)]
      go_enter Try.func122, Try.ntmps122
      go_wp2
      go_ret
      exact ⟨rfl, rfl⟩
    · obtain ⟨b, off, rfl, hb, hc⟩ := hz.2.2 (by omega)
      have HC := hidden hc
      clear hc hn
      go_enter Try.func122, Try.ntmps122
      go_wp2
      go_loop [3] (fun i => ∃ k : Nat, k ≤ n ∧ i = .int .i64 k ∧ Hid (∀ j, j < k → 0 ≤ zs.getD j 0 ∧ zs.getD j 0 ≤ 1000000)) (fun i => n - (intOf i).toNat)
      case atStart => exact ⟨0, by omega, rfl, hidden fun j hj => by omega⟩
      case round =>
        obtain ⟨k, hk, rfl, H⟩ := hrel
        by_cases hlt : k < n
        · have ck := HC.out k (by rw [hN.out]; exact hlt)
          obtain ⟨x, hx⟩ : ∃ x, zs.getD k 0 = x := ⟨_, rfl⟩
          rw [hx] at ck
          have HX := hidden hx
          clear hx
          by_cases c1 : x < 0
          · have HF : Hid (fOk zs = false) := hidden (fOk_no fun g => by have := g.2.2 k (by rw [hN.out]; exact hlt); rw [HX.out] at this; omega)
            go_wp2
            go_ret
            exact ⟨ret_bool HF.out.symm, rfl⟩
          · by_cases c2 : 1000000 < x
            · have HF : Hid (fOk zs = false) := hidden (fOk_no fun g => by have := g.2.2 k (by rw [hN.out]; exact hlt); rw [HX.out] at this; omega)
              go_wp2
              go_ret
              exact ⟨ret_bool HF.out.symm, rfl⟩
            · go_wp2
              go_round
              case rel => exact ⟨k + 1, by omega, by go_num, hidden fun j hj => by
                rcases Nat.lt_or_ge j k with g | g
                · exact H.out j g
                · obtain rfl : j = k := by omega
                  rw [HX.out]; omega⟩
              case measure => simp [intOf]; omega
        · have HF : Hid (fOk zs = true) := hidden (by rw [fOk_iff, hN.out]; exact ⟨by omega, by omega, fun j hj => H.out j (by omega)⟩)
          go_wp2
          go_ret
          exact ⟨ret_bool HF.out.symm, rfl⟩

/-- Lengths that a code may have. -/
def lRange (zs : List Int) : Prop := 1 ≤ zs.length ∧ zs.length ≤ 260 ∧ ∀ k, k < zs.length → 1 ≤ zs.getD k 0 ∧ zs.getD k 0 ≤ 20
instance (zs : List Int) : Decidable (lRange zs) := by unfold lRange; exact inferInstance
/-- How much of all codes the first k lengths take. -/
def kSum (zs : List Int) (k : Nat) : Nat := rsum k fun j => 2 ^ (20 - (zs.getD j 0).toNat)
theorem kSum_succ (zs : List Int) (k : Nat) : kSum zs (k + 1) = kSum zs k + 2 ^ (20 - (zs.getD k 0).toNat) := rfl
theorem kSum_le (zs : List Int) (k : Nat) : kSum zs k ≤ 1048576 * k := by
  induction k with
  | zero => exact Nat.le_refl _
  | succ k ih =>
    rw [kSum_succ]
    have : 2 ^ (20 - (zs.getD k 0).toNat) ≤ 2 ^ 20 := Nat.pow_le_pow_right (by omega) (by omega)
    omega
def kraftI (zs : List Int) : Int := if lRange zs then (kSum zs zs.length : Int) else -1
theorem kraftI_yes {zs : List Int} (h : lRange zs) : kraftI zs = (kSum zs zs.length : Int) := by unfold kraftI; rw [if_pos h]
theorem kraftI_no {zs : List Int} (h : ¬ lRange zs) : kraftI zs = -1 := by unfold kraftI; rw [if_neg h]
set_option maxHeartbeats 1000000 in
set_option maxRecDepth 100000 in
theorem specKraft_any (a : Option Addr) (cap B : Nat) (zs : List Int) (w : World) (hz : Ints w B a zs) :
    Calls Try.prog 104 #[.slice a zs.length cap] w fun e w' => e = .returned (.int .i64 (kraftI zs)) ∧ w' = w := by
  obtain ⟨n, hn⟩ : ∃ n, zs.length = n := ⟨_, rfl⟩
  have hN := hidden hn
  have hl := hz.1
  rw [hn] at hl ⊢
  by_cases h1 : n < 1
  · rw [kraftI_no (fun g => by have := g.1; omega)]
    go_enter Try.func104, Try.ntmps104
    go_wp2
    go_ret
    exact ⟨rfl, rfl⟩
  · by_cases h2 : 260 < n
    · rw [kraftI_no (fun g => by have := g.2.1; omega)]
      go_enter Try.func104, Try.ntmps104
      go_wp2
      go_ret
      exact ⟨rfl, rfl⟩
    · obtain ⟨b, off, rfl, hb, hc⟩ := hz.2.2 (by omega)
      have HC := hidden hc
      clear hc hn
      go_enter Try.func104, Try.ntmps104
      go_wp2
      go_loop [3, 4] (fun v i => ∃ k q : Nat, k ≤ n ∧ i = .int .i64 k ∧ v = .int .i64 q ∧ Hid (q = kSum zs k) ∧ q ≤ 1048576 * k ∧ Hid (∀ j, j < k → 1 ≤ zs.getD j 0 ∧ zs.getD j 0 ≤ 20)) (fun _ i => n - (intOf i).toNat)
      case atStart => exact ⟨0, 0, by omega, rfl, rfl, hidden rfl, by omega, hidden fun j hj => by omega⟩
      case round =>
        obtain ⟨k, q, hk, rfl, rfl, HQ, hq, H⟩ := hrel
        by_cases hlt : k < n
        · have ck := HC.out k (by rw [hN.out]; exact hlt)
          obtain ⟨x, hx⟩ : ∃ x, zs.getD k 0 = x := ⟨_, rfl⟩
          rw [hx] at ck
          have HX := hidden hx
          clear hx
          by_cases c1 : x < 1
          · have HF : Hid (kraftI zs = -1) := hidden (kraftI_no fun g => by have := g.2.2 k (by rw [hN.out]; exact hlt); rw [HX.out] at this; omega)
            go_wp2
            go_ret
            exact ⟨ret_int HF.out.symm, rfl⟩
          · by_cases c2 : 20 < x
            · have HF : Hid (kraftI zs = -1) := hidden (kraftI_no fun g => by have := g.2.2 k (by rw [hN.out]; exact hlt); rw [HX.out] at this; omega)
              go_wp2
              go_ret
              exact ⟨ret_int HF.out.symm, rfl⟩
            · obtain ⟨d, hd⟩ : ∃ d : Nat, (20 : Int) - x = d := ⟨(20 - x).toNat, by omega⟩
              have hd19 : d ≤ 19 := by omega
              have h2d : 2 ^ d ≤ 2 ^ 19 := Nat.pow_le_pow_right (by omega) hd19
              have HD : Hid (20 - (zs.getD k 0).toNat = d) := hidden (by rw [HX.out]; omega)
              have hwd : wrap64 (2 ^ d) = ((2 ^ d : Nat) : Int) := by rw [show ((2 : Int) ^ d) = ((2 ^ d : Nat) : Int) by simp]; exact wrap64_n _ (by omega)
              obtain ⟨p, hp⟩ : ∃ p, 2 ^ d = p := ⟨_, rfl⟩
              rw [hp] at hwd h2d
              have HP := hidden hp
              clear hp
              go_wp2
              go_round
              case rel => exact ⟨k + 1, q + p, by omega, by go_num, by go_num, hidden (by rw [kSum_succ, HQ.out, HD.out, HP.out]), by omega, hidden fun j hj => by
                rcases Nat.lt_or_ge j k with g | g
                · exact H.out j g
                · obtain rfl : j = k := by omega
                  rw [HX.out]; omega⟩
              case measure => simp [intOf]; omega
        · have HF : Hid (kraftI zs = (q : Int)) := hidden (by
            have e : k = n := by omega
            subst e
            rw [kraftI_yes ⟨by rw [hN.out]; omega, by rw [hN.out]; omega, fun j hj => H.out j (by rw [hN.out] at hj; omega)⟩, hN.out, HQ.out])
          go_wp2
          go_ret
          exact ⟨ret_int HF.out.symm, rfl⟩
/-- Are there codes of such lengths? -/
def lOk (zs : List Int) : Bool := decide (0 ≤ kraftI zs ∧ kraftI zs ≤ 1048576)
theorem kraftI_range (zs : List Int) : -1 ≤ kraftI zs ∧ kraftI zs ≤ 272629760 := by
  by_cases h : lRange zs
  · rw [kraftI_yes h]
    have := kSum_le zs zs.length
    have := h.2.1
    omega
  · rw [kraftI_no h]; omega
theorem specLensOk_any (a : Option Addr) (cap B : Nat) (zs : List Int) (w : World) (hz : Ints w B a zs) :
    Calls Try.prog 62 #[.slice a zs.length cap] w fun e w' => e = .returned (.bool (lOk zs)) ∧ w' = w := by
  have hk := kraftI_range zs
  have HO : Hid (lOk zs = decide (0 ≤ kraftI zs ∧ kraftI zs ≤ 1048576)) := hidden rfl
  have HK := hidden (fun W h => specKraft_any a cap B zs W h)
  obtain ⟨x, hx⟩ : ∃ x, kraftI zs = x := ⟨_, rfl⟩
  rw [hx] at hk HO HK
  by_cases h0 : 0 ≤ x
  · go_enter Try.func62, Try.ntmps62
    go_wp2_with fail
    refine (HK.out _ hz).mono ?_
    rintro e w' ⟨rfl, rfl⟩
    go_wp2
    go_ret
    exact ⟨ret_bool (by rw [HO.out]; simp [h0]), rfl⟩
  · go_enter Try.func62, Try.ntmps62
    go_wp2_with fail
    refine (HK.out _ hz).mono ?_
    rintro e w' ⟨rfl, rfl⟩
    go_wp2
    go_ret
    exact ⟨ret_bool (by rw [HO.out]; simp; omega), rfl⟩

theorem lOk_range {zs : List Int} (h : lOk zs = true) : lRange zs := by
  apply Classical.byContradiction
  intro g
  unfold lOk at h
  rw [kraftI_no g] at h
  simp at h
def cSum (fs ls : List Int) (k : Nat) : Nat := rsum k fun j => (fs.getD j 0).toNat * (ls.getD j 0).toNat
theorem cSum_succ (fs ls : List Int) (k : Nat) : cSum fs ls (k + 1) = cSum fs ls k + (fs.getD k 0).toNat * (ls.getD k 0).toNat := rfl
def costI (fs ls : List Int) : Int := if fOk fs = true ∧ lOk ls = true ∧ fs.length = ls.length then (cSum fs ls fs.length : Int) else -1
theorem costI_yes {fs ls : List Int} (h : fOk fs = true ∧ lOk ls = true ∧ fs.length = ls.length) : costI fs ls = (cSum fs ls fs.length : Int) := by unfold costI; rw [if_pos h]
theorem costI_no {fs ls : List Int} (h : ¬ (fOk fs = true ∧ lOk ls = true ∧ fs.length = ls.length)) : costI fs ls = -1 := by unfold costI; rw [if_neg h]
end Go.Proofs.Ytaaahmfkdiogkaa
namespace Go.Proofs.Ytaaahmfkdiogkaa
set_option linter.unusedVariables false
set_option linter.unusedSimpArgs false
open Go.RowKit

def intsV (zs : List Int) : List Value := zs.map fun x => Value.int .i64 x
theorem intsV_len (zs : List Int) : (intsV zs).length = zs.length := by simp [intsV]
theorem intsV_get (zs : List Int) (j : Nat) (h : j < zs.length) : (intsV zs)[j]? = some (.int .i64 (zs.getD j 0)) := by simp [intsV, List.getD_eq_getElem?_getD, h]
theorem intsV_set (zs : List Int) (j : Nat) (x : Int) : (intsV zs).set j (.int .i64 x) = intsV (zs.set j x) := by simp [intsV, List.map_set]
theorem Try.infoI : (Try.prog.info? 3).map (fun i => (i.zero, i.size, i.bytes)) = some (some (.int .i64 0), 1, 8) := by kernel_rfl
theorem Ints.ofOwn {w : World} {base n c : Nat} {a : Option Addr} {zs : List Int} (h : w.ownsRow base 3 1 (.slice a n c) n (intsV zs)) (hn : n ≤ 140737488355328) (hr : ∀ x ∈ zs, -9223372036854775808 ≤ x ∧ x ≤ 9223372036854775807) : zs.length = n ∧ Ints w w.heap.size a zs := by
  have hl : zs.length = n := by have := h.1; rw [intsV_len] at this; omega
  refine ⟨hl, by omega, hr, fun h0 => ?_⟩
  rcases h.2 with ⟨hv, hn0⟩ | ⟨g, cap, cur, hv, _⟩
  · omega
  · simp only [Value.slice.injEq] at hv
    obtain ⟨rfl, _, rfl⟩ := hv
    refine ⟨g, 0, rfl, (h.lt g rfl).2, fun i hi => ?_⟩
    rw [Nat.zero_add, h.cellAt i (by omega), intsV_get zs i hi]
theorem made_ints (n : Nat) : (madeCells #[Value.int .i64 0] n).toList = intsV (List.replicate n 0) := by
  rw [toList_madeCells_one]; simp [intsV]
set_option maxHeartbeats 2000000 in
set_option maxRecDepth 100000 in
theorem toIntS_any (a : Option Addr) (cap B : Nat) (zs : List Int) (w : World) (hz : Ints w B a zs) (hB : B ≤ w.heap.size) (hlen : zs.length ≤ 1048576) :
    Calls Try.prog 17 #[.slice a zs.length cap] w fun e w' => ∃ g, e = .returned (.slice (some ⟨g, 0, none⟩) zs.length zs.length) ∧ w'.ownsRow w.heap.size 3 1 (.slice (some ⟨g, 0, none⟩) zs.length zs.length) zs.length (intsV zs) ∧ Below w.heap.size w w' := by
  obtain ⟨j0, ji, jz0, jz1, jz2⟩ := info_parts Try.infoI
  obtain ⟨n, hn⟩ : ∃ n, zs.length = n := ⟨_, rfl⟩
  have HN := hidden hn
  have HZ := hidden hz
  rw [hn] at hlen ⊢
  clear hn hz
  go_enter Try.func17, Try.ntmps17
  go_wp2_with (at_make; refine wpList_make_full _ rfl _ _ 24 rfl w.heap.size 3 j0 (.int .i64 0) 1 Try.underlying24 ji jz0 jz1 .i64 .i64 _ _ n rfl rfl rfl rfl ?cb1 ?cb2 ?cb3 ?_)
  case cb1 => rw [jz2]; omega
  case cb2 => unfold maxLen; omega
  case cb3 => exact Nat.le_refl _
  intro w1 hown hgrow
  have hbl : Below w.heap.size w w1 := ⟨hgrow.os, hgrow.tape, hgrow.output, hgrow.size, fun i hi => hgrow.block i hi (by simp)⟩
  rw [made_ints] at hown
  clear hgrow
  go_wp2
  go_loopw [4] (fun si wr => ∃ (k : Nat) (D : List Int), k ≤ n ∧ si = .int .i64 k ∧ Hid (D.length = n ∧ D.take k = zs.take k) ∧ wr.ownsRow w.heap.size 3 1 (.slice (some ⟨w.heap.size, 0, none⟩) n n) n (intsV D) ∧ Below w.heap.size w wr) (fun si _ => n - (intOf si).toNat)
  case atStart => exact ⟨0, List.replicate n 0, Nat.zero_le _, rfl, hidden ⟨by simp, rfl⟩, hown, hbl⟩
  case round =>
    obtain ⟨k, D, hk, rfl, HD, hownD, hblD⟩ := hrel
    by_cases hlt : k < n
    · have hzr := HZ.out.below (hblD.mono hB)
      obtain ⟨b, off, rfl, hb, hc⟩ := hzr.2.2 (by rw [HN.out]; omega)
      have ck := hc k (by rw [HN.out]; exact hlt)
      obtain ⟨x, hx⟩ : ∃ x, zs.getD k 0 = x := ⟨_, rfl⟩
      rw [hx] at ck
      have d0 := hownD.cellAt k (by omega)
      rw [intsV_get D k (by rw [HD.out.1]; exact hlt)] at d0
      have f0 := hownD.frozenAt k
      have HD2 : Hid ((D.set k x).length = n ∧ (D.set k x).take (k + 1) = zs.take (k + 1)) := hidden (by
        refine ⟨by rw [List.length_set, HD.out.1], ?_⟩
        have hkz : k < zs.length := by rw [HN.out]; exact hlt
        have hkd : k < (D.set k x).length := by rw [List.length_set, HD.out.1]; exact hlt
        rw [List.take_succ_eq_append_getElem hkd, List.take_succ_eq_append_getElem hkz, List.take_set_of_le (Nat.le_refl _), HD.out.2]
        congr 2
        rw [List.getElem_set_self, ← hx]
        simp [List.getD_eq_getElem?_getD, hkz])
      clear hx hzr hc
      go_wp2
      go_roundw
      case rel => exact ⟨k + 1, D.set k x, by omega, by go_num, HD2, by rw [← intsV_set]; exact (hownD.stored k _).1, hblD.setCell (Nat.le_refl _) _⟩
      case measure => simp [intOf]; omega
    · have hkn : k = n := by omega
      subst hkn
      have e : D = zs := by
        have := HD.out.2
        rwa [List.take_of_length_le (by rw [HD.out.1]; exact Nat.le_refl _), List.take_of_length_le (by rw [HN.out]; exact Nat.le_refl _)] at this
      subst e
      go_wp2
      go_ret
      exact ⟨w.heap.size, rfl, hownD, hblD⟩
set_option maxHeartbeats 2000000 in
set_option maxRecDepth 100000 in
theorem eqIntS_any (a a2 : Option Addr) (cap cap2 B : Nat) (zs ys : List Int) (w : World) (hz : Ints w B a zs) (hy : Ints w B a2 ys) :
    Calls Try.prog 20 #[.slice a zs.length cap, .slice a2 ys.length cap2] w fun e w' => e = .returned (.bool (decide (zs = ys))) ∧ Below w.heap.size w w' := by
  obtain ⟨n, hn⟩ : ∃ n, zs.length = n := ⟨_, rfl⟩
  obtain ⟨m, hm⟩ : ∃ m, ys.length = m := ⟨_, rfl⟩
  have HN := hidden hn
  have HM := hidden hm
  have HZ := hidden hz
  have HY := hidden hy
  have hl := hz.1
  have hl2 := hy.1
  rw [hn] at hl ⊢
  rw [hm] at hl2 ⊢
  obtain ⟨r, hr⟩ : ∃ r, decide (zs = ys) = r := ⟨_, rfl⟩
  rw [hr]
  have HR := hidden hr
  clear hn hm hz hy hr
  by_cases hnm : n = m
  · subst hnm
    have hne : ((n : Int) != (n : Int)) = false := by simp
    go_enter Try.func20, Try.ntmps20
    go_wp2
    go_loopw [5] (fun si wr => ∃ k nq : Nat, k ≤ n ∧ si = .int .i64 k ∧ Hid (∀ j, j < k → zs.getD j 0 = ys.getD j 0) ∧ wr = w.drewN nq) (fun si _ => n - (intOf si).toNat)
    case atStart => exact ⟨0, 0, Nat.zero_le _, rfl, hidden (fun j hj => by omega), rfl⟩
    case round =>
      obtain ⟨k, nq, hk, rfl, HE, rfl⟩ := hrel
      by_cases hlt : k < n
      · obtain ⟨b, off, rfl, hb, hc⟩ := HZ.out.2.2 (by rw [HN.out]; omega)
        obtain ⟨b2, off2, rfl, hb2, hc2⟩ := HY.out.2.2 (by rw [HM.out]; omega)
        have ck := hc k (by rw [HN.out]; exact hlt)
        have ck2 := hc2 k (by rw [HM.out]; exact hlt)
        obtain ⟨x, hx⟩ : ∃ x, zs.getD k 0 = x := ⟨_, rfl⟩
        obtain ⟨y, hy⟩ : ∃ y, ys.getD k 0 = y := ⟨_, rfl⟩
        rw [hx] at ck
        rw [hy] at ck2
        have HX := hidden hx
        have HYy := hidden hy
        clear hx hy hc hc2
        by_cases hxy : x = y
        · have hxb : (x != y) = false := by simp [hxy]
          have HE2 : Hid (∀ j, j < k + 1 → zs.getD j 0 = ys.getD j 0) := hidden (fun j hj => by
            rcases Nat.lt_or_ge j k with h | h
            · exact HE.out j h
            · rw [show j = k by omega, HX.out, HYy.out, hxy])
          clear hxy
          go_wp2
          go_quiet (fail)
          go_wp2
          exact ⟨⟨k + 1, _, by omega, by go_num, HE2, rfl⟩, by simp [intOf]; omega⟩
        · have hxb : (x != y) = true := by simp [hxy]
          have HF : Hid (r = false) := hidden (by
            rw [← HR.out, decide_eq_false_iff_not]
            intro e
            exact hxy (by rw [← HX.out, ← HYy.out, e]))
          clear hxy
          go_wp2
          go_quiet (fail)
          go_wp2
          go_ret
          exact ⟨ret_bool HF.out.symm, bel_drewN (bel_drewN (Below.refl _ _) _) _⟩
      · have HF : Hid (r = true) := hidden (by
          rw [← HR.out, decide_eq_true_eq]
          apply List.ext_getElem (by rw [HN.out, HM.out])
          intro j h1 h2
          have := HE.out j (by rw [HN.out] at h1; omega)
          simpa [List.getD_eq_getElem?_getD, h1, h2] using this)
        go_wp2
        go_ret
        exact ⟨ret_bool HF.out.symm, bel_drewN (Below.refl _ _) _⟩
  · have hne : ((n : Int) != (m : Int)) = true := by simp; omega
    have HF : Hid (r = false) := hidden (by
      rw [← HR.out, decide_eq_false_iff_not]
      intro e
      have := congrArg List.length e
      rw [HN.out, HM.out] at this
      exact hnm this)
    clear hnm
    go_enter Try.func20, Try.ntmps20
    go_wp2
    go_ret
    exact ⟨ret_bool HF.out.symm, Below.refl _ _⟩

/-- k, k + 1, .. -/
def upFrom (k n : Nat) : List Int := (List.range n).map fun i => ((k + i : Nat) : Int)
theorem upFrom_len (k n : Nat) : (upFrom k n).length = n := by simp [upFrom]
theorem upFrom_get (k n j : Nat) (h : j < n) : (upFrom k n).getD j 0 = ((k + j : Nat) : Int) := by simp [upFrom, List.getD_eq_getElem?_getD, h]
set_option maxHeartbeats 2000000 in
set_option maxRecDepth 100000 in
theorem markIntS_any (base k n : Nat) (v : Value) (zs : List Int) (w : World) (h : w.ownsRow base 3 1 v n (intsV zs)) (hn : n ≤ 1048576) (hk : k ≤ 1000000000) :
    Calls Try.prog 21 #[v, .int .i64 k] w fun e w' => e = .returned (.int .i64 ((k + n : Nat) : Int)) ∧ w'.ownsRow base 3 1 v n (intsV (upFrom k n)) ∧ w.grownBy w' v.ownBlock := by
  by_cases hn0 : n = 0
  · subst hn0
    obtain ⟨a, c, rfl⟩ : ∃ a c, v = .slice a 0 c := by
      rcases h.2 with ⟨rfl, _⟩ | ⟨g, cap, cur, rfl, _⟩
      · exact ⟨none, 0, rfl⟩
      · exact ⟨_, cap, rfl⟩
    have hz : zs = [] := by have := h.1; rw [intsV_len] at this; exact List.eq_nil_of_length_eq_zero (by omega)
    subst hz
    go_enter Try.func21, Try.ntmps21
    go_wp2
    go_loop [1, 5] (fun sk si => sk = .int .i64 k ∧ si = .int .i64 0) (fun _ _ => 0)
    case atStart => exact ⟨rfl, rfl⟩
    case round =>
      obtain ⟨rfl, rfl⟩ := hrel
      go_wp2
      go_ret
      exact ⟨rfl, h, World.grownBy.refl _ _⟩
  · obtain ⟨g, c, hv⟩ := Joins.ownsRow_form h (by omega)
    subst hv
    have H0 := hidden h
    have hzl : zs.length = n := by have := h.1; rw [intsV_len] at this; omega
    have HZL := hidden hzl
    clear h hzl
    go_enter Try.func21, Try.ntmps21
    go_wp2
    go_loopw [1, 5] (fun sk si wr => ∃ (i : Nat) (D : List Int), i ≤ n ∧ sk = .int .i64 ((k : Int) + (i : Int)) ∧ si = .int .i64 i ∧ Hid (D.length = n ∧ D.take i = upFrom k i) ∧ wr.ownsRow base 3 1 (.slice (some ⟨g, 0, none⟩) n c) n (intsV D) ∧ w.grownBy wr (some g)) (fun _ si _ => n - (intOf si).toNat)
    case atStart => exact ⟨0, zs, Nat.zero_le _, by simp, rfl, hidden ⟨HZL.out, rfl⟩, H0.out, World.grownBy.refl _ _⟩
    case round =>
      obtain ⟨i, D, hin, rfl, rfl, HD, hown, hgr⟩ := hrel
      by_cases hlt : i < n
      · have d0 := hown.cellAt i (by omega)
        rw [intsV_get D i (by rw [HD.out.1]; exact hlt)] at d0
        have f0 := hown.frozenAt i
        have HD2 : Hid ((D.set i ((k : Int) + (i : Int))).length = n ∧ (D.set i ((k : Int) + (i : Int))).take (i + 1) = upFrom k (i + 1)) := hidden (by
          refine ⟨by rw [List.length_set, HD.out.1], ?_⟩
          have hkd : i < (D.set i ((k : Int) + (i : Int))).length := by rw [List.length_set, HD.out.1]; exact hlt
          rw [List.take_succ_eq_append_getElem hkd, List.take_set_of_le (Nat.le_refl _), HD.out.2, List.getElem_set_self]
          simp [upFrom, List.range_succ])
        go_wp2
        go_roundw
        case rel => exact ⟨i + 1, D.set i ((k : Int) + (i : Int)), by omega, by go_num, by go_num, HD2, by rw [← intsV_set]; exact (hown.stored i _).1, by
          have h2 := (hown.stored i (.int .i64 ((k : Int) + (i : Int)))).2
          exact ⟨h2.os.trans hgr.os, h2.tape.trans hgr.tape, h2.output.trans hgr.output, Nat.le_trans hgr.size h2.size, fun b hb hne => (h2.block b (Nat.lt_of_lt_of_le hb hgr.size) hne).trans (hgr.block b hb hne)⟩⟩
        case measure => simp [intOf]; omega
      · have hie : i = n := by omega
        subst hie
        have e : D = upFrom k i := by
          have := HD.out.2
          rwa [List.take_of_length_le (by rw [HD.out.1]; exact Nat.le_refl _)] at this
        subst e
        go_wp2
        go_ret
        exact ⟨ret_int (by omega), hown, hgr⟩
set_option maxHeartbeats 2000000 in
set_option maxRecDepth 100000 in
theorem heldIntS_any (a : Option Addr) (cap B k n : Nat) (w : World) (hz : Ints w B a (upFrom k n)) (hn : n ≤ 1048576) (hk : k ≤ 1000000000) :
    Calls Try.prog 24 #[.slice a n cap, .int .i64 k] w fun e w' => e = .returned (.int .i64 ((k + n : Nat) : Int)) ∧ w' = w := by
  have HZ := hidden hz
  clear hz
  go_enter Try.func24, Try.ntmps24
  go_wp2
  go_loop [1, 5] (fun sk si => ∃ i : Nat, i ≤ n ∧ sk = .int .i64 ((k : Int) + (i : Int)) ∧ si = .int .i64 i) (fun _ si => n - (intOf si).toNat)
  case atStart => exact ⟨0, Nat.zero_le _, by simp, rfl⟩
  case round =>
    obtain ⟨i, hin, rfl, rfl⟩ := hrel
    by_cases hlt : i < n
    · obtain ⟨b, off, rfl, hb, hc⟩ := HZ.out.2.2 (by rw [upFrom_len]; omega)
      have ck := hc i (by rw [upFrom_len]; exact hlt)
      rw [upFrom_get k n i hlt, Int.natCast_add] at ck
      have hne : (((k : Int) + (i : Int)) != ((k : Int) + (i : Int))) = false := by simp
      clear hc
      go_wp2
      go_round
      case rel => exact ⟨i + 1, by omega, by go_num, by go_num⟩
      case measure => simp [intOf]; omega
    · have hie : i = n := by omega
      subst hie
      go_wp2
      go_ret
      exact ⟨ret_int (by omega), rfl⟩
end Go.Proofs.Ytaaahmfkdiogkaa
namespace Go.Proofs.Ytaaahmfkdiogkaa
set_option linter.unusedVariables false
set_option linter.unusedSimpArgs false
open Go.RowKit

def lnF (ls : List Int) (s : Nat) : Nat := (ls.getD s 0).toNat
theorem lRange_ln {ls : List Int} (h : lRange ls) : ∀ s, s < ls.length → 1 ≤ lnF ls s ∧ lnF ls s ≤ 20 := fun s hs => by
  have := h.2.2 s hs
  unfold lnF; omega
theorem lnF_int {ls : List Int} (h : lRange ls) (s : Nat) (hs : s < ls.length) : ls.getD s 0 = (lnF ls s : Int) := by
  have := h.2.2 s hs
  unfold lnF; omega
/-- The order, the codes. -/
def ordF (ls : List Int) : List Nat := ordU ls.length (lnF ls) 20
def cdF (ls : List Int) (s : Nat) : Nat := codeN ls.length (lnF ls) s
def ordL (ls : List Int) : List Nat := if lOk ls = true then ordF ls else []
def cdL (ls : List Int) : List Nat := if lOk ls = true then (List.range ls.length).map (cdF ls) else []
theorem ordF_len {ls : List Int} (h : lRange ls) : (ordF ls).length = ls.length := ordU_len _ _ (lRange_ln h)
theorem ordF_mem {ls : List Int} (s : Nat) (h : s ∈ ordF ls) : s < ls.length := ((mem_ordU _ _ _ _).1 h).1
theorem cdL_len {ls : List Int} (h : lOk ls = true) : (cdL ls).length = ls.length := by unfold cdL; rw [if_pos h]; simp
theorem cdL_get {ls : List Int} (h : lOk ls = true) (s : Nat) (hs : s < ls.length) : (cdL ls).getD s 0 = cdF ls s := by
  unfold cdL; rw [if_pos h]; simp [List.getD_eq_getElem?_getD, hs]
theorem kraft_le {ls : List Int} (h : lOk ls = true) : rsum ls.length (fun t => 2 ^ (20 - lnF ls t)) ≤ 2 ^ 20 := by
  have hr := lOk_range h
  unfold lOk at h
  rw [kraftI_yes hr] at h
  simp only [decide_eq_true_eq] at h
  have : kSum ls ls.length = rsum ls.length (fun t => 2 ^ (20 - lnF ls t)) := rfl
  omega
theorem cdF_lt {ls : List Int} (h : lOk ls = true) (s : Nat) (hs : s < ls.length) : cdF ls s < 2 ^ lnF ls s :=
  codeN_lt _ _ s hs (lRange_ln (lOk_range h) s hs).2 (kraft_le h)
theorem cdF_lt20 {ls : List Int} (h : lOk ls = true) (s : Nat) (hs : s < ls.length) : cdF ls s < 1048576 :=
  Nat.lt_of_lt_of_le (cdF_lt h s hs) (Nat.pow_le_pow_right (by omega) (lRange_ln (lOk_range h) s hs).2)
/-- No code begins another. -/
theorem cdF_free {ls : List Int} (h : lOk ls = true) (i k : Nat) (hi : i < ls.length) (hk : k < ls.length) (hne : i ≠ k) (hle : lnF ls i ≤ lnF ls k) : cdF ls k / 2 ^ (lnF ls k - lnF ls i) ≠ cdF ls i :=
  codeN_free _ _ i k hi hk hne hle (lRange_ln (lOk_range h) k hk).2

theorem ord_perm {ls : List Int} (h : lRange ls) : (ordF ls).Perm (List.range ls.length) := ordU_perm _ _ (lRange_ln h)
theorem ord_bef (ls : List Int) : (ordF ls).Pairwise (fun a b => bef (lnF ls) a b = true) := ordU_bef _ _ _
theorem ord_nodup (ls : List Int) : (ordF ls).Nodup := ordU_nodup _ _ _
theorem ord_all {ls : List Int} (h : lRange ls) (s : Nat) (hs : s < ls.length) : s ∈ ordF ls := (ord_perm h).mem_iff.2 (List.mem_range.2 hs)
/-- The first has the code 0; each further one the next one. -/
theorem ord_codes {ls : List Int} (h : lRange ls) : ∃ O : List Nat, ordF ls = O ∧ O.length = ls.length ∧ O.Nodup ∧ (∀ s ∈ O, s < ls.length) ∧ (∀ s, s < ls.length → s ∈ O) ∧ (∀ x T, O = x :: T → cdF ls x = 0) ∧
    (∀ (k t s : Nat) (hk : k + 1 < O.length), O[k] = t → O[k + 1] = s → lnF ls t ≤ lnF ls s ∧ cdF ls s = (cdF ls t + 1) * 2 ^ (lnF ls s - lnF ls t)) := by
  have h1 := ordF_len h
  have h2 := ord_nodup ls
  have h3 := fun s hs => ordF_mem (ls := ls) s hs
  have h4 := fun s hs => ord_all h s hs
  have h5 := ord_perm h
  have h6 := ord_bef ls
  have h7 := lRange_ln h
  generalize ordF ls = O at *
  refine ⟨O, rfl, h1, h2, h3, h4, ?_, ?_⟩
  · rintro x T rfl
    have := kBef_list ls.length (lnF ls) (x :: T) h5 h6 0 (by simp)
    simp only [List.getElem_cons_zero, List.take_zero, List.map_nil, List.sum_nil] at this
    unfold cdF codeN
    rw [this, Nat.zero_div]
  · intro k t s hk ht hs
    exact code_step ls.length (lnF ls) O h5 h6 k hk t s ht hs (h7 s (h3 s (by rw [← hs]; exact List.getElem_mem _))).2

/-! ### symbols and their bits -/
def symsB (n : Nat) (ss : List Int) : Bool := decide (ss.length ≤ 2000 ∧ ∀ k, k < ss.length → 0 ≤ ss.getD k 0 ∧ ss.getD k 0 < (n : Int))
theorem symsB_iff (n : Nat) (ss : List Int) : symsB n ss = true ↔ ss.length ≤ 2000 ∧ ∀ k, k < ss.length → 0 ≤ ss.getD k 0 ∧ ss.getD k 0 < (n : Int) := by simp [symsB]
/-- Are they symbols of these lengths? -/
def putOk (ls ss : List Int) : Bool := lOk ls && symsB ls.length ss
theorem putOk_iff (ls ss : List Int) : putOk ls ss = true ↔ lOk ls = true ∧ symsB ls.length ss = true := by simp [putOk]
def symBits1 (ls : List Int) (s : Nat) : List Nat := nbits (cdF ls s) (lnF ls s)
/-- The bits of the first k symbols. -/
def putL (ls ss : List Int) (k : Nat) : List Nat := (List.range k).flatMap fun i => symBits1 ls (ss.getD i 0).toNat
theorem putL_zero (ls ss : List Int) : putL ls ss 0 = [] := rfl
theorem putL_succ (ls ss : List Int) (k : Nat) : putL ls ss (k + 1) = putL ls ss k ++ symBits1 ls (ss.getD k 0).toNat := by simp [putL, List.range_succ]
theorem putL_lt (ls ss : List Int) (k : Nat) : ∀ b ∈ putL ls ss k, b < 2 := by
  intro b hb
  simp only [putL, List.mem_flatMap] at hb
  obtain ⟨i, _, hb⟩ := hb
  exact nbits_lt _ _ b hb
def lenSum (ls ss : List Int) (k : Nat) : Nat := rsum k fun i => lnF ls (ss.getD i 0).toNat
theorem putL_len (ls ss : List Int) (k : Nat) : (putL ls ss k).length = lenSum ls ss k := by
  induction k with
  | zero => rfl
  | succ k ih => rw [putL_succ, List.length_append, ih]; unfold symBits1; rw [nbits_len]; rfl
theorem lenSum_le {ls ss : List Int} (h : lRange ls) (hs : ∀ k, k < ss.length → 0 ≤ ss.getD k 0 ∧ ss.getD k 0 < (ls.length : Int)) (k : Nat) (hk : k ≤ ss.length) : lenSum ls ss k ≤ 20 * k := by
  induction k with
  | zero => exact Nat.le_refl _
  | succ k ih =>
    have h1 := ih (by omega)
    have h2 := hs k (by omega)
    have h3 := (lRange_ln h (ss.getD k 0).toNat (by omega)).2
    show lenSum ls ss k + lnF ls (ss.getD k 0).toNat ≤ _
    omega

/-! ### reading symbols -/
/-- At bit a of s stands the code of symbol i, n bits. -/
def hit (ls : List Int) (s : ByteArray) (a n i : Nat) : Prop := i < ls.length ∧ lnF ls i = n ∧ a + n ≤ 8 * s.size ∧ num (row s a n) = cdF ls i
theorem num_row_div (s : ByteArray) (a n m : Nat) (h : n ≤ m) : num (row s a m) / 2 ^ (m - n) = num (row s a n) := by
  have e : row s a m = row s a n ++ row s (a + n) (m - n) := by rw [← row_add]; congr 1; omega
  have h2 := num_row_lt s (a + n) (m - n)
  rw [e, num_append, row_len, Nat.mul_comm, Nat.mul_add_div (Nat.two_pow_pos _), Nat.div_eq_of_lt h2, Nat.add_zero]
theorem hit_one {ls : List Int} (h : lOk ls = true) {s : ByteArray} {a n i m k : Nat} (h1 : hit ls s a n i) (h2 : hit ls s a m k) : n = m ∧ i = k := by
  have key : ∀ {n i m k : Nat}, hit ls s a n i → hit ls s a m k → n ≤ m → i = k := by
    intro n i m k h1 h2 hle
    apply Classical.byContradiction
    intro hne
    refine cdF_free h i k h1.1 h2.1 hne (by rw [h1.2.1, h2.2.1]; exact hle) ?_
    rw [h1.2.1, h2.2.1, ← h2.2.2.2, ← h1.2.2.2]
    exact num_row_div s a n m hle
  have e : i = k := by
    rcases Nat.le_total n m with hle | hle
    · exact key h1 h2 hle
    · exact (key h2 h1 hle).symm
  subst e
  exact ⟨h1.2.1.symm.trans h2.2.1, rfl⟩
/-- Symbols read one after the other, from bit a on to bit b. -/
inductive Reads (ls : List Int) (s : ByteArray) : Nat → List Nat → Nat → Prop
  | nil (a : Nat) : Reads ls s a [] a
  | cons (a n i : Nat) (xs : List Nat) (b : Nat) (h : hit ls s a n i) (hr : Reads ls s (a + n) xs b) : Reads ls s a (i :: xs) b
theorem Reads.snoc {ls : List Int} {s : ByteArray} {a b n i : Nat} {xs : List Nat} (h : Reads ls s a xs b) (hh : hit ls s b n i) : Reads ls s a (xs ++ [i]) (b + n) := by
  induction h with
  | nil a => exact .cons _ _ _ _ _ hh (.nil _)
  | cons a m j xs b h hr ih => exact .cons _ _ _ _ _ h (ih hh)
theorem Reads.one {ls : List Int} (h : lOk ls = true) {s : ByteArray} {a b : Nat} {xs : List Nat} (h1 : Reads ls s a xs b) : ∀ {c : Nat} {ys : List Nat}, Reads ls s a ys c → xs.length = ys.length → xs = ys ∧ b = c := by
  induction h1 with
  | nil a =>
    intro c ys h2 hl
    cases h2 with
    | nil => exact ⟨rfl, rfl⟩
    | cons => simp at hl
  | cons a n i xs b hh hr ih =>
    intro c ys h2 hl
    cases h2 with
    | nil => simp at hl
    | cons _ m j ys _ hh2 hr2 =>
      obtain ⟨rfl, rfl⟩ := hit_one h hh hh2
      obtain ⟨rfl, rfl⟩ := ih hr2 (by simpa using hl)
      exact ⟨rfl, rfl⟩
/-- What can be read so far can be read of more, too. -/
theorem Reads.split {ls : List Int} {s : ByteArray} {a b : Nat} {xs ys : List Nat} (h : Reads ls s a (xs ++ ys) b) : ∃ c, Reads ls s a xs c ∧ Reads ls s c ys b := by
  induction xs generalizing a with
  | nil => exact ⟨a, .nil a, h⟩
  | cons x xs ih =>
    cases h with
    | cons _ n _ _ _ hh hr =>
      obtain ⟨c, h1, h2⟩ := ih hr
      exact ⟨c, .cons _ _ _ _ _ hh h1, h2⟩
theorem Reads.le {ls : List Int} {s : ByteArray} {a b : Nat} {xs : List Nat} (h : Reads ls s a xs b) (ha : a ≤ 8 * s.size) : b ≤ 8 * s.size := by
  induction h with
  | nil a => exact ha
  | cons a n i xs b hh hr ih => exact ih hh.2.2.1
theorem Reads.mem {ls : List Int} {s : ByteArray} {a b : Nat} {xs : List Nat} (h : Reads ls s a xs b) : ∀ x ∈ xs, x < ls.length := by
  induction h with
  | nil a => intro x hx; simp at hx
  | cons a n i xs b hh hr ih =>
    intro x hx
    rcases List.mem_cons.1 hx with rfl | hx
    · exact hh.1
    · exact ih x hx
theorem row_three (s : ByteArray) (x y len : Nat) (h : x + y ≤ len) : row s 0 len = row s 0 x ++ row s x y ++ row s (x + y) (len - (x + y)) := by
  have h1 := row_add s 0 x y
  have h2 := row_add s 0 (x + y) (len - (x + y))
  rw [Nat.zero_add] at h1 h2
  rw [← h1, ← h2]
  congr 1; omega
/-- What was put is read. -/
theorem reads_put {ls ss : List Int} (h : putOk ls ss = true) {s : ByteArray} (m : Nat) (hrow : row s 0 (putL ls ss m).length = putL ls ss m) (hm : m = ss.length) (hs : (putL ls ss m).length ≤ 8 * s.size) :
    ∀ k, k ≤ m → Reads ls s 0 ((List.range k).map fun i => (ss.getD i 0).toNat) (lenSum ls ss k) := by
  obtain ⟨hok, hsy⟩ := (putOk_iff ls ss).1 h
  have hsy := (symsB_iff _ _).1 hsy
  have hpre : ∀ k, k ≤ m → ∃ T, putL ls ss m = putL ls ss k ++ T := by
    intro k hk
    refine ⟨(List.range (m - k)).flatMap fun i => symBits1 ls (ss.getD (k + i) 0).toNat, ?_⟩
    unfold putL
    rw [show m = k + (m - k) by omega, List.range_add, List.flatMap_append]
    congr 1
    rw [List.flatMap_map, show k + (m - k) - k = m - k by omega]
  intro k
  induction k with
  | zero => intro _; exact .nil 0
  | succ k ih =>
    intro hk
    rw [List.range_succ, List.map_append]
    suffices hh : hit ls s (lenSum ls ss k) (lnF ls (ss.getD k 0).toNat) (ss.getD k 0).toNat from Reads.snoc (ih (by omega)) hh
    have hx := hsy.2 k (by omega)
    obtain ⟨T, hT⟩ := hpre (k + 1) hk
    have hlen := congrArg List.length hT
    rw [List.length_append, putL_len ls ss (k + 1)] at hlen
    have hl2 : lenSum ls ss (k + 1) = lenSum ls ss k + lnF ls (ss.getD k 0).toNat := rfl
    refine ⟨by omega, rfl, by omega, ?_⟩
    have e := hrow.symm.trans (row_three s (lenSum ls ss k) (lnF ls (ss.getD k 0).toNat) (putL ls ss m).length (by omega))
    rw [putL_succ] at hT
    rw [e] at hT
    have hlr : (row s 0 (lenSum ls ss k)).length = (putL ls ss k).length := by rw [row_len, putL_len]
    rw [List.append_assoc, List.append_assoc] at hT
    have h3 := (List.append_inj hT hlr).2
    have h4 := (List.append_inj h3 (by rw [row_len]; unfold symBits1; rw [nbits_len])).1
    rw [h4]
    unfold symBits1
    exact num_nbits _ _ (cdF_lt hok _ (by omega))
end Go.Proofs.Ytaaahmfkdiogkaa
namespace Go.Proofs.Ytaaahmfkdiogkaa
set_option linter.unusedVariables false
set_option linter.unusedSimpArgs false
open Go.RowKit

theorem quiet_add_l {P : Program} {f : FuncId} {args : Array Value} {w : World} {a n : Nat} {v : Value}
    (h : Calls P f args (w.drewN (a + n)) fun e w' => e = .returned v ∧ w.drewN (a + n) = w') :
    Calls P f args (w.drewN (a + n)) fun e w'' => e = .returned v ∧ ∃ m, w'' = w.drewN (a + m) :=
  h.mono fun _ _ ⟨he, hm⟩ => ⟨he, n, hm.symm⟩
theorem quiet_l {P : Program} {f : FuncId} {args : Array Value} {w : World} {n : Nat} {v : Value}
    (h : Calls P f args (w.drewN n) fun e w' => e = .returned v ∧ w.drewN n = w') : Calls P f args (w.drewN n) fun e w'' => e = .returned v ∧ ∃ m, w'' = w.drewN m :=
  h.mono fun _ _ ⟨he, hm⟩ => ⟨he, n, hm.symm⟩

set_option maxHeartbeats 1000000 in
set_option maxRecDepth 100000 in
theorem l1get_yes (s : ByteArray) (at0 n0 b : Nat) (T : TypeId) (w : World) (hs : s.size ≤ 1048576) (hn : n0 ≤ 32) (hl : at0 + n0 ≤ 8 * s.size)
    (hb : Has w b T #[.string s, .int .i64 at0]) :
    Calls Try.prog 109 #[.pointer (some ⟨b, 0, none⟩), .int .i64 n0] w fun e w' =>
      e = .returned (.int .i64 (num (row s at0 n0))) ∧ Has w' b T #[.string s, .int .i64 ((at0 + n0 : Nat) : Int)] ∧ Only b w w' := by
  have c0 := hb.cell 0
  have c1 := hb.cell 1
  simp at c0 c1
  have hx : ¬ (8 * (s.size : Int) - at0 < n0) := by omega
  go_enter Try.func109, Try.ntmps109
  go_wp2
  go_quiet (fail)
  go_wp2
  go_loopw [5, 6] (fun v i wr => ∃ k : Nat, k ≤ n0 ∧ i = .int .i64 k ∧ v = .int .i64 (num (row s at0 k)) ∧ Has wr b T #[.string s, .int .i64 at0] ∧ Only b w wr) (fun _ i _ => n0 - (intOf i).toNat)
  case atStart => exact ⟨0, Nat.zero_le _, rfl, rfl, hb.drewN _, (Only.refl _ _).drewN _⟩
  case round =>
    obtain ⟨k, hk, rfl, rfl, hB, hO⟩ := hrel
    clear c0 c1
    have c0 := hB.cell 0
    have c1 := hB.cell 1
    have f1 := hB.free 1
    simp at c0 c1
    by_cases hlt : k < n0
    · have hv : num (row s at0 k) < 2 ^ 32 := Nat.lt_of_lt_of_le (num_row_lt s at0 k) (Nat.pow_le_pow_right (by omega) (by omega))
      have hbt := bit_lt s (at0 + k)
      have hnx := hidden (num_row_succ s at0 k)
      go_wp2
      have q1 : IntKind.i64.wrap ((at0 : Int) + (k : Int)) = ((at0 + k : Nat) : Int) := by rw [← Int.natCast_add]; exact wrap_i64_n _ (by omega)
      go_quiet ((go_at_call 137; exact quiet_l (l1one_any s (at0 + k) _ (by unfold maxLen; omega) (by omega))))
      go_wp2
      refine ⟨⟨k + 1, by omega, by go_num, ?_, hB.drewN _, hO.drewN _⟩, by simp [intOf]; omega⟩
      rw [hnx.out]; simp
    · have hkn : k = n0 := by omega
      subst hkn
      go_wp2
      go_ret
      refine ⟨rfl, ?_, hO.store (.inl rfl) _⟩
      have := hB.store 1 (.int .i64 (↑at0 + ↑k))
      simpa using this

theorem l1get_no (s : ByteArray) (at0 n0 b : Nat) (T : TypeId) (w : World) (hs : s.size ≤ 1048576) (hn : n0 ≤ 32) (ha : at0 ≤ 8 * s.size) (hl : 8 * s.size < at0 + n0)
    (hb : Has w b T #[.string s, .int .i64 at0]) :
    Calls Try.prog 109 #[.pointer (some ⟨b, 0, none⟩), .int .i64 n0] w fun e w' => e = .returned (.int .i64 (-1)) ∧ Only b w w' := by
  have c0 := hb.cell 0
  have c1 := hb.cell 1
  simp at c0 c1
  have hx : (8 * (s.size : Int) - at0 < n0) := by omega
  go_enter Try.func109, Try.ntmps109
  go_wp2
  go_quiet (fail)
  go_wp2
  go_ret
  exact ⟨rfl, (Only.refl _ _).drewN _⟩

theorem l1get_none (s : ByteArray) (at0 n0 b : Nat) (T : TypeId) (w : World) (hs : s.size ≤ 1048576) (hn : n0 ≤ 32) (ha : at0 ≤ 8 * s.size) (hl : 8 * s.size < at0 + n0)
    (hb : Has w b T #[.string s, .int .i64 at0]) :
    Calls Try.prog 109 #[.pointer (some ⟨b, 0, none⟩), .int .i64 n0] w fun e w' => e = .returned (.int .i64 (-1)) ∧ ∃ nq, w' = w.drewN nq := by
  have c0 := hb.cell 0
  have c1 := hb.cell 1
  simp at c0 c1
  have hx : (8 * (s.size : Int) - at0 < n0) := by omega
  go_enter Try.func109, Try.ntmps109
  go_wp2
  go_quiet (fail)
  go_wp2
  go_ret
  exact ⟨rfl, _, rfl⟩

end Go.Proofs.Ytaaahmfkdiogkaa
namespace Go.Proofs.Ytaaahmfkdiogkaa
set_option linter.unusedVariables false
set_option linter.unusedSimpArgs false
open Go.RowKit

theorem and255 (n : Int) : 0 ≤ bits BinOp.and IntKind.i64 n 255 ∧ bits BinOp.and IntKind.i64 n 255 ≤ 255 := by
  have h := i64_mask n 8 (by omega)
  have e : bits BinOp.and IntKind.i64 n 255 = n % 256 := by simpa using h
  omega
/-- The code: a row of bytes that came in, below block B. -/
def Code (w : World) (B : Nat) (a : Option Addr) (len cap : Nat) (zs : List Int) : Prop :=
  len ≤ 9223372036854775807 ∧ (∀ n ∈ zs, (Lit.int .u8 n).wf = true) ∧ (0 < len → ∃ b off, a = some ⟨b, off, none⟩ ∧ b < B ∧ ∀ i, i < len → w.cell? ⟨b, off + i, none⟩ = some (.int .u8 (zs.getD i 0)))
theorem Code.keep {w w' : World} {B : Nat} {a : Option Addr} {len cap : Nat} {zs : List Int} (h : Code w B a len cap zs) (hk : ∀ p : Addr, p.block < B → w'.cell? p = w.cell? p) : Code w' B a len cap zs :=
  ⟨h.1, h.2.1, fun h0 => by
    obtain ⟨b, off, e, hb, hc⟩ := h.2.2 h0
    exact ⟨b, off, e, hb, fun i hi => (hk _ hb).trans (hc i hi)⟩⟩
theorem Code.below {w w' : World} {B : Nat} {a : Option Addr} {len cap : Nat} {zs : List Int} (h : Code w B a len cap zs) (hb : Below B w w') : Code w' B a len cap zs := h.keep fun _ hp => hb.cell hp
theorem cell_lt {w : World} {p : Addr} {v : Value} (h : w.cell? p = some v) : p.block < w.heap.size := by
  rcases Nat.lt_or_ge p.block w.heap.size with hl | hl
  · exact hl
  · simp [World.cell?, Array.getElem?_eq_none hl] at h
theorem Code.ofRow {w : World} {a : Option Addr} {len cap : Nat} {zs : List Int} (h : IsRow .u8 w a len cap zs) : Code w w.heap.size a len cap zs := by
  rcases h with ⟨rfl, rfl, rfl, rfl⟩ | ⟨x, rfl, hl, hm, hz, hc, hwz⟩
  · exact ⟨by omega, by simp, fun h => by omega⟩
  · refine ⟨by unfold maxLen at hm; omega, hwz, fun h0 => ?_⟩
    have h1 := hc 0 (by omega)
    obtain ⟨b, off, spot⟩ := x
    have hspot : spot = none := by simpa [Addr.add] using World.cell?_spot h1
    subst hspot
    refine ⟨b, off, rfl, ?_, fun i hi => ?_⟩
    · have := cell_lt h1
      simpa [Addr.add] using this
    · have := hc i (by omega)
      by_cases e : i = 0
      · subst e; simpa [Addr.add] using this
      · simpa [Addr.add, e] using this

/-- Block g is a cursor over a code that lies below block B. -/
def Cur (w : World) (g B : Nat) : Prop :=
  B ≤ g ∧ ∃ (a : Option Addr) (len cap : Nat) (zs : List Int) (i : Nat) (h : Int), Has w g 148 #[.slice a len cap, .int .i64 i, .int .i64 h] ∧ i ≤ len ∧ Code w B a len cap zs
theorem Cur.lt {w : World} {g B : Nat} (h : Cur w g B) : g < w.heap.size := by
  obtain ⟨_, _, _, _, _, _, _, hB, _⟩ := h; exact hB.lt
theorem Cur.below {w w' : World} {g B B' : Nat} (h : Cur w g B) (hb : Below B' w w') (hg : g < B') : Cur w' g B := by
  obtain ⟨h0, a, len, cap, zs, i, hh, hB, hi, hc⟩ := h
  exact ⟨h0, a, len, cap, zs, i, hh, hB.below hb hg, hi, hc.below (hb.mono (by omega))⟩

theorem Only.trans_ {g : Nat} {a b c : World} (h : Only g a b) (k : Only g b c) : Only g a c :=
  ⟨k.os.trans h.os, k.tape.trans h.tape, k.output.trans h.output, Nat.le_trans h.size k.size, fun i hi hne => (k.block i (Nat.lt_of_lt_of_le hi h.size) hne).trans (h.block i hi hne)⟩
set_option maxRecDepth 100000 in
set_option maxHeartbeats 1000000 in
theorem l1Byte_any (g B : Nat) (w : World) (hc : Cur w g B) :
    Calls Try.prog 120 #[.pointer (some ⟨g, 0, none⟩)] w fun e w' => ∃ x : Int, e = .returned (.int .i64 x) ∧ 0 ≤ x ∧ x ≤ 255 ∧ Cur w' g B ∧ Only g w w' := by
  obtain ⟨hBg, a, len, cap, zs, i, h, hB, hi, hcode⟩ := hc
  have c0 := hB.cell 0
  have c1 := hB.cell 1
  have c2 := hB.cell 2
  have f1 := hB.free 1
  have f2 := hB.free 2
  simp at c0 c1 c2
  by_cases hlt : i < len
  · obtain ⟨b, off, rfl, hb, hcell⟩ := hcode.2.2 (by omega)
    have ci := hcell i hlt
    have hbg : ¬ b = g := by omega
    have hbg' : ¬ g = b := by omega
    have hl := hcode.1
    go_enter Try.func120, Try.ntmps120
    go_wp2
    go_quiet (fail)
    go_wp2
    go_quiet (fail)
    go_wp2
    go_quiet (fail)
    go_wp2
    go_ret
    refine ⟨_, rfl, (and255 _).1, (and255 _).2, ⟨hBg, some ⟨b, off, none⟩, len, cap, zs, i + 1, wrap64 (wrap64 (h * 6364136223846793005) + 1442695040888963407), ?_, by omega, ?_⟩, ?_⟩
    · have := fun k => ((hB.store 2 (.int .i64 (wrap64 (wrap64 (h * 6364136223846793005) + 1442695040888963407)))).drewN k).store 1 (.int .i64 ((i + 1 : Nat) : Int))
      simpa using this _
    · exact hcode.keep fun p hp => by
        rw [World.cell?_setCell_other _ _ _ _ (by intro e; subst e; simp at hp; omega)]
        show (w.setCell _ _).cell? p = _
        rw [World.cell?_setCell_other _ _ _ _ (by intro e; subst e; simp at hp; omega)]
    · exact (((Only.refl g w).store (p := ⟨g, 2, none⟩) (.inl rfl) _).drewN _).store (p := ⟨g, 1, none⟩) (.inl rfl) _
  · have hie : i = len := by omega
    subst hie
    go_enter Try.func120, Try.ntmps120
    go_wp2
    go_quiet (fail)
    go_wp2
    go_quiet (fail)
    go_wp2
    go_ret
    refine ⟨_, rfl, (and255 _).1, (and255 _).2, ⟨hBg, a, i, cap, zs, i, wrap64 (wrap64 (h * 6364136223846793005) + 1442695040888963407), ?_, by omega, ?_⟩, ?_⟩
    · have := hB.store 2 (.int .i64 (wrap64 (wrap64 (h * 6364136223846793005) + 1442695040888963407)))
      simp at this
      exact (this.drewN _).drewN _
    · exact hcode.keep fun p hp => by
        show (w.setCell _ _).cell? p = _
        rw [World.cell?_setCell_other _ _ _ _ (by intro e; subst e; simp at hp; omega)]
    · exact (((Only.refl g w).store (p := ⟨g, 2, none⟩) (.inl rfl) _).drewN _).drewN _

theorem below_lemma (x n : Int) (hx : 0 ≤ x) (hn : 0 < n) : 0 ≤ x % n ∧ x % n < n := ⟨Int.emod_nonneg _ (by omega), Int.emod_lt_of_pos _ hn⟩
set_option maxHeartbeats 1000000 in
set_option maxRecDepth 100000 in
theorem l1Below_any (g B : Nat) (n : Int) (w : World) (hc : Cur w g B) (hn : n ≤ 4611686018427387904) :
    Calls Try.prog 92 #[.pointer (some ⟨g, 0, none⟩), .int .i64 n] w fun e w' => ∃ r : Int, e = .returned (.int .i64 r) ∧ 0 ≤ r ∧ (0 < n → r < n) ∧ (n ≤ 0 → r = 0) ∧ Cur w' g B ∧ Only g w w' := by
  by_cases h0 : n ≤ 0
  · go_enter Try.func92, Try.ntmps92
    go_wp2
    go_ret
    exact ⟨0, rfl, by omega, fun h => by omega, fun _ => rfl, hc, Only.refl _ _⟩
  · by_cases h1 : n ≤ 256
    · go_enter Try.func92, Try.ntmps92
      go_wp2_with fail
      refine (l1Byte_any g B _ hc).mono ?_
      rintro e w1 ⟨x, rfl, hx0, hx1, hc1, hO⟩
      go_wp2
      go_ret
      have := below_lemma x n hx0 (by omega)
      exact ⟨_, rfl, this.1, fun _ => this.2, fun h => by omega, hc1, hO⟩
    · go_enter Try.func92, Try.ntmps92
      go_wp2_with fail
      refine (l1Byte_any g B _ hc).mono ?_
      rintro e w1 ⟨x, rfl, hx0, hx1, hc1, hO1⟩
      go_wp2_with fail
      refine (l1Byte_any g B _ hc1).mono ?_
      rintro e w2 ⟨y, rfl, hy0, hy1, hc2, hO2⟩
      go_wp2_with fail
      refine (l1Byte_any g B _ hc2).mono ?_
      rintro e w3 ⟨z, rfl, hz0, hz1, hc3, hO3⟩
      go_wp2_with fail
      refine (l1Byte_any g B _ hc3).mono ?_
      rintro e w4 ⟨u, rfl, hu0, hu1, hc4, hO4⟩
      go_wp2
      go_ret
      have := below_lemma (x * 16777216 + y * 65536 + z * 256 + u) n (by omega) (by omega)
      exact ⟨_, rfl, this.1, fun _ => this.2, fun h => by omega, hc4, ((hO1.trans_ hO2).trans_ hO3).trans_ hO4⟩
theorem l1Once_any (g B : Nat) (n : Int) (w : World) (hc : Cur w g B) (hn : n ≤ 4611686018427387904) :
    Calls Try.prog 119 #[.pointer (some ⟨g, 0, none⟩), .int .i64 n] w fun e w' => ∃ b : Bool, e = .returned (.bool b) ∧ Cur w' g B ∧ Only g w w' := by
  go_enter Try.func119, Try.ntmps119
  go_wp2_with fail
  refine (l1Below_any g B n _ hc hn).mono ?_
  rintro e w1 ⟨x, rfl, _, _, _, hc1, hO⟩
  go_wp2
  go_ret
  exact ⟨_, rfl, hc1, hO⟩

set_option maxRecDepth 100000 in
set_option maxHeartbeats 1000000 in
theorem l1New_any (a : Option Addr) (len cap : Nat) (zs : List Int) (w : World) (hcode : Code w w.heap.size a len cap zs) :
    Calls Try.prog 89 #[.slice a len cap] w fun e w' => ∃ g, e = .returned (.pointer (some ⟨g, 0, none⟩)) ∧ Cur w' g w.heap.size ∧ Below w.heap.size w w' := by
  have hl := hcode.1
  go_enter Try.func89, Try.ntmps89
  go_wp2
  go_loop [3, 4] (fun h i => ∃ (k : Nat) (v : Int), k ≤ len ∧ i = .int .i64 k ∧ h = .int .i64 v) (fun _ i => len - (intOf i).toNat)
  case atStart => exact ⟨0, _, Nat.zero_le _, rfl, rfl⟩
  case round =>
    obtain ⟨k, v, hk, rfl, rfl⟩ := hrel
    by_cases hlt : k < len ∧ k < 4000
    · obtain ⟨h1, h2⟩ := hlt
      obtain ⟨b, off, rfl, hb, hcell⟩ := hcode.2.2 (by omega)
      have ci := hcell k h1
      clear hcell
      go_wp2
      go_round
      case rel => exact ⟨k + 1, _, by omega, by go_num, rfl⟩
      case measure => simp [intOf]; omega
    · by_cases h1 : k < len
      · have h2 : ¬ k < 4000 := fun h => hlt ⟨h1, h⟩
        clear hlt
        go_wp2
        go_ret
        exact ⟨w.heap.size, rfl, ⟨Nat.le_refl _, a, len, cap, zs, 0, v, Has.fresh _ _ _, Nat.zero_le _, hcode.below ((Below.refl _ _).alloc (Nat.le_refl _) _)⟩, (Below.refl _ _).alloc (Nat.le_refl _) _⟩
      · clear hlt
        go_wp2
        go_ret
        exact ⟨w.heap.size, rfl, ⟨Nat.le_refl _, a, len, cap, zs, 0, v, Has.fresh _ _ _, Nat.zero_le _, hcode.below ((Below.refl _ _).alloc (Nat.le_refl _) _)⟩, (Below.refl _ _).alloc (Nat.le_refl _) _⟩
end Go.Proofs.Ytaaahmfkdiogkaa
namespace Go.Proofs.Ytaaahmfkdiogkaa
set_option linter.unusedVariables false
set_option linter.unusedSimpArgs false
open Go.RowKit

theorem sameInts_any (a a2 : Option Addr) (cap cap2 B : Nat) (zs ys : List Int) (w : World) (hz : Ints w B a zs) (hy : Ints w B a2 ys) :
    Calls Try.prog 47 #[.slice a zs.length cap, .slice a2 ys.length cap2] w fun e w' => e = .returned (.bool (decide (zs = ys))) ∧ Below w.heap.size w w' := by
  obtain ⟨n, hn⟩ : ∃ n, zs.length = n := ⟨_, rfl⟩
  obtain ⟨m, hm⟩ : ∃ m, ys.length = m := ⟨_, rfl⟩
  have HN := hidden hn
  have HM := hidden hm
  have HZ := hidden hz
  have HY := hidden hy
  have hl := hz.1
  have hl2 := hy.1
  rw [hn] at hl ⊢
  rw [hm] at hl2 ⊢
  obtain ⟨r, hr⟩ : ∃ r, decide (zs = ys) = r := ⟨_, rfl⟩
  rw [hr]
  have HR := hidden hr
  clear hn hm hz hy hr
  by_cases hnm : n = m
  · subst hnm
    have hne : ((n : Int) != (n : Int)) = false := by simp
    go_enter Try.func47, Try.ntmps47
    go_wp2
    go_loopw [5] (fun si wr => ∃ k nq : Nat, k ≤ n ∧ si = .int .i64 k ∧ Hid (∀ j, j < k → zs.getD j 0 = ys.getD j 0) ∧ wr = w.drewN nq) (fun si _ => n - (intOf si).toNat)
    case atStart => exact ⟨0, 0, Nat.zero_le _, rfl, hidden (fun j hj => by omega), rfl⟩
    case round =>
      obtain ⟨k, nq, hk, rfl, HE, rfl⟩ := hrel
      by_cases hlt : k < n
      · obtain ⟨b, off, rfl, hb, hc⟩ := HZ.out.2.2 (by rw [HN.out]; omega)
        obtain ⟨b2, off2, rfl, hb2, hc2⟩ := HY.out.2.2 (by rw [HM.out]; omega)
        have ck := hc k (by rw [HN.out]; exact hlt)
        have ck2 := hc2 k (by rw [HM.out]; exact hlt)
        obtain ⟨x, hx⟩ : ∃ x, zs.getD k 0 = x := ⟨_, rfl⟩
        obtain ⟨y, hy⟩ : ∃ y, ys.getD k 0 = y := ⟨_, rfl⟩
        rw [hx] at ck
        rw [hy] at ck2
        have HX := hidden hx
        have HYy := hidden hy
        clear hx hy hc hc2
        by_cases hxy : x = y
        · have hxb : (x != y) = false := by simp [hxy]
          have HE2 : Hid (∀ j, j < k + 1 → zs.getD j 0 = ys.getD j 0) := hidden (fun j hj => by
            rcases Nat.lt_or_ge j k with h | h
            · exact HE.out j h
            · rw [show j = k by omega, HX.out, HYy.out, hxy])
          clear hxy
          go_wp2
          go_quiet (fail)
          go_wp2
          exact ⟨⟨k + 1, _, by omega, by go_num, HE2, rfl⟩, by simp [intOf]; omega⟩
        · have hxb : (x != y) = true := by simp [hxy]
          have HF : Hid (r = false) := hidden (by
            rw [← HR.out, decide_eq_false_iff_not]
            intro e
            exact hxy (by rw [← HX.out, ← HYy.out, e]))
          clear hxy
          go_wp2
          go_quiet (fail)
          go_wp2
          go_ret
          exact ⟨ret_bool HF.out.symm, bel_drewN (bel_drewN (Below.refl _ _) _) _⟩
      · have HF : Hid (r = true) := hidden (by
          rw [← HR.out, decide_eq_true_eq]
          apply List.ext_getElem (by rw [HN.out, HM.out])
          intro j h1 h2
          have := HE.out j (by rw [HN.out] at h1; omega)
          simpa [List.getD_eq_getElem?_getD, h1, h2] using this)
        go_wp2
        go_ret
        exact ⟨ret_bool HF.out.symm, bel_drewN (Below.refl _ _) _⟩
  · have hne : ((n : Int) != (m : Int)) = true := by simp; omega
    have HF : Hid (r = false) := hidden (by
      rw [← HR.out, decide_eq_false_iff_not]
      intro e
      have := congrArg List.length e
      rw [HN.out, HM.out] at this
      exact hnm this)
    clear hnm
    go_enter Try.func47, Try.ntmps47
    go_wp2
    go_ret
    exact ⟨ret_bool HF.out.symm, Below.refl _ _⟩


theorem Ints.lit (w : World) (cs : List Int) (hm : cs.length ≤ 140737488355328) (hr : ∀ x ∈ cs, -9223372036854775808 ≤ x ∧ x ≤ 9223372036854775807) : Ints (w.alloc (.cells (intsV cs).toArray 3)) (w.heap.size + 1) (some ⟨w.heap.size, 0, none⟩) cs := by
  refine ⟨hm, hr, fun h0 => ⟨w.heap.size, 0, rfl, by omega, fun i hi => ?_⟩⟩
  have h := (Has.fresh w 3 (intsV cs).toArray).cell i
  rw [Nat.zero_add]
  refine h.trans ?_
  rw [List.getElem?_toArray]
  exact intsV_get cs i hi
end Go.Proofs.Ytaaahmfkdiogkaa
namespace Go.Proofs.Ytaaahmfkdiogkaa
set_option linter.unusedVariables false
set_option linter.unusedSimpArgs false
open Go.RowKit

theorem l1Size_any (a : Option Addr) (len cap : Nat) (m : Int) (w : World) (hl : len ≤ 9223372036854775807) (h0 : 0 ≤ m) (h1 : m ≤ 1000) :
    Calls Try.prog 91 #[.slice a len cap, .int .i64 m] w fun e w' => ∃ x : Int, e = .returned (.int .i64 x) ∧ 0 ≤ x ∧ x ≤ m ∧ w = w' := by
  by_cases h : m < 2 + (len : Int) / 20
  · go_enter Try.func91, Try.ntmps91
    go_wp2
    go_ret
    exact ⟨m, rfl, by omega, by omega, rfl⟩
  · go_enter Try.func91, Try.ntmps91
    go_wp2
    go_ret
    exact ⟨_, rfl, by omega, by omega, rfl⟩

end Go.Proofs.Ytaaahmfkdiogkaa
namespace Go.Proofs.Ytaaahmfkdiogkaa
set_option linter.unusedVariables false
set_option linter.unusedSimpArgs false
open Go.RowKit

def symB (zs : List Int) (lo hi : Int) : Bool := decide (1 ≤ zs.length ∧ zs.length ≤ 260 ∧ ∀ k, k < zs.length → lo ≤ zs.getD k 0 ∧ zs.getD k 0 ≤ hi)
theorem symB_iff (zs : List Int) (lo hi : Int) : symB zs lo hi = true ↔ 1 ≤ zs.length ∧ zs.length ≤ 260 ∧ ∀ k, k < zs.length → lo ≤ zs.getD k 0 ∧ zs.getD k 0 ≤ hi := by simp [symB]
theorem symB_no {zs : List Int} {lo hi : Int} (h : ¬ (1 ≤ zs.length ∧ zs.length ≤ 260 ∧ ∀ k, k < zs.length → lo ≤ zs.getD k 0 ∧ zs.getD k 0 ≤ hi)) : symB zs lo hi = false := by
  rw [Bool.eq_false_iff, Ne, symB_iff]; exact h
set_option maxHeartbeats 1000000 in
set_option maxRecDepth 100000 in
theorem symsIn_any (a : Option Addr) (cap B : Nat) (zs : List Int) (lo hi : Int) (w : World) (hz : Ints w B a zs) :
    Calls Try.prog 133 #[.slice a zs.length cap, .int .i64 lo, .int .i64 hi] w fun e w' => e = .returned (.bool (symB zs lo hi)) ∧ w' = w := by
  obtain ⟨n, hn⟩ : ∃ n, zs.length = n := ⟨_, rfl⟩
  have hN := hidden hn
  have hl := hz.1
  rw [hn] at hl ⊢
  by_cases h1 : n < 1
  · rw [symB_no (by rw [hn]; omega)]
    go_enter Try.func133, Try.ntmps133
    go_wp2
    go_ret
    exact ⟨rfl, rfl⟩
  · by_cases h2 : 260 < n
    · rw [symB_no (by rw [hn]; omega)]
      go_enter Try.func133, Try.ntmps133
      go_wp2
      go_ret
      exact ⟨rfl, rfl⟩
    · obtain ⟨b, off, rfl, hb, hc⟩ := hz.2.2 (by omega)
      have HC := hidden hc
      clear hc hn
      go_enter Try.func133, Try.ntmps133
      go_wp2
      go_loop [19] (fun i => ∃ k : Nat, k ≤ n ∧ i = .int .i64 k ∧ Hid (∀ j, j < k → lo ≤ zs.getD j 0 ∧ zs.getD j 0 ≤ hi)) (fun i => n - (intOf i).toNat)
      case atStart => exact ⟨0, by omega, rfl, hidden fun j hj => by omega⟩
      case round =>
        obtain ⟨k, hk, rfl, H⟩ := hrel
        by_cases hlt : k < n
        · have ck := HC.out k (by rw [hN.out]; exact hlt)
          obtain ⟨x, hx⟩ : ∃ x, zs.getD k 0 = x := ⟨_, rfl⟩
          rw [hx] at ck
          have HX := hidden hx
          clear hx
          by_cases c1 : x < lo
          · have HF : Hid (symB zs lo hi = false) := hidden (symB_no fun g => by have := g.2.2 k (by rw [hN.out]; exact hlt); rw [HX.out] at this; omega)
            go_wp2
            go_ret
            exact ⟨ret_bool HF.out.symm, rfl⟩
          · by_cases c2 : hi < x
            · have HF : Hid (symB zs lo hi = false) := hidden (symB_no fun g => by have := g.2.2 k (by rw [hN.out]; exact hlt); rw [HX.out] at this; omega)
              go_wp2
              go_ret
              exact ⟨ret_bool HF.out.symm, rfl⟩
            · go_wp2
              go_round
              case rel => exact ⟨k + 1, by omega, by go_num, hidden fun j hj => by
                rcases Nat.lt_or_ge j k with g | g
                · exact H.out j g
                · obtain rfl : j = k := by omega
                  rw [HX.out]; omega⟩
              case measure => simp [intOf]; omega
        · have HF : Hid (symB zs lo hi = true) := hidden (by rw [symB_iff, hN.out]; exact ⟨by omega, by omega, fun j hj => H.out j (by omega)⟩)
          go_wp2
          go_ret
          exact ⟨ret_bool HF.out.symm, rfl⟩
set_option maxHeartbeats 1000000 in
set_option maxRecDepth 100000 in
theorem implKraft_any (a : Option Addr) (cap B : Nat) (zs : List Int) (w : World) (hz : Ints w B a zs) :
    Calls Try.prog 105 #[.slice a zs.length cap] w fun e w' => e = .returned (.int .i64 (kraftI zs)) ∧ w' = w := by
  have K := hidden (symsIn_any a cap B zs 1 20 w hz)
  obtain ⟨n, hn⟩ : ∃ n, zs.length = n := ⟨_, rfl⟩
  have hN := hidden hn
  have hl := hz.1
  rw [hn] at hl K ⊢
  by_cases hr : symB zs 1 20 = true
  · have hrr := (symB_iff zs 1 20).1 hr
    rw [hr] at K
    have HR := hidden hrr
    have h1 : 1 ≤ n := by rw [← hn]; exact hrr.1
    have h2 : n ≤ 260 := by rw [← hn]; exact hrr.2.1
    obtain ⟨b, off, rfl, hb, hc⟩ := hz.2.2 (by omega)
    have HC := hidden hc
    clear hc hn hr hrr
    go_enter Try.func105, Try.ntmps105
    go_wp2_with fail
    refine K.out.mono ?_
    rintro e w' ⟨rfl, rfl⟩
    go_wp2
    go_loop [3, 11] (fun v i => ∃ k q : Nat, k ≤ n ∧ i = .int .i64 k ∧ v = .int .i64 q ∧ Hid (q = kSum zs k) ∧ q ≤ 1048576 * k) (fun _ i => n - (intOf i).toNat)
    case atStart => exact ⟨0, 0, by omega, rfl, rfl, hidden rfl, by omega⟩
    case round =>
      obtain ⟨k, q, hk, rfl, rfl, HQ, hq⟩ := hrel
      by_cases hlt : k < n
      · have ck := HC.out k (by rw [hN.out]; exact hlt)
        have hxr := HR.out.2.2 k (by rw [hN.out]; exact hlt)
        obtain ⟨x, hx⟩ : ∃ x, zs.getD k 0 = x := ⟨_, rfl⟩
        rw [hx] at ck hxr
        have HX := hidden hx
        clear hx
        obtain ⟨d, hd⟩ : ∃ d : Nat, (20 : Int) - x = d := ⟨(20 - x).toNat, by omega⟩
        have hd19 : d ≤ 19 := by omega
        have h2d : 2 ^ d ≤ 2 ^ 19 := Nat.pow_le_pow_right (by omega) hd19
        have HD : Hid (20 - (zs.getD k 0).toNat = d) := hidden (by rw [HX.out]; omega)
        have hwd : wrap64 (2 ^ d) = ((2 ^ d : Nat) : Int) := by rw [show ((2 : Int) ^ d) = ((2 ^ d : Nat) : Int) by simp]; exact wrap64_n _ (by omega)
        obtain ⟨p, hp⟩ : ∃ p, 2 ^ d = p := ⟨_, rfl⟩
        rw [hp] at hwd h2d
        have HP := hidden hp
        clear hp
        go_wp2
        go_round
        case rel => exact ⟨k + 1, q + p, by omega, by go_num, by go_num, hidden (by rw [kSum_succ, HQ.out, HD.out, HP.out]), by omega⟩
        case measure => simp [intOf]; omega
      · have HF : Hid (kraftI zs = (q : Int)) := hidden (by
          have e : k = n := by omega
          subst e
          rw [kraftI_yes HR.out, hN.out, HQ.out])
        go_wp2
        go_ret
        exact ⟨ret_int HF.out.symm, rfl⟩
  · have hf : symB zs 1 20 = false := by simpa using hr
    rw [hf] at K
    rw [kraftI_no (fun g => hr ((symB_iff zs 1 20).2 g))]
    go_enter Try.func105, Try.ntmps105
    go_wp2_with fail
    refine K.out.mono ?_
    rintro e w' ⟨rfl, rfl⟩
    go_wp2
    go_ret
    exact ⟨rfl, rfl⟩
theorem implLensOk_any (a : Option Addr) (cap B : Nat) (zs : List Int) (w : World) (hz : Ints w B a zs) :
    Calls Try.prog 64 #[.slice a zs.length cap] w fun e w' => e = .returned (.bool (lOk zs)) ∧ w' = w := by
  have hk := kraftI_range zs
  have HO : Hid (lOk zs = decide (0 ≤ kraftI zs ∧ kraftI zs ≤ 1048576)) := hidden rfl
  have HK := hidden (fun W h => implKraft_any a cap B zs W h)
  obtain ⟨x, hx⟩ : ∃ x, kraftI zs = x := ⟨_, rfl⟩
  rw [hx] at hk HO HK
  by_cases h0 : 0 ≤ x
  · go_enter Try.func64, Try.ntmps64
    go_wp2_with fail
    refine (HK.out _ hz).mono ?_
    rintro e w' ⟨rfl, rfl⟩
    go_wp2
    go_ret
    exact ⟨ret_bool (by rw [HO.out]; simp [h0]), rfl⟩
  · go_enter Try.func64, Try.ntmps64
    go_wp2_with fail
    refine (HK.out _ hz).mono ?_
    rintro e w' ⟨rfl, rfl⟩
    go_wp2
    go_ret
    exact ⟨ret_bool (by rw [HO.out]; simp; omega), rfl⟩
end Go.Proofs.Ytaaahmfkdiogkaa
namespace Go.Proofs.Ytaaahmfkdiogkaa
set_option linter.unusedVariables false
set_option linter.unusedSimpArgs false
open Go.RowKit

set_option maxHeartbeats 1000000 in
set_option maxRecDepth 100000 in
theorem take_any (s : ByteArray) (at0 n0 b : Nat) (T : TypeId) (w : World) (hs : s.size ≤ 1048576) (hn : n0 ≤ 32) (hl : at0 + n0 ≤ 8 * s.size)
    (hb : Has w b T #[.string s, .int .i64 at0]) :
    Calls Try.prog 117 #[.pointer (some ⟨b, 0, none⟩), .int .i64 n0] w fun e w' =>
      e = .returned (.int .i64 (num (row s at0 n0))) ∧ Has w' b T #[.string s, .int .i64 ((at0 + n0 : Nat) : Int)] ∧ Only b w w' := by
  go_enter Try.func117, Try.ntmps117
  go_wp2
  go_loopw [1, 5, 6, 7, 8] (fun n v _ _ _ wr => ∃ i p m : Nat, Hid (i + m = n0) ∧ Hid (p = at0 + i) ∧ p + m ≤ 8 * s.size ∧ n = .int .i64 m ∧ v = .int .i64 (num (row s at0 i)) ∧ Has wr b T #[.string s, .int .i64 p] ∧ Only b w wr) (fun n _ _ _ _ _ => (intOf n).toNat)
  case atStart => exact ⟨0, at0, n0, hidden (by omega), hidden rfl, hl, rfl, rfl, hb, Only.refl _ _⟩
  case round =>
    obtain ⟨i, p, m, H1, H2, hpm, rfl, rfl, hB, hO⟩ := hrel
    have c0 := hB.cell 0
    have c1 := hB.cell 1
    have f1 := hB.free 1
    simp at c0 c1
    by_cases hlt : 0 < m
    · have hp8 : p / 8 < s.size := by omega
      have hi8 : 0 ≤ (p : Int) / 8 ∧ (p : Int) / 8 < s.size := by omega
      by_cases hm : m ≤ 8 - p % 8
      · go_wp2
        go_quiet (fail)
        go_wp2
        have hs1 := read_step s at0 i p m H2.out (by have := H1.out; omega) hm hp8
        refine ⟨⟨i + m, p + m, 0, hidden (by have := H1.out; omega), hidden (by have := H2.out; omega), by omega, rfl, ?_, ?_, ?_⟩, ?_⟩
        · rw [hs1]
        · have := (hB.drewN nq).store 1 (.int .i64 (↑p + ↑m))
          simpa using this
        · exact (hO.drewN nq).store (.inl rfl) _
        · simp [intOf]; omega
      · go_wp2
        go_quiet (fail)
        go_wp2
        have hs1 := read_step_all s at0 i p H2.out (by have := H1.out; omega) hp8
        refine ⟨⟨i + (8 - p % 8), p + (8 - p % 8), m - (8 - p % 8), hidden (by have := H1.out; omega), hidden (by have := H2.out; omega), by omega, ?_, ?_, ?_, ?_⟩, ?_⟩
        · rw [show ((m - (8 - p % 8) : Nat) : Int) = (m : Int) - (8 - (p : Int) % 8) by omega]
        · rw [hs1]
        · have := (hB.drewN nq).store 1 (.int .i64 (↑p + (8 - ↑p % 8)))
          rw [show ((p + (8 - p % 8) : Nat) : Int) = (p : Int) + (8 - (p : Int) % 8) by omega]
          simpa using this
        · exact (hO.drewN nq).store (.inl rfl) _
        · simp [intOf]; omega
    · go_wp2
      go_ret
      have hin : i = n0 := by have := H1.out; omega
      have hpn : p = at0 + n0 := by have := H2.out; omega
      subst hin; subst hpn
      exact ⟨rfl, hB, hO⟩
end Go.Proofs.Ytaaahmfkdiogkaa
namespace Go.Proofs.Ytaaahmfkdiogkaa
set_option linter.unusedVariables false
set_option linter.unusedSimpArgs false
open Go.RowKit

theorem implLeft_yes (s : ByteArray) (a : Nat) (w : World) (hs : s.size ≤ 1048576) (hl : a ≤ 8 * s.size) :
    Calls Try.prog 138 #[.agg #[.string s, .int .i64 a]] w fun e w' => e = .returned (.int .i64 (8 * (s.size : Int) - a)) ∧ Below w.heap.size w w' := by
  go_enter Try.func138, Try.ntmps138
  go_wp2_with (go_at_call 75; refine (implRdOk_yes _ _ _ hs hl).mono ?_; rintro e w1 ⟨rfl, hb⟩; obtain ⟨hc, hf⟩ := bcell hb; have hz : w.heap.size < w1.heap.size := by (have := hb.size; simp at this; omega))
  go_ret
  refine ⟨rfl, ?_⟩
  repeat (first | exact Below.refl _ _ | refine Below.alloc ?_ (by (try simp); (try omega)) _ | refine Below.setCell ?_ (by (try simp); (try omega)) _ | refine Below.drew ?_ | refine bel_then (by assumption) (by (try simp); (try omega)) ?_)
theorem implLeft_no (s : ByteArray) (a : Int) (w : World) (hs : s.size ≤ 1048576) (b1 : -9223372036854775808 ≤ a) (b2 : a ≤ 9223372036854775807) (h : ¬ (0 ≤ a ∧ a ≤ 8 * s.size)) :
    Calls Try.prog 138 #[.agg #[.string s, .int .i64 a]] w fun e w' => e = .returned (.int .i64 (-1)) ∧ Below w.heap.size w w' := by
  have h' := hidden h; clear h
  go_enter Try.func138, Try.ntmps138
  go_wp2_with (go_at_call 75; refine (implRdOk_no _ _ _ hs b1 b2 h'.out).mono ?_; rintro e w1 ⟨rfl, hb⟩; obtain ⟨hc, hf⟩ := bcell hb; have hz : w.heap.size < w1.heap.size := by (have := hb.size; simp at this; omega))
  go_ret
  refine ⟨rfl, ?_⟩
  repeat (first | exact Below.refl _ _ | refine Below.alloc ?_ (by (try simp); (try omega)) _ | refine Below.setCell ?_ (by (try simp); (try omega)) _ | refine Below.drew ?_ | refine bel_then (by assumption) (by (try simp); (try omega)) ?_)

end Go.Proofs.Ytaaahmfkdiogkaa
