/- Chapter 3: frequencies, Kraft sums, costs: the model. -/
import Derived.Test.YtdeikdlbgjpooaaInts
import Derived.Test.YtdeikdlbgjpooaaMath
import Derived.Test.YtdeikdlbgjpooaaPM
import Derived.RegionTactic
import Derived.ChangeAlike
import Derived.Deep.QuietTactic
import Derived.BigQuiet
namespace Go.Proofs.Ytdeikdlbgjpooaa
set_option linter.unusedVariables false
set_option linter.unusedSimpArgs false
open Go.RowKit

/-- Are they numbers of times? -/
def fOk (zs : List Int) : Bool := decide (1 ≤ zs.length ∧ zs.length ≤ 260 ∧ ∀ k, k < zs.length → 0 ≤ zs.getD k 0 ∧ zs.getD k 0 ≤ 1000000)
theorem fOk_iff (zs : List Int) : fOk zs = true ↔ 1 ≤ zs.length ∧ zs.length ≤ 260 ∧ ∀ k, k < zs.length → 0 ≤ zs.getD k 0 ∧ zs.getD k 0 ≤ 1000000 := by simp [fOk]
theorem fOk_no {zs : List Int} (h : ¬ (1 ≤ zs.length ∧ zs.length ≤ 260 ∧ ∀ k, k < zs.length → 0 ≤ zs.getD k 0 ∧ zs.getD k 0 ≤ 1000000)) : fOk zs = false := by
  rw [Bool.eq_false_iff, Ne, fOk_iff]; exact h

/-- Lengths that a code may have. -/
def lRange (zs : List Int) : Prop := 1 ≤ zs.length ∧ zs.length ≤ 260 ∧ ∀ k, k < zs.length → 1 ≤ zs.getD k 0 ∧ zs.getD k 0 ≤ 20
instance (zs : List Int) : Decidable (lRange zs) := by unfold lRange; exact inferInstance
/-- How much of all codes the first k lengths take. -/
def kSum (zs : List Int) (k : Nat) : Nat := rsum k fun j => 2 ^ (20 - (zs.getD j 0).toNat)
theorem kSum_succ (zs : List Int) (k : Nat) : kSum zs (k + 1) = kSum zs k + 2 ^ (20 - (zs.getD k 0).toNat) := rfl
theorem kSum_le (zs : List Int) (k : Nat) : kSum zs k ≤ 1048576 * k := by
  induction k with
  | zero => exact Nat.le_refl _
  | succ k ih =>
    rw [kSum_succ]
    have : 2 ^ (20 - (zs.getD k 0).toNat) ≤ 2 ^ 20 := Nat.pow_le_pow_right (by omega) (by omega)
    omega
def kraftI (zs : List Int) : Int := if lRange zs then (kSum zs zs.length : Int) else -1
theorem kraftI_yes {zs : List Int} (h : lRange zs) : kraftI zs = (kSum zs zs.length : Int) := by unfold kraftI; rw [if_pos h]
theorem kraftI_no {zs : List Int} (h : ¬ lRange zs) : kraftI zs = -1 := by unfold kraftI; rw [if_neg h]
set_option maxHeartbeats 1000000 in
set_option maxRecDepth 100000 in
theorem specKraft_any (a : Option Addr) (cap B : Nat) (zs : List Int) (w : World) (hz : Ints w B a zs) :
    Calls Try.prog 30 #[.slice a zs.length cap] w fun e w' => e = .returned (.int .i64 (kraftI zs)) ∧ w' = w := by
  obtain ⟨n, hn⟩ : ∃ n, zs.length = n := ⟨_, rfl⟩
  have hN := hidden hn
  have hl := hz.1
  rw [hn] at hl ⊢
  by_cases h1 : n < 1
  · rw [kraftI_no (fun g => by have := g.1; omega)]
    go_enter Try.func30, Try.ntmps30
    go_wp2
    go_ret
    exact ⟨rfl, rfl⟩
  · by_cases h2 : 260 < n
    · rw [kraftI_no (fun g => by have := g.2.1; omega)]
      go_enter Try.func30, Try.ntmps30
      go_wp2
      go_ret
      exact ⟨rfl, rfl⟩
    · obtain ⟨b, off, rfl, hb, hc⟩ := hz.2.2 (by omega)
      have HC := hidden hc
      clear hc hn
      go_enter Try.func30, Try.ntmps30
      go_wp2
      go_loop [3, 4] (fun v i => ∃ k q : Nat, k ≤ n ∧ i = .int .i64 k ∧ v = .int .i64 q ∧ Hid (q = kSum zs k) ∧ q ≤ 1048576 * k ∧ Hid (∀ j, j < k → 1 ≤ zs.getD j 0 ∧ zs.getD j 0 ≤ 20)) (fun _ i => n - (intOf i).toNat)
      case atStart => exact ⟨0, 0, by omega, rfl, rfl, hidden rfl, by omega, hidden fun j hj => by omega⟩
      case round =>
        obtain ⟨k, q, hk, rfl, rfl, HQ, hq, H⟩ := hrel
        by_cases hlt : k < n
        · have ck := HC.out k (by rw [hN.out]; exact hlt)
          obtain ⟨x, hx⟩ : ∃ x, zs.getD k 0 = x := ⟨_, rfl⟩
          rw [hx] at ck
          have HX := hidden hx
          clear hx
          by_cases c1 : x < 1
          · have HF : Hid (kraftI zs = -1) := hidden (kraftI_no fun g => by have := g.2.2 k (by rw [hN.out]; exact hlt); rw [HX.out] at this; omega)
            go_wp2
            go_ret
            exact ⟨ret_int HF.out.symm, rfl⟩
          · by_cases c2 : 20 < x
            · have HF : Hid (kraftI zs = -1) := hidden (kraftI_no fun g => by have := g.2.2 k (by rw [hN.out]; exact hlt); rw [HX.out] at this; omega)
              go_wp2
              go_ret
              exact ⟨ret_int HF.out.symm, rfl⟩
            · obtain ⟨d, hd⟩ : ∃ d : Nat, (20 : Int) - x = d := ⟨(20 - x).toNat, by omega⟩
              have hd19 : d ≤ 19 := by omega
              have h2d : 2 ^ d ≤ 2 ^ 19 := Nat.pow_le_pow_right (by omega) hd19
              have HD : Hid (20 - (zs.getD k 0).toNat = d) := hidden (by rw [HX.out]; omega)
              have hwd : wrap64 (2 ^ d) = ((2 ^ d : Nat) : Int) := by rw [show ((2 : Int) ^ d) = ((2 ^ d : Nat) : Int) by simp]; exact wrap64_n _ (by omega)
              obtain ⟨p, hp⟩ : ∃ p, 2 ^ d = p := ⟨_, rfl⟩
              rw [hp] at hwd h2d
              have HP := hidden hp
              clear hp
              go_wp2
              go_round
              case rel => exact ⟨k + 1, q + p, by omega, by go_num, by go_num, hidden (by rw [kSum_succ, HQ.out, HD.out, HP.out]), by omega, hidden fun j hj => by
                rcases Nat.lt_or_ge j k with g | g
                · exact H.out j g
                · obtain rfl : j = k := by omega
                  rw [HX.out]; omega⟩
              case measure => simp [intOf]; omega
        · have HF : Hid (kraftI zs = (q : Int)) := hidden (by
            have e : k = n := by omega
            subst e
            rw [kraftI_yes ⟨by rw [hN.out]; omega, by rw [hN.out]; omega, fun j hj => H.out j (by rw [hN.out] at hj; omega)⟩, hN.out, HQ.out])
          go_wp2
          go_ret
          exact ⟨ret_int HF.out.symm, rfl⟩
/-- Are there codes of such lengths? -/
def lOk (zs : List Int) : Bool := decide (0 ≤ kraftI zs ∧ kraftI zs ≤ 1048576)
theorem kraftI_range (zs : List Int) : -1 ≤ kraftI zs ∧ kraftI zs ≤ 272629760 := by
  by_cases h : lRange zs
  · rw [kraftI_yes h]
    have := kSum_le zs zs.length
    have := h.2.1
    omega
  · rw [kraftI_no h]; omega
theorem specLensOk_any (a : Option Addr) (cap B : Nat) (zs : List Int) (w : World) (hz : Ints w B a zs) :
    Calls Try.prog 20 #[.slice a zs.length cap] w fun e w' => e = .returned (.bool (lOk zs)) ∧ w' = w := by
  have hk := kraftI_range zs
  have HO : Hid (lOk zs = decide (0 ≤ kraftI zs ∧ kraftI zs ≤ 1048576)) := hidden rfl
  have HK := hidden (fun W h => specKraft_any a cap B zs W h)
  obtain ⟨x, hx⟩ : ∃ x, kraftI zs = x := ⟨_, rfl⟩
  rw [hx] at hk HO HK
  by_cases h0 : 0 ≤ x
  · go_enter Try.func20, Try.ntmps20
    go_wp2_with fail
    refine (HK.out _ hz).mono ?_
    rintro e w' ⟨rfl, rfl⟩
    go_wp2
    go_ret
    exact ⟨ret_bool (by rw [HO.out]; simp [h0]), rfl⟩
  · go_enter Try.func20, Try.ntmps20
    go_wp2_with fail
    refine (HK.out _ hz).mono ?_
    rintro e w' ⟨rfl, rfl⟩
    go_wp2
    go_ret
    exact ⟨ret_bool (by rw [HO.out]; simp; omega), rfl⟩

theorem lOk_range {zs : List Int} (h : lOk zs = true) : lRange zs := by
  apply Classical.byContradiction
  intro g
  unfold lOk at h
  rw [kraftI_no g] at h
  simp at h
def cSum (fs ls : List Int) (k : Nat) : Nat := rsum k fun j => (fs.getD j 0).toNat * (ls.getD j 0).toNat
theorem cSum_succ (fs ls : List Int) (k : Nat) : cSum fs ls (k + 1) = cSum fs ls k + (fs.getD k 0).toNat * (ls.getD k 0).toNat := rfl
def costI (fs ls : List Int) : Int := if fOk fs = true ∧ lOk ls = true ∧ fs.length = ls.length then (cSum fs ls fs.length : Int) else -1
theorem costI_yes {fs ls : List Int} (h : fOk fs = true ∧ lOk ls = true ∧ fs.length = ls.length) : costI fs ls = (cSum fs ls fs.length : Int) := by unfold costI; rw [if_pos h]
theorem costI_no {fs ls : List Int} (h : ¬ (fOk fs = true ∧ lOk ls = true ∧ fs.length = ls.length)) : costI fs ls = -1 := by unfold costI; rw [if_neg h]
end Go.Proofs.Ytdeikdlbgjpooaa
