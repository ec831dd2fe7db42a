/- Chapter 3, the program: Kraft sums, the check of lengths. -/
import Derived.Test.YtdeikdlbgjpooaaC3
import Derived.RegionTactic
import Derived.ChangeAlike
import Derived.Deep.QuietTactic
import Derived.BigQuiet
import Derived.OwnWalk
namespace Go.Proofs.Ytdeikdlbgjpooaa
set_option linter.unusedVariables false
set_option linter.unusedSimpArgs false
open Go.RowKit

def symB (zs : List Int) (lo hi : Int) : Bool := decide (1 ≤ zs.length ∧ zs.length ≤ 260 ∧ ∀ k, k < zs.length → lo ≤ zs.getD k 0 ∧ zs.getD k 0 ≤ hi)
theorem symB_iff (zs : List Int) (lo hi : Int) : symB zs lo hi = true ↔ 1 ≤ zs.length ∧ zs.length ≤ 260 ∧ ∀ k, k < zs.length → lo ≤ zs.getD k 0 ∧ zs.getD k 0 ≤ hi := by simp [symB]
theorem symB_no {zs : List Int} {lo hi : Int} (h : ¬ (1 ≤ zs.length ∧ zs.length ≤ 260 ∧ ∀ k, k < zs.length → lo ≤ zs.getD k 0 ∧ zs.getD k 0 ≤ hi)) : symB zs lo hi = false := by
  rw [Bool.eq_false_iff, Ne, symB_iff]; exact h
set_option maxHeartbeats 1000000 in
set_option maxRecDepth 100000 in
theorem symsIn_any (a : Option Addr) (cap B : Nat) (zs : List Int) (lo hi : Int) (w : World) (hz : Ints w B a zs) :
    Calls Try.prog 37 #[.slice a zs.length cap, .int .i64 lo, .int .i64 hi] w fun e w' => e = .returned (.bool (symB zs lo hi)) ∧ w' = w := by
  obtain ⟨n, hn⟩ : ∃ n, zs.length = n := ⟨_, rfl⟩
  have hN := hidden hn
  have hl := hz.1
  rw [hn] at hl ⊢
  by_cases h1 : n < 1
  · rw [symB_no (by rw [hn]; omega)]
    go_enter Try.func37, Try.ntmps37
    go_wp2
    go_ret
    exact ⟨rfl, rfl⟩
  · by_cases h2 : 260 < n
    · rw [symB_no (by rw [hn]; omega)]
      go_enter Try.func37, Try.ntmps37
      go_wp2
      go_ret
      exact ⟨rfl, rfl⟩
    · obtain ⟨b, off, rfl, hb, hc⟩ := hz.2.2 (by omega)
      have HC := hidden hc
      clear hc hn
      go_enter Try.func37, Try.ntmps37
      go_wp2
      go_loop [19] (fun i => ∃ k : Nat, k ≤ n ∧ i = .int .i64 k ∧ Hid (∀ j, j < k → lo ≤ zs.getD j 0 ∧ zs.getD j 0 ≤ hi)) (fun i => n - (intOf i).toNat)
      case atStart => exact ⟨0, by omega, rfl, hidden fun j hj => by omega⟩
      case round =>
        obtain ⟨k, hk, rfl, H⟩ := hrel
        by_cases hlt : k < n
        · have ck := HC.out k (by rw [hN.out]; exact hlt)
          obtain ⟨x, hx⟩ : ∃ x, zs.getD k 0 = x := ⟨_, rfl⟩
          rw [hx] at ck
          have HX := hidden hx
          clear hx
          by_cases c1 : x < lo
          · have HF : Hid (symB zs lo hi = false) := hidden (symB_no fun g => by have := g.2.2 k (by rw [hN.out]; exact hlt); rw [HX.out] at this; omega)
            go_wp2
            go_ret
            exact ⟨ret_bool HF.out.symm, rfl⟩
          · by_cases c2 : hi < x
            · have HF : Hid (symB zs lo hi = false) := hidden (symB_no fun g => by have := g.2.2 k (by rw [hN.out]; exact hlt); rw [HX.out] at this; omega)
              go_wp2
              go_ret
              exact ⟨ret_bool HF.out.symm, rfl⟩
            · go_wp2
              go_round
              case rel => exact ⟨k + 1, by omega, by go_num, hidden fun j hj => by
                rcases Nat.lt_or_ge j k with g | g
                · exact H.out j g
                · obtain rfl : j = k := by omega
                  rw [HX.out]; omega⟩
              case measure => simp [intOf]; omega
        · have HF : Hid (symB zs lo hi = true) := hidden (by rw [symB_iff, hN.out]; exact ⟨by omega, by omega, fun j hj => H.out j (by omega)⟩)
          go_wp2
          go_ret
          exact ⟨ret_bool HF.out.symm, rfl⟩
set_option maxHeartbeats 1000000 in
set_option maxRecDepth 100000 in
theorem implKraft_any (a : Option Addr) (cap B : Nat) (zs : List Int) (w : World) (hz : Ints w B a zs) :
    Calls Try.prog 32 #[.slice a zs.length cap] w fun e w' => e = .returned (.int .i64 (kraftI zs)) ∧ w' = w := by
  have K := hidden (symsIn_any a cap B zs 1 20 w hz)
  obtain ⟨n, hn⟩ : ∃ n, zs.length = n := ⟨_, rfl⟩
  have hN := hidden hn
  have hl := hz.1
  rw [hn] at hl K ⊢
  by_cases hr : symB zs 1 20 = true
  · have hrr := (symB_iff zs 1 20).1 hr
    rw [hr] at K
    have HR := hidden hrr
    have h1 : 1 ≤ n := by rw [← hn]; exact hrr.1
    have h2 : n ≤ 260 := by rw [← hn]; exact hrr.2.1
    obtain ⟨b, off, rfl, hb, hc⟩ := hz.2.2 (by omega)
    have HC := hidden hc
    clear hc hn hr hrr
    go_enter Try.func32, Try.ntmps32
    go_wp2_with fail
    refine K.out.mono ?_
    rintro e w' ⟨rfl, rfl⟩
    go_wp2
    go_loop [3, 11] (fun v i => ∃ k q : Nat, k ≤ n ∧ i = .int .i64 k ∧ v = .int .i64 q ∧ Hid (q = kSum zs k) ∧ q ≤ 1048576 * k) (fun _ i => n - (intOf i).toNat)
    case atStart => exact ⟨0, 0, by omega, rfl, rfl, hidden rfl, by omega⟩
    case round =>
      obtain ⟨k, q, hk, rfl, rfl, HQ, hq⟩ := hrel
      by_cases hlt : k < n
      · have ck := HC.out k (by rw [hN.out]; exact hlt)
        have hxr := HR.out.2.2 k (by rw [hN.out]; exact hlt)
        obtain ⟨x, hx⟩ : ∃ x, zs.getD k 0 = x := ⟨_, rfl⟩
        rw [hx] at ck hxr
        have HX := hidden hx
        clear hx
        obtain ⟨d, hd⟩ : ∃ d : Nat, (20 : Int) - x = d := ⟨(20 - x).toNat, by omega⟩
        have hd19 : d ≤ 19 := by omega
        have h2d : 2 ^ d ≤ 2 ^ 19 := Nat.pow_le_pow_right (by omega) hd19
        have HD : Hid (20 - (zs.getD k 0).toNat = d) := hidden (by rw [HX.out]; omega)
        have hwd : wrap64 (2 ^ d) = ((2 ^ d : Nat) : Int) := by rw [show ((2 : Int) ^ d) = ((2 ^ d : Nat) : Int) by simp]; exact wrap64_n _ (by omega)
        obtain ⟨p, hp⟩ : ∃ p, 2 ^ d = p := ⟨_, rfl⟩
        rw [hp] at hwd h2d
        have HP := hidden hp
        clear hp
        go_wp2
        go_round
        case rel => exact ⟨k + 1, q + p, by omega, by go_num, by go_num, hidden (by rw [kSum_succ, HQ.out, HD.out, HP.out]), by omega⟩
        case measure => simp [intOf]; omega
      · have HF : Hid (kraftI zs = (q : Int)) := hidden (by
          have e : k = n := by omega
          subst e
          rw [kraftI_yes HR.out, hN.out, HQ.out])
        go_wp2
        go_ret
        exact ⟨ret_int HF.out.symm, rfl⟩
  · have hf : symB zs 1 20 = false := by simpa using hr
    rw [hf] at K
    rw [kraftI_no (fun g => hr ((symB_iff zs 1 20).2 g))]
    go_enter Try.func32, Try.ntmps32
    go_wp2_with fail
    refine K.out.mono ?_
    rintro e w' ⟨rfl, rfl⟩
    go_wp2
    go_ret
    exact ⟨rfl, rfl⟩
theorem implLensOk_any (a : Option Addr) (cap B : Nat) (zs : List Int) (w : World) (hz : Ints w B a zs) :
    Calls Try.prog 23 #[.slice a zs.length cap] w fun e w' => e = .returned (.bool (lOk zs)) ∧ w' = w := by
  have hk := kraftI_range zs
  have HO : Hid (lOk zs = decide (0 ≤ kraftI zs ∧ kraftI zs ≤ 1048576)) := hidden rfl
  have HK := hidden (fun W h => implKraft_any a cap B zs W h)
  obtain ⟨x, hx⟩ : ∃ x, kraftI zs = x := ⟨_, rfl⟩
  rw [hx] at hk HO HK
  by_cases h0 : 0 ≤ x
  · go_enter Try.func23, Try.ntmps23
    go_wp2_with fail
    refine (HK.out _ hz).mono ?_
    rintro e w' ⟨rfl, rfl⟩
    go_wp2
    go_ret
    exact ⟨ret_bool (by rw [HO.out]; simp [h0]), rfl⟩
  · go_enter Try.func23, Try.ntmps23
    go_wp2_with fail
    refine (HK.out _ hz).mono ?_
    rintro e w' ⟨rfl, rfl⟩
    go_wp2
    go_ret
    exact ⟨ret_bool (by rw [HO.out]; simp; omega), rfl⟩
end Go.Proofs.Ytdeikdlbgjpooaa
