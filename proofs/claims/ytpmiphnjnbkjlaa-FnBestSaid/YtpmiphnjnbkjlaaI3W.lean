/- Chapter 3, the program: frequencies, Kraft sums, costs. -/
import Derived.Test.YtpmiphnjnbkjlaaC3I
import Derived.Test.YtpmiphnjnbkjlaaWEx3
namespace Go.Proofs.Ytpmiphnjnbkjlaa
set_option linter.unusedVariables false
set_option linter.unusedSimpArgs false
open Go.RowKit

def symB (zs : List Int) (lo hi : Int) : Bool := decide (1 ≤ zs.length ∧ zs.length ≤ 260 ∧ ∀ k, k < zs.length → lo ≤ zs.getD k 0 ∧ zs.getD k 0 ≤ hi)
theorem symB_iff (zs : List Int) (lo hi : Int) : symB zs lo hi = true ↔ 1 ≤ zs.length ∧ zs.length ≤ 260 ∧ ∀ k, k < zs.length → lo ≤ zs.getD k 0 ∧ zs.getD k 0 ≤ hi := by simp [symB]
theorem symB_no {zs : List Int} {lo hi : Int} (h : ¬ (1 ≤ zs.length ∧ zs.length ≤ 260 ∧ ∀ k, k < zs.length → lo ≤ zs.getD k 0 ∧ zs.getD k 0 ≤ hi)) : symB zs lo hi = false := by
  rw [Bool.eq_false_iff, Ne, symB_iff]; exact h
set_option maxHeartbeats 1000000 in
theorem symsIn_any (a : Option Addr) (cap B : Nat) (zs : List Int) (lo hi : Int) (w : World) (hz : Ints w B a zs) :
    Calls Try.prog 40 #[.slice a zs.length cap, .int .i64 lo, .int .i64 hi] w fun e w' => e = .returned (.bool (symB zs lo hi)) ∧ w' = w := by
  obtain ⟨n, hn⟩ : ∃ n, zs.length = n := ⟨_, rfl⟩
  have hN := hidden hn
  have hl := hz.1
  rw [hn] at hl ⊢
  by_cases h1 : n < 1
  · rw [symB_no (by rw [hn]; omega)]
    go_enter Try.func40, Try.ntmps40
    go_wp2
    go_ret
    exact ⟨rfl, rfl⟩
  · by_cases h2 : 260 < n
    · rw [symB_no (by rw [hn]; omega)]
      go_enter Try.func40, Try.ntmps40
      go_wp2
      go_ret
      exact ⟨rfl, rfl⟩
    · obtain ⟨b, off, rfl, hb, hc⟩ := hz.2.2 (by omega)
      have HC := hidden hc
      clear hc hn
      go_enter Try.func40, Try.ntmps40
      go_wp2
      go_loop [19] (fun i => ∃ k : Nat, k ≤ n ∧ i = .int .i64 k ∧ Hid (∀ j, j < k → lo ≤ zs.getD j 0 ∧ zs.getD j 0 ≤ hi)) (fun i => n - (intOf i).toNat)
      case atStart => exact ⟨0, by omega, rfl, hidden fun j hj => by omega⟩
      case round =>
        obtain ⟨k, hk, rfl, H⟩ := hrel
        by_cases hlt : k < n
        · have ck := HC.out k (by rw [hN.out]; exact hlt)
          obtain ⟨x, hx⟩ : ∃ x, zs.getD k 0 = x := ⟨_, rfl⟩
          rw [hx] at ck
          have HX := hidden hx
          clear hx
          by_cases c1 : x < lo
          · have HF : Hid (symB zs lo hi = false) := hidden (symB_no fun g => by have := g.2.2 k (by rw [hN.out]; exact hlt); rw [HX.out] at this; omega)
            go_wp2
            go_ret
            exact ⟨ret_bool HF.out.symm, rfl⟩
          · by_cases c2 : hi < x
            · have HF : Hid (symB zs lo hi = false) := hidden (symB_no fun g => by have := g.2.2 k (by rw [hN.out]; exact hlt); rw [HX.out] at this; omega)
              go_wp2
              go_ret
              exact ⟨ret_bool HF.out.symm, rfl⟩
            · go_wp2
              go_round
              case rel => exact ⟨k + 1, by omega, by go_num, hidden fun j hj => by
                rcases Nat.lt_or_ge j k with g | g
                · exact H.out j g
                · obtain rfl : j = k := by omega
                  rw [HX.out]; omega⟩
              case measure => simp [intOf]; omega
        · have HF : Hid (symB zs lo hi = true) := hidden (by rw [symB_iff, hN.out]; exact ⟨by omega, by omega, fun j hj => H.out j (by omega)⟩)
          go_wp2
          go_ret
          exact ⟨ret_bool HF.out.symm, rfl⟩
theorem implFreqsOk_any (a : Option Addr) (cap B : Nat) (zs : List Int) (w : World) (hz : Ints w B a zs) :
    Calls Try.prog 24 #[.slice a zs.length cap] w fun e w' => e = .returned (.bool (fOk zs)) ∧ w' = w := by
  have K := hidden (symsIn_any a cap B zs 0 1000000 w hz)
  rw [show symB zs 0 1000000 = fOk zs from rfl] at K
  go_enter Try.func24, Try.ntmps24
  go_wp2_with fail
  refine K.out.mono ?_
  rintro e w' ⟨rfl, rfl⟩
  go_wp2
  go_ret
  exact ⟨rfl, rfl⟩
set_option maxHeartbeats 1000000 in
theorem implKraft_any (a : Option Addr) (cap B : Nat) (zs : List Int) (w : World) (hz : Ints w B a zs) :
    Calls Try.prog 17 #[.slice a zs.length cap] w fun e w' => e = .returned (.int .i64 (kraftI zs)) ∧ w' = w := by
  have K := hidden (symsIn_any a cap B zs 1 20 w hz)
  obtain ⟨n, hn⟩ : ∃ n, zs.length = n := ⟨_, rfl⟩
  have hN := hidden hn
  have hl := hz.1
  rw [hn] at hl K ⊢
  by_cases hr : symB zs 1 20 = true
  · have hrr := (symB_iff zs 1 20).1 hr
    rw [hr] at K
    have HR := hidden hrr
    have h1 : 1 ≤ n := by rw [← hn]; exact hrr.1
    have h2 : n ≤ 260 := by rw [← hn]; exact hrr.2.1
    obtain ⟨b, off, rfl, hb, hc⟩ := hz.2.2 (by omega)
    have HC := hidden hc
    clear hc hn hr hrr
    go_enter Try.func17, Try.ntmps17
    go_wp2_with fail
    refine K.out.mono ?_
    rintro e w' ⟨rfl, rfl⟩
    go_wp2
    go_loop [3, 11] (fun v i => ∃ k q : Nat, k ≤ n ∧ i = .int .i64 k ∧ v = .int .i64 q ∧ Hid (q = kSum zs k) ∧ q ≤ 1048576 * k) (fun _ i => n - (intOf i).toNat)
    case atStart => exact ⟨0, 0, by omega, rfl, rfl, hidden rfl, by omega⟩
    case round =>
      obtain ⟨k, q, hk, rfl, rfl, HQ, hq⟩ := hrel
      by_cases hlt : k < n
      · have ck := HC.out k (by rw [hN.out]; exact hlt)
        have hxr := HR.out.2.2 k (by rw [hN.out]; exact hlt)
        obtain ⟨x, hx⟩ : ∃ x, zs.getD k 0 = x := ⟨_, rfl⟩
        rw [hx] at ck hxr
        have HX := hidden hx
        clear hx
        obtain ⟨d, hd⟩ : ∃ d : Nat, (20 : Int) - x = d := ⟨(20 - x).toNat, by omega⟩
        have hd19 : d ≤ 19 := by omega
        have h2d : 2 ^ d ≤ 2 ^ 19 := Nat.pow_le_pow_right (by omega) hd19
        have HD : Hid (20 - (zs.getD k 0).toNat = d) := hidden (by rw [HX.out]; omega)
        have hwd : wrap64 (2 ^ d) = ((2 ^ d : Nat) : Int) := by rw [show ((2 : Int) ^ d) = ((2 ^ d : Nat) : Int) by simp]; exact wrap64_n _ (by omega)
        obtain ⟨p, hp⟩ : ∃ p, 2 ^ d = p := ⟨_, rfl⟩
        rw [hp] at hwd h2d
        have HP := hidden hp
        clear hp
        go_wp2
        go_round
        case rel => exact ⟨k + 1, q + p, by omega, by go_num, by go_num, hidden (by rw [kSum_succ, HQ.out, HD.out, HP.out]), by omega⟩
        case measure => simp [intOf]; omega
      · have HF : Hid (kraftI zs = (q : Int)) := hidden (by
          have e : k = n := by omega
          subst e
          rw [kraftI_yes HR.out, hN.out, HQ.out])
        go_wp2
        go_ret
        exact ⟨ret_int HF.out.symm, rfl⟩
  · have hf : symB zs 1 20 = false := by simpa using hr
    rw [hf] at K
    rw [kraftI_no (fun g => hr ((symB_iff zs 1 20).2 g))]
    go_enter Try.func17, Try.ntmps17
    go_wp2_with fail
    refine K.out.mono ?_
    rintro e w' ⟨rfl, rfl⟩
    go_wp2
    go_ret
    exact ⟨rfl, rfl⟩
theorem implLensOk_any (a : Option Addr) (cap B : Nat) (zs : List Int) (w : World) (hz : Ints w B a zs) :
    Calls Try.prog 16 #[.slice a zs.length cap] w fun e w' => e = .returned (.bool (lOk zs)) ∧ w' = w := by
  have hk := kraftI_range zs
  have HO : Hid (lOk zs = decide (0 ≤ kraftI zs ∧ kraftI zs ≤ 1048576)) := hidden rfl
  have HK := hidden (fun W h => implKraft_any a cap B zs W h)
  obtain ⟨x, hx⟩ : ∃ x, kraftI zs = x := ⟨_, rfl⟩
  rw [hx] at hk HO HK
  by_cases h0 : 0 ≤ x
  · go_enter Try.func16, Try.ntmps16
    go_wp2_with fail
    refine (HK.out _ hz).mono ?_
    rintro e w' ⟨rfl, rfl⟩
    go_wp2
    go_ret
    exact ⟨ret_bool (by rw [HO.out]; simp [h0]), rfl⟩
  · go_enter Try.func16, Try.ntmps16
    go_wp2_with fail
    refine (HK.out _ hz).mono ?_
    rintro e w' ⟨rfl, rfl⟩
    go_wp2
    go_ret
    exact ⟨ret_bool (by rw [HO.out]; simp; omega), rfl⟩
set_option maxHeartbeats 2000000 in
theorem implCostOf_any (a a2 : Option Addr) (cap cap2 B : Nat) (zs ls : List Int) (w : World) (hz : Ints w B a zs) (hz2 : Ints w B a2 ls) :
    Calls Try.prog 18 #[.slice a zs.length cap, .slice a2 ls.length cap2] w fun e w' => e = .returned (.int .i64 (costI zs ls)) ∧ Below w.heap.size w w' := by
  obtain ⟨f, hf⟩ : ∃ f, fOk zs = f := ⟨_, rfl⟩
  obtain ⟨l, hll⟩ : ∃ l, lOk ls = l := ⟨_, rfl⟩
  have K1 := hidden (fun W h => implFreqsOk_any a cap B zs W h)
  have K2 := hidden (fun W h => implLensOk_any a2 cap2 B ls W h)
  rw [hf] at K1
  rw [hll] at K2
  have HF := hidden hf
  have HL := hidden hll
  clear hf hll
  obtain ⟨n, hn⟩ : ∃ n, zs.length = n := ⟨_, rfl⟩
  obtain ⟨m, hm⟩ : ∃ m, ls.length = m := ⟨_, rfl⟩
  have hl := hz.1
  have hl2 := hz2.1
  have hzz := hz
  have hzz2 := hz2
  rw [hn] at hl K1 ⊢
  rw [hm] at hl2 K2 ⊢
  have HN := hidden hn
  have HM := hidden hm
  clear hn hm
  cases f
  · have HC : Hid (costI zs ls = -1) := hidden (costI_no fun g => by have := g.1; rw [HF.out] at this; cases this)
    go_enter Try.func18, Try.ntmps18
    go_wp2_with fail
    refine (K1.out _ hzz).mono ?_
    rintro e w' ⟨rfl, rfl⟩
    go_wp2
    go_ret
    exact ⟨ret_int HC.out.symm, Below.refl _ _⟩
  · cases l
    · have HC : Hid (costI zs ls = -1) := hidden (costI_no fun g => by have := g.2.1; rw [HL.out] at this; cases this)
      go_enter Try.func18, Try.ntmps18
      go_wp2_with fail
      refine (K1.out _ hzz).mono ?_
      rintro e w' ⟨rfl, rfl⟩
      go_wp2_with fail
      refine (K2.out _ hzz2).mono ?_
      rintro e w' ⟨rfl, rfl⟩
      go_wp2
      go_ret
      exact ⟨ret_int HC.out.symm, Below.refl _ _⟩
    · by_cases hnm : n = m
      · subst hnm
        have hfr := (fOk_iff zs).1 HF.out
        have hlr := lOk_range HL.out
        obtain ⟨b, off, rfl, hb, hc⟩ := hz.2.2 (by have := hfr.1; omega)
        obtain ⟨b2, off2, rfl, hb2, hc2⟩ := hz2.2.2 (by have := hlr.1; omega)
        have H1 := hidden hc
        have H2 := hidden hc2
        have R1 := hidden hfr
        have R2 := hidden hlr
        have hn260 : n ≤ 260 := by have := hfr.2.1; rw [HN.out] at this; exact this
        clear hc hc2 hfr hlr
        have hne : ((n : Int) != (n : Int)) = false := by simp
        go_enter Try.func18, Try.ntmps18
        go_wp2_with fail
        refine (K1.out _ hzz).mono ?_
        rintro e w' ⟨rfl, rfl⟩
        go_wp2_with fail
        refine (K2.out _ hzz2).mono ?_
        rintro e w' ⟨rfl, rfl⟩
        go_wp2
        go_loopw [5, 24] (fun v i wr => ∃ k q nq : Nat, k ≤ n ∧ i = .int .i64 k ∧ v = .int .i64 q ∧ Hid (q = cSum zs ls k) ∧ q ≤ 20000000 * k ∧ wr = w'.drewN nq) (fun _ i _ => n - (intOf i).toNat)
        case atStart => exact ⟨0, 0, 0, by omega, rfl, rfl, hidden rfl, by omega, rfl⟩
        case round =>
          obtain ⟨k, q, nq, hk, rfl, rfl, HQ, hq, rfl⟩ := hrel
          by_cases hlt : k < n
          · have ck := H1.out k (by rw [HN.out]; exact hlt)
            have ck2 := H2.out k (by rw [HM.out]; exact hlt)
            have r1 := R1.out.2.2 k (by rw [HN.out]; exact hlt)
            have r2 := R2.out.2.2 k (by rw [HM.out]; exact hlt)
            obtain ⟨x, hx⟩ : ∃ x : Nat, zs.getD k 0 = x := ⟨(zs.getD k 0).toNat, by omega⟩
            obtain ⟨y, hy⟩ : ∃ y : Nat, ls.getD k 0 = y := ⟨(ls.getD k 0).toNat, by omega⟩
            rw [hx] at ck r1
            rw [hy] at ck2 r2
            have HX := hidden hx
            have HY := hidden hy
            have hxy : x * y ≤ 1000000 * 20 := Nat.mul_le_mul (by omega) (by omega)
            obtain ⟨p, hp⟩ : ∃ p, x * y = p := ⟨_, rfl⟩
            have hpI : (x : Int) * (y : Int) = (p : Int) := by rw [← hp]; simp
            rw [hp] at hxy
            have HP := hidden hp
            clear hx hy hp
            go_wp2
            go_quiet (fail)
            go_wp2
            exact ⟨⟨k + 1, q + p, _, by omega, by go_num, by go_num, hidden (by rw [cSum_succ, HQ.out, HX.out, HY.out, ← HP.out]; simp), by omega, rfl⟩, by simp [intOf]; omega⟩
          · have HC : Hid (costI zs ls = (q : Int)) := hidden (by
              have e : k = n := by omega
              subst e
              rw [costI_yes ⟨HF.out, HL.out, by rw [HN.out, HM.out]⟩, HN.out, HQ.out])
            go_wp2
            go_ret
            exact ⟨ret_int HC.out.symm, bel_drewN (Below.refl _ _) _⟩
      · have HC : Hid (costI zs ls = -1) := hidden (costI_no fun g => by have := g.2.2; rw [HN.out, HM.out] at this; exact hnm this)
        have hne : ((n : Int) != (m : Int)) = true := by simp; omega
        go_enter Try.func18, Try.ntmps18
        go_wp2_with fail
        refine (K1.out _ hzz).mono ?_
        rintro e w' ⟨rfl, rfl⟩
        go_wp2_with fail
        refine (K2.out _ hzz2).mono ?_
        rintro e w' ⟨rfl, rfl⟩
        go_wp2
        go_ret
        exact ⟨ret_int HC.out.symm, Below.refl _ _⟩
theorem askFreqs : AskFreqs := fun a cap B zs w hz _ => (implFreqsOk_any a cap B zs w hz).mono (by rintro e w' ⟨rfl, rfl⟩; exact ⟨rfl, Below.refl _ _⟩)
theorem askKraft : AskKraft := fun a cap B zs w hz _ => (implKraft_any a cap B zs w hz).mono (by rintro e w' ⟨rfl, rfl⟩; exact ⟨rfl, Below.refl _ _⟩)
theorem askLensOk : AskLensOk := fun a cap B zs w hz _ => (implLensOk_any a cap B zs w hz).mono (by rintro e w' ⟨rfl, rfl⟩; exact ⟨rfl, Below.refl _ _⟩)
theorem askCost : AskCost := fun a a2 cap cap2 B zs ls w hz hz2 _ => implCostOf_any a a2 cap cap2 B zs ls w hz hz2
end Go.Proofs.Ytpmiphnjnbkjlaa
