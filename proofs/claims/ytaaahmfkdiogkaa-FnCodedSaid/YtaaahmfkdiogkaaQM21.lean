/- Merged: I4P, I4Q. -/
import Derived.Test.YtaaahmfkdiogkaaQM18
import Derived.Test.YtaaahmfkdiogkaaQM16
import Derived.Test.YtaaahmfkdiogkaaQM19
import Derived.Deep.RegionHeld3
namespace Go.Proofs.Ytaaahmfkdiogkaa
set_option linter.unusedVariables false
set_option linter.unusedSimpArgs false
open Go.RowKit

set_option maxHeartbeats 1000000 in
set_option maxRecDepth 100000 in
theorem rowOk_any (a : Option Addr) (cap B n : Nat) (ss : List Int) (w : World) (hz : Ints w B a ss) (hn : n ≤ 140737488355328) :
    Calls Try.prog 53 #[.slice a ss.length cap, .int .i64 n] w fun e w' => e = .returned (.bool (symsB n ss)) ∧ w' = w := by
  have hl := hz.1
  by_cases h2 : 2000 < ss.length
  · have HF : Hid (symsB n ss = false) := hidden (by rw [Bool.eq_false_iff, Ne, symsB_iff]; omega)
    obtain ⟨m, hm⟩ : ∃ m, ss.length = m := ⟨_, rfl⟩
    rw [hm] at h2 hl ⊢
    clear hz hm
    go_enter Try.func53, Try.ntmps53
    go_wp2
    go_ret
    exact ⟨ret_bool HF.out.symm, rfl⟩
  · obtain ⟨m, hm⟩ : ∃ m, ss.length = m := ⟨_, rfl⟩
    have HM := hidden hm
    have HZ := hidden hz
    rw [hm] at h2 hl ⊢
    clear hz hm
    go_enter Try.func53, Try.ntmps53
    go_wp2
    go_loop [12] (fun si => ∃ k : Nat, k ≤ m ∧ si = .int .i64 k ∧ Hid (∀ j, j < k → 0 ≤ ss.getD j 0 ∧ ss.getD j 0 < (n : Int))) (fun si => m - (intOf si).toNat)
    case atStart => exact ⟨0, by omega, rfl, hidden fun j hj => by omega⟩
    case round =>
      obtain ⟨k, hk, rfl, H⟩ := hrel
      by_cases hlt : k < m
      · obtain ⟨b, off, rfl, hb, hc⟩ := HZ.out.2.2 (by rw [HM.out]; omega)
        have ck := hc k (by rw [HM.out]; exact hlt)
        obtain ⟨x, hx⟩ : ∃ x, ss.getD k 0 = x := ⟨_, rfl⟩
        rw [hx] at ck
        have HX := hidden hx
        clear hx hc
        by_cases c1 : x < 0
        · have HF : Hid (symsB n ss = false) := hidden (by rw [Bool.eq_false_iff, Ne, symsB_iff]; intro g; have := g.2 k (by rw [HM.out]; exact hlt); rw [HX.out] at this; omega)
          go_wp2
          go_ret
          exact ⟨ret_bool HF.out.symm, rfl⟩
        · by_cases c2 : (n : Int) ≤ x
          · have HF : Hid (symsB n ss = false) := hidden (by rw [Bool.eq_false_iff, Ne, symsB_iff]; intro g; have := g.2 k (by rw [HM.out]; exact hlt); rw [HX.out] at this; omega)
            go_wp2
            go_ret
            exact ⟨ret_bool HF.out.symm, rfl⟩
          · go_wp2
            go_round
            case rel => exact ⟨k + 1, by omega, by go_num, hidden fun j hj => by
              rcases Nat.lt_or_ge j k with g | g
              · exact H.out j g
              · obtain rfl : j = k := by omega
                rw [HX.out]; omega⟩
            case measure => simp [intOf]; omega
      · have HF : Hid (symsB n ss = true) := hidden (by rw [symsB_iff, HM.out]; exact ⟨by omega, fun j hj => H.out j (by omega)⟩)
        go_wp2
        go_ret
        exact ⟨ret_bool HF.out.symm, rfl⟩
set_option maxHeartbeats 2000000 in
set_option maxRecDepth 100000 in
theorem implSymBits_any (a a2 : Option Addr) (cap cap2 B : Nat) (ls ss : List Int) (w : World) (hz : Ints w B a ls) (hz2 : Ints w B a2 ss) :
    Calls Try.prog 45 #[.slice a ls.length cap, .slice a2 ss.length cap2] w fun e w' => e = .returned (.int .i64 (symBitsI ls ss)) ∧ Below w.heap.size w w' := by
  have K1 := hidden (implLensOk_any a cap B ls w hz)
  have K2 := hidden (fun (h : ls.length ≤ 140737488355328) => rowOk_any a2 cap2 B ls.length ss w hz2 h)
  obtain ⟨o1, ho1⟩ : ∃ o, lOk ls = o := ⟨_, rfl⟩
  obtain ⟨o2, ho2⟩ : ∃ o, symsB ls.length ss = o := ⟨_, rfl⟩
  have HP : Hid (putOk ls ss = (o1 && o2)) := hidden (by unfold putOk; rw [ho1, ho2])
  rw [ho1] at K1
  rw [ho2] at K2
  have hl := hz.1
  have hl2 := hz2.1
  cases o1
  · have HF : Hid (symBitsI ls ss = -1) := hidden (by unfold symBitsI; rw [HP.out]; rfl)
    clear hz hz2 ho1 ho2
    go_enter Try.func45, Try.ntmps45
    go_wp2_with fail
    refine K1.out.mono ?_
    rintro e w' ⟨rfl, rfl⟩
    go_wp2
    go_ret
    exact ⟨ret_int HF.out.symm, Below.refl _ _⟩
  · cases o2
    · have HF : Hid (symBitsI ls ss = -1) := hidden (by unfold symBitsI; rw [HP.out]; rfl)
      clear hz hz2 ho1 ho2
      go_enter Try.func45, Try.ntmps45
      go_wp2_with fail
      refine K1.out.mono ?_
      rintro e w' ⟨rfl, rfl⟩
      go_wp2_with fail
      refine (K2.out hl).mono ?_
      rintro e w' ⟨rfl, rfl⟩
      go_wp2
      go_ret
      exact ⟨ret_int HF.out.symm, Below.refl _ _⟩
    · have HF : Hid (symBitsI ls ss = (lenSum ls ss ss.length : Int)) := hidden (by unfold symBitsI; rw [HP.out]; rfl)
      have hr := lOk_range ho1
      have hs := (symsB_iff _ _).1 ho2
      have HLN : Hid (∀ s, s < ls.length → ls.getD s 0 = (lnF ls s : Int) ∧ lnF ls s ≤ 20) := hidden (fun s hs => ⟨lnF_int hr s hs, (lRange_ln hr s hs).2⟩)
      have HSUM : Hid (∀ k, k ≤ ss.length → lenSum ls ss k ≤ 20 * k) := hidden (fun k hk => lenSum_le hr hs.2 k hk)
      obtain ⟨n, hn⟩ : ∃ n, ls.length = n := ⟨_, rfl⟩
      obtain ⟨m, hm⟩ : ∃ m, ss.length = m := ⟨_, rfl⟩
      have hm2 : m ≤ 2000 := by rw [← hm]; exact hs.1
      have HS := hidden hs.2
      have HZ2 := hidden hz2
      obtain ⟨b, off, rfl, hb, hc⟩ := hz.2.2 hr.1
      have HC := hidden hc
      have HM := hidden hm
      rw [hn] at K1 K2 HLN HS HC hl ⊢
      rw [hm] at K2 HF HSUM HS hl2 ⊢
      clear hz hz2 ho1 ho2 hr hs hc hn hm
      go_enter Try.func45, Try.ntmps45
      go_wp2_with fail
      refine K1.out.mono ?_
      rintro e w' ⟨rfl, rfl⟩
      go_wp2_with fail
      refine (K2.out hl).mono ?_
      rintro e w' ⟨rfl, rfl⟩
      go_wp2
      go_loop [5, 7, 20] (fun sv _ si => ∃ k q : Nat, k ≤ m ∧ si = .int .i64 k ∧ sv = .int .i64 q ∧ Hid (q = lenSum ls ss k) ∧ q ≤ 20 * k) (fun _ _ si => m - (intOf si).toNat)
      case atStart => exact ⟨0, 0, by omega, rfl, rfl, hidden rfl, by omega⟩
      case round =>
        obtain ⟨k, q, hk, rfl, rfl, HQ, hq⟩ := hrel
        by_cases hlt : k < m
        · obtain ⟨b2, off2, rfl, hb2, hc2⟩ := HZ2.out.2.2 (by rw [HM.out]; omega)
          have ck := hc2 k (by rw [HM.out]; exact hlt)
          have hx := HS.out k hlt
          obtain ⟨x, hxe⟩ : ∃ x : Nat, ss.getD k 0 = x := ⟨(ss.getD k 0).toNat, by omega⟩
          rw [hxe] at ck hx
          have hxn : x < n := by omega
          have cl := HC.out x hxn
          have hln := HLN.out x hxn
          rw [hln.1] at cl
          obtain ⟨y, hy⟩ : ∃ y, lnF ls x = y := ⟨_, rfl⟩
          rw [hy] at cl hln
          have HQ2 : Hid (q + y = lenSum ls ss (k + 1)) := hidden (by
            show _ = lenSum ls ss k + lnF ls (ss.getD k 0).toNat
            rw [HQ.out, hxe, Int.toNat_natCast, hy])
          clear hxe hy hc2 hx
          go_wp2
          go_round
          case rel => exact ⟨k + 1, q + y, by omega, by go_num, by go_num, HQ2, by omega⟩
          case measure => simp [intOf]; omega
        · have e : k = m := by omega
          subst e
          go_wp2
          go_ret
          exact ⟨ret_int (by rw [HF.out, HQ.out]), Below.refl _ _⟩
end Go.Proofs.Ytaaahmfkdiogkaa
namespace Go.Proofs.Ytaaahmfkdiogkaa
set_option linter.unusedVariables false
set_option linter.unusedSimpArgs false
open Go.RowKit

theorem Writes.drewN {w : World} {base g : Nat} {l : List Nat} (h : Writes w base g l) (n : Nat) : Writes (w.drewN n) base g l := h
end Go.Proofs.Ytaaahmfkdiogkaa
