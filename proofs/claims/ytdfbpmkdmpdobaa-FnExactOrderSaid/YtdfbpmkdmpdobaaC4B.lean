/- Chapter 4: codes, symbols, the count of their bits (the model). -/
import Derived.Test.YtdfbpmkdmpdobaaC4
import Derived.RegionTactic
import Derived.ChangeAlike
import Derived.Deep.QuietTactic
import Derived.BigQuiet
namespace Go.Proofs.Ytdfbpmkdmpdobaa
set_option linter.unusedVariables false
set_option linter.unusedSimpArgs false
open Go.RowKit

theorem cdL_nats {ls : List Int} (h : lOk ls = true) : natsL (cdL ls) = nats ls.length (cdF ls) := by
  unfold cdL; rw [if_pos h]
  unfold natsL nats
  rw [List.map_map]; rfl
theorem specCodes_no (a : Option Addr) (cap B : Nat) (ls : List Int) (w : World) (hz : Ints w B a ls) (hok : lOk ls = false) :
    Calls Try.prog 31 #[.slice a ls.length cap] w fun e w' => e = .returned (.slice none 0 0) ∧ w' = w := by
  have K1 := hidden (specOrder_no a cap B ls w hz hok)
  go_enter Try.func31, Try.ntmps31
  go_wp2_with fail
  refine K1.out.mono ?_
  rintro e w' ⟨rfl, rfl⟩
  go_wp2
  go_ret
  exact ⟨rfl, rfl⟩
theorem specCodes_any (a : Option Addr) (cap B : Nat) (ls : List Int) (w : World) (hz : Ints w B a ls) (hB : B ≤ w.heap.size) :
    Calls Try.prog 31 #[.slice a ls.length cap] w fun e w' => ∃ v, e = .returned v ∧ w'.ownsRow w.heap.size 3 1 v (cdL ls).length (natsL (cdL ls)) ∧ Below w.heap.size w w' := by
  by_cases h : lOk ls = true
  · rw [cdL_len h, cdL_nats h]
    exact specCodes_yes a cap B ls w hz hB h
  · refine (specCodes_no a cap B ls w hz (by simpa using h)).mono ?_
    rintro e w' ⟨rfl, rfl⟩
    refine ⟨_, rfl, ?_, Below.refl _ _⟩
    unfold cdL; rw [if_neg h]
    exact World.ownsRow_nil _ _ _ _
set_option maxHeartbeats 1000000 in
set_option maxRecDepth 100000 in
theorem l4symsOk_any (a : Option Addr) (cap B n : Nat) (ss : List Int) (w : World) (hz : Ints w B a ss) (hn : n ≤ 140737488355328) :
    Calls Try.prog 51 #[.int .i64 n, .slice a ss.length cap] w fun e w' => e = .returned (.bool (symsB n ss)) ∧ w' = w := by
  have hl := hz.1
  by_cases h2 : 2000 < ss.length
  · have HF : Hid (symsB n ss = false) := hidden (by rw [Bool.eq_false_iff, Ne, symsB_iff]; omega)
    obtain ⟨m, hm⟩ : ∃ m, ss.length = m := ⟨_, rfl⟩
    rw [hm] at h2 hl ⊢
    clear hz hm
    go_enter Try.func51, Try.ntmps51
    go_wp2
    go_ret
    exact ⟨ret_bool HF.out.symm, rfl⟩
  · obtain ⟨m, hm⟩ : ∃ m, ss.length = m := ⟨_, rfl⟩
    have HM := hidden hm
    have HZ := hidden hz
    rw [hm] at h2 hl ⊢
    clear hz hm
    go_enter Try.func51, Try.ntmps51
    go_wp2
    go_loop [5] (fun si => ∃ k : Nat, k ≤ m ∧ si = .int .i64 k ∧ Hid (∀ j, j < k → 0 ≤ ss.getD j 0 ∧ ss.getD j 0 < (n : Int))) (fun si => m - (intOf si).toNat)
    case atStart => exact ⟨0, by omega, rfl, hidden fun j hj => by omega⟩
    case round =>
      obtain ⟨k, hk, rfl, H⟩ := hrel
      by_cases hlt : k < m
      · obtain ⟨b, off, rfl, hb, hc⟩ := HZ.out.2.2 (by rw [HM.out]; omega)
        have ck := hc k (by rw [HM.out]; exact hlt)
        obtain ⟨x, hx⟩ : ∃ x, ss.getD k 0 = x := ⟨_, rfl⟩
        rw [hx] at ck
        have HX := hidden hx
        clear hx hc
        by_cases c1 : x < 0
        · have HF : Hid (symsB n ss = false) := hidden (by rw [Bool.eq_false_iff, Ne, symsB_iff]; intro g; have := g.2 k (by rw [HM.out]; exact hlt); rw [HX.out] at this; omega)
          go_wp2
          go_ret
          exact ⟨ret_bool HF.out.symm, rfl⟩
        · by_cases c2 : (n : Int) ≤ x
          · have HF : Hid (symsB n ss = false) := hidden (by rw [Bool.eq_false_iff, Ne, symsB_iff]; intro g; have := g.2 k (by rw [HM.out]; exact hlt); rw [HX.out] at this; omega)
            go_wp2
            go_ret
            exact ⟨ret_bool HF.out.symm, rfl⟩
          · go_wp2
            go_round
            case rel => exact ⟨k + 1, by omega, by go_num, hidden fun j hj => by
              rcases Nat.lt_or_ge j k with g | g
              · exact H.out j g
              · obtain rfl : j = k := by omega
                rw [HX.out]; omega⟩
            case measure => simp [intOf]; omega
      · have HF : Hid (symsB n ss = true) := hidden (by rw [symsB_iff, HM.out]; exact ⟨by omega, fun j hj => H.out j (by omega)⟩)
        go_wp2
        go_ret
        exact ⟨ret_bool HF.out.symm, rfl⟩
/-- How many bits the symbols have; -1 where they are none. -/
def symBitsI (ls ss : List Int) : Int := if putOk ls ss = true then (lenSum ls ss ss.length : Int) else -1
set_option maxHeartbeats 2000000 in
set_option maxRecDepth 100000 in
theorem specSymBits_any (a a2 : Option Addr) (cap cap2 B : Nat) (ls ss : List Int) (w : World) (hz : Ints w B a ls) (hz2 : Ints w B a2 ss) :
    Calls Try.prog 33 #[.slice a ls.length cap, .slice a2 ss.length cap2] w fun e w' => e = .returned (.int .i64 (symBitsI ls ss)) ∧ Below w.heap.size w w' := by
  have K1 := hidden (specLensOk_any a cap B ls w hz)
  have K2 := hidden (fun (h : ls.length ≤ 140737488355328) => l4symsOk_any a2 cap2 B ls.length ss w hz2 h)
  obtain ⟨o1, ho1⟩ : ∃ o, lOk ls = o := ⟨_, rfl⟩
  obtain ⟨o2, ho2⟩ : ∃ o, symsB ls.length ss = o := ⟨_, rfl⟩
  have HP : Hid (putOk ls ss = (o1 && o2)) := hidden (by unfold putOk; rw [ho1, ho2])
  rw [ho1] at K1
  rw [ho2] at K2
  have hl := hz.1
  have hl2 := hz2.1
  cases o1
  · have HF : Hid (symBitsI ls ss = -1) := hidden (by unfold symBitsI; rw [HP.out]; rfl)
    clear hz hz2 ho1 ho2
    go_enter Try.func33, Try.ntmps33
    go_wp2_with fail
    refine K1.out.mono ?_
    rintro e w' ⟨rfl, rfl⟩
    go_wp2
    go_ret
    exact ⟨ret_int HF.out.symm, Below.refl _ _⟩
  · cases o2
    · have HF : Hid (symBitsI ls ss = -1) := hidden (by unfold symBitsI; rw [HP.out]; rfl)
      clear hz hz2 ho1 ho2
      go_enter Try.func33, Try.ntmps33
      go_wp2_with fail
      refine K1.out.mono ?_
      rintro e w' ⟨rfl, rfl⟩
      go_wp2_with fail
      refine (K2.out hl).mono ?_
      rintro e w' ⟨rfl, rfl⟩
      go_wp2
      go_ret
      exact ⟨ret_int HF.out.symm, Below.refl _ _⟩
    · have HF : Hid (symBitsI ls ss = (lenSum ls ss ss.length : Int)) := hidden (by unfold symBitsI; rw [HP.out]; rfl)
      have hr := lOk_range ho1
      have hs := (symsB_iff _ _).1 ho2
      have HLN : Hid (∀ s, s < ls.length → ls.getD s 0 = (lnF ls s : Int) ∧ lnF ls s ≤ 20) := hidden (fun s hs => ⟨lnF_int hr s hs, (lRange_ln hr s hs).2⟩)
      have HSUM : Hid (∀ k, k ≤ ss.length → lenSum ls ss k ≤ 20 * k) := hidden (fun k hk => lenSum_le hr hs.2 k hk)
      obtain ⟨n, hn⟩ : ∃ n, ls.length = n := ⟨_, rfl⟩
      obtain ⟨m, hm⟩ : ∃ m, ss.length = m := ⟨_, rfl⟩
      have hm2 : m ≤ 2000 := by rw [← hm]; exact hs.1
      have HS := hidden hs.2
      have HZ2 := hidden hz2
      obtain ⟨b, off, rfl, hb, hc⟩ := hz.2.2 hr.1
      have HC := hidden hc
      have HM := hidden hm
      rw [hn] at K1 K2 HLN HS HC hl ⊢
      rw [hm] at K2 HF HSUM HS hl2 ⊢
      clear hz hz2 ho1 ho2 hr hs hc hn hm
      go_enter Try.func33, Try.ntmps33
      go_wp2_with fail
      refine K1.out.mono ?_
      rintro e w' ⟨rfl, rfl⟩
      go_wp2_with fail
      refine (K2.out hl).mono ?_
      rintro e w' ⟨rfl, rfl⟩
      go_wp2
      go_loopw [5, 6] (fun sv si wr => ∃ k q nq : Nat, k ≤ m ∧ si = .int .i64 k ∧ sv = .int .i64 q ∧ Hid (q = lenSum ls ss k) ∧ q ≤ 20 * k ∧ wr = w'.drewN nq) (fun _ si _ => m - (intOf si).toNat)
      case atStart => exact ⟨0, 0, 0, by omega, rfl, rfl, hidden rfl, by omega, rfl⟩
      case round =>
        obtain ⟨k, q, nq, hk, rfl, rfl, HQ, hq, rfl⟩ := hrel
        by_cases hlt : k < m
        · obtain ⟨b2, off2, rfl, hb2, hc2⟩ := HZ2.out.2.2 (by rw [HM.out]; omega)
          have ck := hc2 k (by rw [HM.out]; exact hlt)
          have hx := HS.out k hlt
          obtain ⟨x, hxe⟩ : ∃ x : Nat, ss.getD k 0 = x := ⟨(ss.getD k 0).toNat, by omega⟩
          rw [hxe] at ck hx
          have hxn : x < n := by omega
          have cl := HC.out x hxn
          have hln := HLN.out x hxn
          rw [hln.1] at cl
          obtain ⟨y, hy⟩ : ∃ y, lnF ls x = y := ⟨_, rfl⟩
          rw [hy] at cl hln
          have HQ2 : Hid (q + y = lenSum ls ss (k + 1)) := hidden (by
            show _ = lenSum ls ss k + lnF ls (ss.getD k 0).toNat
            rw [HQ.out, hxe, Int.toNat_natCast, hy])
          clear hxe hy hc2 hx
          go_wp2
          (try go_quiet (fail))
          (try go_wp2)
          exact ⟨⟨k + 1, q + y, _, by omega, by go_num, by go_num, HQ2, by omega, rfl⟩, by simp [intOf]; omega⟩
        · have e : k = m := by omega
          subst e
          go_wp2
          go_ret
          exact ⟨ret_int (by rw [HF.out, HQ.out]), bel_drewN (Below.refl _ _) _⟩
end Go.Proofs.Ytdfbpmkdmpdobaa
