/- Merged: Same, DrSize. -/
import Derived.Test.YtpdicijoohahaaaC3Arr
import Derived.Test.YtpdicijoohahaaaDr
import Derived.RegionTactic
import Derived.ChangeAlike
import Derived.Deep.QuietTactic
import Derived.BigQuiet
import Derived.OwnWalk
namespace Go.Proofs.Ytpdicijoohahaaa
set_option linter.unusedVariables false
set_option linter.unusedSimpArgs false
open Go.RowKit

theorem sameInts_any (a a2 : Option Addr) (cap cap2 B : Nat) (zs ys : List Int) (w : World) (hz : Ints w B a zs) (hy : Ints w B a2 ys) :
    Calls Try.prog 31 #[.slice a zs.length cap, .slice a2 ys.length cap2] w fun e w' => e = .returned (.bool (decide (zs = ys))) ∧ Below w.heap.size w w' := by
  obtain ⟨n, hn⟩ : ∃ n, zs.length = n := ⟨_, rfl⟩
  obtain ⟨m, hm⟩ : ∃ m, ys.length = m := ⟨_, rfl⟩
  have HN := hidden hn
  have HM := hidden hm
  have HZ := hidden hz
  have HY := hidden hy
  have hl := hz.1
  have hl2 := hy.1
  rw [hn] at hl ⊢
  rw [hm] at hl2 ⊢
  obtain ⟨r, hr⟩ : ∃ r, decide (zs = ys) = r := ⟨_, rfl⟩
  rw [hr]
  have HR := hidden hr
  clear hn hm hz hy hr
  by_cases hnm : n = m
  · subst hnm
    have hne : ((n : Int) != (n : Int)) = false := by simp
    go_enter Try.func31, Try.ntmps31
    go_wp2
    go_loopw [5] (fun si wr => ∃ k nq : Nat, k ≤ n ∧ si = .int .i64 k ∧ Hid (∀ j, j < k → zs.getD j 0 = ys.getD j 0) ∧ wr = w.drewN nq) (fun si _ => n - (intOf si).toNat)
    case atStart => exact ⟨0, 0, Nat.zero_le _, rfl, hidden (fun j hj => by omega), rfl⟩
    case round =>
      obtain ⟨k, nq, hk, rfl, HE, rfl⟩ := hrel
      by_cases hlt : k < n
      · obtain ⟨b, off, rfl, hb, hc⟩ := HZ.out.2.2 (by rw [HN.out]; omega)
        obtain ⟨b2, off2, rfl, hb2, hc2⟩ := HY.out.2.2 (by rw [HM.out]; omega)
        have ck := hc k (by rw [HN.out]; exact hlt)
        have ck2 := hc2 k (by rw [HM.out]; exact hlt)
        obtain ⟨x, hx⟩ : ∃ x, zs.getD k 0 = x := ⟨_, rfl⟩
        obtain ⟨y, hy⟩ : ∃ y, ys.getD k 0 = y := ⟨_, rfl⟩
        rw [hx] at ck
        rw [hy] at ck2
        have HX := hidden hx
        have HYy := hidden hy
        clear hx hy hc hc2
        by_cases hxy : x = y
        · have hxb : (x != y) = false := by simp [hxy]
          have HE2 : Hid (∀ j, j < k + 1 → zs.getD j 0 = ys.getD j 0) := hidden (fun j hj => by
            rcases Nat.lt_or_ge j k with h | h
            · exact HE.out j h
            · rw [show j = k by omega, HX.out, HYy.out, hxy])
          clear hxy
          go_wp2
          go_quiet (fail)
          go_wp2
          exact ⟨⟨k + 1, _, by omega, by go_num, HE2, rfl⟩, by simp [intOf]; omega⟩
        · have hxb : (x != y) = true := by simp [hxy]
          have HF : Hid (r = false) := hidden (by
            rw [← HR.out, decide_eq_false_iff_not]
            intro e
            exact hxy (by rw [← HX.out, ← HYy.out, e]))
          clear hxy
          go_wp2
          go_quiet (fail)
          go_wp2
          go_ret
          exact ⟨ret_bool HF.out.symm, bel_drewN (bel_drewN (Below.refl _ _) _) _⟩
      · have HF : Hid (r = true) := hidden (by
          rw [← HR.out, decide_eq_true_eq]
          apply List.ext_getElem (by rw [HN.out, HM.out])
          intro j h1 h2
          have := HE.out j (by rw [HN.out] at h1; omega)
          simpa [List.getD_eq_getElem?_getD, h1, h2] using this)
        go_wp2
        go_ret
        exact ⟨ret_bool HF.out.symm, bel_drewN (Below.refl _ _) _⟩
  · have hne : ((n : Int) != (m : Int)) = true := by simp; omega
    have HF : Hid (r = false) := hidden (by
      rw [← HR.out, decide_eq_false_iff_not]
      intro e
      have := congrArg List.length e
      rw [HN.out, HM.out] at this
      exact hnm this)
    clear hnm
    go_enter Try.func31, Try.ntmps31
    go_wp2
    go_ret
    exact ⟨ret_bool HF.out.symm, Below.refl _ _⟩


theorem Ints.lit (w : World) (cs : List Int) (hm : cs.length ≤ 140737488355328) (hr : ∀ x ∈ cs, -9223372036854775808 ≤ x ∧ x ≤ 9223372036854775807) : Ints (w.alloc (.cells (intsV cs).toArray 3)) (w.heap.size + 1) (some ⟨w.heap.size, 0, none⟩) cs := by
  refine ⟨hm, hr, fun h0 => ⟨w.heap.size, 0, rfl, by omega, fun i hi => ?_⟩⟩
  have h := (Has.fresh w 3 (intsV cs).toArray).cell i
  rw [Nat.zero_add]
  refine h.trans ?_
  rw [List.getElem?_toArray]
  exact intsV_get cs i hi
end Go.Proofs.Ytpdicijoohahaaa
namespace Go.Proofs.Ytpdicijoohahaaa
set_option linter.unusedVariables false
set_option linter.unusedSimpArgs false
open Go.RowKit

theorem l1Size_any (a : Option Addr) (len cap : Nat) (m : Int) (w : World) (hl : len ≤ 9223372036854775807) (h0 : 0 ≤ m) (h1 : m ≤ 1000) :
    Calls Try.prog 53 #[.slice a len cap, .int .i64 m] w fun e w' => ∃ x : Int, e = .returned (.int .i64 x) ∧ 0 ≤ x ∧ x ≤ m ∧ w = w' := by
  by_cases h : m < 2 + (len : Int) / 20
  · go_enter Try.func53, Try.ntmps53
    go_wp2
    go_ret
    exact ⟨m, rfl, by omega, by omega, rfl⟩
  · go_enter Try.func53, Try.ntmps53
    go_wp2
    go_ret
    exact ⟨_, rfl, by omega, by omega, rfl⟩

end Go.Proofs.Ytpdicijoohahaaa
