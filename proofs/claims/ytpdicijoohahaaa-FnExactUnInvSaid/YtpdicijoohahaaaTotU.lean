/- Chapter 8: the sum of counts (for UnInv): the model's l8total. -/
import Derived.Test.YtpdicijoohahaaaUi
import Derived.Test.YtpdicijoohahaaaC7J
import Derived.Test.YtpdicijoohahaaaNats
import Derived.Lib.SmallJoins
namespace Go.Proofs.Ytpdicijoohahaaa
set_option linter.unusedVariables false
set_option linter.unusedSimpArgs false
open Go.RowKit

set_option maxHeartbeats 1000000 in
set_option maxRecDepth 100000 in
theorem l8total_any (a : Option Addr) (cap B : Nat) (z : List Int) (w : World) (hz : Ints w B a z) (hl : z.length ≤ 1048576) :
    Calls Try.prog 44 #[.slice a z.length cap] w fun e w' => e = .returned (.int .i64 (totI (totF z 0))) ∧ w = w' := by
  have HD := hidden (fun k n (h : k < z.length) => totF_drop z k n h)
  have HEND : Hid (∀ n, totF (z.drop z.length) n = some n) := hidden (fun n => by rw [List.drop_length]; rfl)
  obtain ⟨m, hm⟩ : ∃ m, z.length = m := ⟨_, rfl⟩
  have HN := hidden hm
  have HZ := hidden hz
  rw [hm] at hl HD HEND ⊢
  clear hm hz
  go_enter Try.func44, Try.ntmps44
  go_wp2
  go_loopw [3, 4] (fun sn sk wr => ∃ k n : Nat, k ≤ m ∧ n ≤ 600 ∧ sn = .int .i64 n ∧ sk = .int .i64 k ∧ Hid (totF z 0 = totF (z.drop k) n) ∧ w = wr) (fun _ sk _ => m - (intOf sk).toNat)
  case atStart => exact ⟨0, 0, by omega, by omega, rfl, rfl, hidden rfl, by first | trivial | rfl⟩
  case round =>
    obtain ⟨k, n, hk, hn, rfl, rfl, HA, rfl⟩ := hrel
    by_cases hlt : k < m
    · obtain ⟨b, off, rfl, hb, hc⟩ := HZ.out.2.2 (by rw [HN.out]; omega)
      have ck := hc k (by rw [HN.out]; exact hlt)
      have HS := hidden (HD.out k n hlt)
      obtain ⟨x, hx⟩ : ∃ x, z.getD k 0 = x := ⟨_, rfl⟩
      rw [hx] at ck HS
      clear hx hc
      by_cases hx0 : x < 0
      · have HF : Hid (totI (totF z 0) = -1) := hidden (by rw [HA.out, HS.out, if_pos (.inl hx0)]; rfl)
        go_wp2
        go_ret
        exact ⟨by rw [HF.out]; rfl, rfl⟩
      · by_cases hxn : 600 - (n : Int) < x
        · have HF : Hid (totI (totF z 0) = -1) := hidden (by rw [HA.out, HS.out, if_pos (.inr hxn)]; rfl)
          go_wp2
          go_ret
          exact ⟨by rw [HF.out]; rfl, rfl⟩
        · have HA2 : Hid (totF z 0 = totF (z.drop (k + 1)) (n + x.toNat)) := hidden (by rw [HA.out, HS.out, if_neg (by omega)])
          go_wp2
          go_roundw
          case rel => exact ⟨k + 1, n + x.toNat, by omega, by omega, by go_num, by go_num, HA2, by first | trivial | rfl⟩
          case measure => simp [intOf]; omega
    · have hkm : k = m := by omega
      subst hkm
      have HF : Hid (totI (totF z 0) = (n : Int)) := hidden (by rw [HA.out, HEND.out]; rfl)
      go_wp2
      go_ret
      exact ⟨by rw [HF.out]; rfl, rfl⟩
end Go.Proofs.Ytpdicijoohahaaa
