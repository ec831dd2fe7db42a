/- Chapter 5, the program: LensCost. -/
import Derived.Test.YtdeikdlbgjpooaaI3K
import Derived.Test.YtdeikdlbgjpooaaC5P
import Derived.Test.YtdeikdlbgjpooaaMath
namespace Go.Proofs.Ytdeikdlbgjpooaa
set_option linter.unusedVariables false
set_option linter.unusedSimpArgs false
open Go.RowKit

set_option maxHeartbeats 2000000 in
set_option maxRecDepth 100000 in
theorem implLensCost_any (a : Option Addr) (cap B : Nat) (ls : List Int) (w : World) (hz : Ints w B a ls) :
    Calls Try.prog 12 #[.slice a ls.length cap] w fun e w' => e = .returned (.int .i64 (costL ls)) ∧ Below w.heap.size w w' := by
  have K1 := hidden (implLensOk_any a cap B ls w hz)
  by_cases hok : lOk ls = true
  · have hr := lOk_range hok
    have HF : Hid (costL ls = ((5 + ls.length + 2 * gapS ls ls.length : Nat) : Int)) := hidden (by unfold costL put5; rw [if_pos hok, putN_count ls _ (Nat.le_refl _)])
    have HLN : Hid (∀ s, s < ls.length → ls.getD s 0 = (lnF ls s : Int) ∧ 1 ≤ lnF ls s ∧ lnF ls s ≤ 20) := hidden (fun s hs => ⟨lnF_int hr s hs, lRange_ln hr s hs⟩)
    have HGS : Hid (∀ k, gapS ls (k + 1) = gapS ls k + gap (lnF ls (k - 1)) (lnF ls k)) := hidden (fun k => by
      rw [gapS_succ]
      by_cases h : k = 0
      · subst h; simp [gap]
      · rw [if_neg h])
    have HG0 : Hid (gapS ls 0 = 0) := hidden rfl
    obtain ⟨G, hG⟩ : ∃ G, gapS ls = G := ⟨_, rfl⟩
    obtain ⟨l, hl⟩ : ∃ l, lnF ls = l := ⟨_, rfl⟩
    obtain ⟨n, hn⟩ : ∃ n, ls.length = n := ⟨_, rfl⟩
    have hn1 : 1 ≤ n := by rw [← hn]; exact hr.1
    have hn2 : n ≤ 260 := by rw [← hn]; exact hr.2.1
    obtain ⟨b, off, rfl, hb, hc⟩ := hz.2.2 (by omega)
    have HC := hidden hc
    rw [hok] at K1
    rw [hG] at HF HGS HG0
    rw [hl] at HLN HGS
    rw [hn] at K1 HF HLN HC ⊢
    have c00 := HC.out 0 (by omega)
    rw [(HLN.out 0 (by omega)).1] at c00
    simp only [Nat.add_zero] at c00
    clear hz hc hok hr hG hl hn
    go_enter Try.func12, Try.ntmps12
    go_wp2_with fail
    refine K1.out.mono ?_
    rintro e w' ⟨rfl, rfl⟩
    go_wp2
    go_loopw [3, 4, 6, 15] (fun sv sl _ si wr => ∃ k q nq : Nat, k ≤ n ∧ si = .int .i64 k ∧ sv = .int .i64 q ∧ sl = .int .i64 (l (k - 1) : Nat) ∧ Hid (q = 5 + k + 2 * G k) ∧ q ≤ 5 + 40 * k ∧ wr = w'.drewN nq) (fun _ _ _ si _ => n - (intOf si).toNat)
    case atStart => exact ⟨0, 5, 0, Nat.zero_le _, rfl, rfl, rfl, hidden (by rw [HG0.out]), by omega, rfl⟩
    case round =>
      obtain ⟨k, q, nq, hk, rfl, rfl, rfl, HQ, hq, rfl⟩ := hrel
      by_cases hlt : k < n
      · have h1 := HLN.out k hlt
        have h0 := HLN.out (k - 1) (by omega)
        have ck := HC.out k hlt
        rw [h1.1] at ck
        have HN := hidden (HGS.out k)
        have hk1 : l (k + 1 - 1) = l k := rfl
        obtain ⟨x, hx⟩ : ∃ x, l (k - 1) = x := ⟨_, rfl⟩
        obtain ⟨y, hy⟩ : ∃ y, l k = y := ⟨_, rfl⟩
        rw [hx] at h0 HN ⊢
        rw [hy] at h1 ck HN hk1
        have hxr := h0.2
        have hyr := h1.2
        have HK1 := hidden hk1
        unfold gap at HN
        clear h0 h1 hx hy hk1 c00
        by_cases hlt2 : y ≤ x
        · go_wp2
          exact ⟨⟨k + 1, q + (2 * (x - y) + 1), _, by omega, by go_num, by congr 1; split <;> omega, by rw [HK1.out], hidden (by rw [HN.out, HQ.out]; omega), by omega, rfl⟩, by simp [intOf]; omega⟩
        · go_wp2
          exact ⟨⟨k + 1, q + (2 * (y - x) + 1), _, by omega, by go_num, by congr 1; split <;> omega, by rw [HK1.out], hidden (by rw [HN.out, HQ.out]; omega), by omega, rfl⟩, by simp [intOf]; omega⟩
      · have e : k = n := by omega
        subst e
        go_wp2
        go_ret
        exact ⟨ret_int (by rw [HF.out, HQ.out]), bel_drewN (Below.refl _ _) _⟩
  · have HF : Hid (costL ls = -1) := hidden (by unfold costL; rw [if_neg hok])
    have h2 : lOk ls = false := by simpa using hok
    rw [h2] at K1
    obtain ⟨n, hn⟩ : ∃ n, ls.length = n := ⟨_, rfl⟩
    rw [hn] at K1 ⊢
    clear hz hok h2 hn
    go_enter Try.func12, Try.ntmps12
    go_wp2_with fail
    refine K1.out.mono ?_
    rintro e w' ⟨rfl, rfl⟩
    go_wp2
    go_ret
    exact ⟨ret_int HF.out.symm, Below.refl _ _⟩
end Go.Proofs.Ytdeikdlbgjpooaa
