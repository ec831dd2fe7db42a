/- Chapter 5: PutLens, LensCost (the model). -/
import Derived.Test.YtdeikdlbgjpooaaC5
import Derived.Deep.RegionHeld3
namespace Go.Proofs.Ytdeikdlbgjpooaa
set_option linter.unusedVariables false
set_option linter.unusedSimpArgs false
open Go.RowKit

theorem put5_le {ls : List Int} (h : lOk ls = true) : (put5 ls).length ≤ 20000 := by
  have hr := lOk_range h
  have := putN_le hr ls.length (Nat.le_refl _)
  have := hr.2.1
  unfold put5
  omega
set_option maxHeartbeats 2000000 in
set_option maxRecDepth 100000 in
theorem specPutLens_yes (a : Option Addr) (cap B : Nat) (ls : List Int) (w : World) (hz : Ints w B a ls) (hB : B ≤ w.heap.size) (hok : lOk ls = true) :
    Calls Try.prog 6 #[.slice a ls.length cap] w fun e w' => ∃ D, Packs D (put5 ls) ∧ e = .returned (.tuple #[.agg #[.string (strOf D), .int .i64 ((put5 ls).length : Int)], .bool true]) ∧ Below w.heap.size w w' := by
  have HI := hidden hz
  have bb : Below w.heap.size w (w.alloc (.cells #[.string ⟨#[]⟩, .int .i64 0] 24)) := (Below.refl _ _).alloc (Nat.le_refl _) _
  have hR := Has.fresh w 24 #[.string ⟨#[]⟩, .int .i64 0]
  have K1 := hidden (fun W h => specLensOk_any a cap B ls W h)
  have K3 := hidden (fun W h h2 => l5put_any a cap B ls W h h2 hok)
  have hle := put5_le hok
  have K4 := hidden (fun (W : World) v base h => l1close_own (put5 ls) (putN_lt ls _) v base W (by omega) h)
  obtain ⟨P, hP⟩ : ∃ P, put5 ls = P := ⟨_, rfl⟩
  obtain ⟨n, hn⟩ : ∃ n, ls.length = n := ⟨_, rfl⟩
  rw [hok] at K1
  rw [hP] at K3 K4 ⊢
  rw [hn] at K1 K3 ⊢
  clear hz hok hle hP hn
  go_enter Try.func6, Try.ntmps6
  go_wp2_with fail
  refine (K1.out _ (HI.out.below (bb.mono hB))).mono ?_
  rintro e w1 ⟨rfl, hw1⟩
  rw [← hw1] at hR bb
  clear hw1
  have hs2 := bb.size
  go_wp2_with fail
  refine (K3.out _ (HI.out.below (bb.mono hB)) (Nat.le_trans hB hs2)).mono ?_
  rintro e w3 ⟨v, rfl, hown, b3⟩
  replace bb := bel_then b3 hs2 bb
  replace hR := hR.below b3 hR.lt
  have hs3 := bb.size
  clear b3
  go_wp2_with fail
  refine (K4.out _ _ _ hown).mono ?_
  rintro e w4 ⟨D, hD, rfl, b4⟩
  replace bb := bel_then b4 hs3 bb
  replace hR := hR.below b4 hR.lt
  have e0 := hR.cell 0
  have e1 := hR.cell 1
  have g0 := hR.free 0
  have g1 := hR.free 1
  simp at e0 e1
  have hs4 := bb.size
  clear b4 hown hR
  go_wp2
  refine bodyPost_ret (v := .tuple #[.agg #[.string (strOf D), .int .i64 (P.length : Int)], .bool true]) (by simp [results, Try.results6, go_sem, e0, e1, g0, g1]) rfl ⟨D, hD, rfl, ?_⟩
  repeat (first | exact Below.refl _ _ | assumption | refine Below.alloc ?_ (by (try simp); (try omega)) _ | refine Below.setCell ?_ (by (try simp); (try omega)) _ | refine Below.drew ?_ | refine bel_then (by assumption) (by (try simp); (try omega)) ?_)
set_option maxHeartbeats 2000000 in
set_option maxRecDepth 100000 in
theorem specPutLens_no (a : Option Addr) (cap B : Nat) (ls : List Int) (w : World) (hz : Ints w B a ls) (hB : B ≤ w.heap.size) (hok : lOk ls = false) :
    Calls Try.prog 6 #[.slice a ls.length cap] w fun e w' => e = .returned (.tuple #[.agg #[.string ⟨#[]⟩, .int .i64 0], .bool false]) ∧ Below w.heap.size w w' := by
  have HI := hidden hz
  have bb : Below w.heap.size w (w.alloc (.cells #[.string ⟨#[]⟩, .int .i64 0] 24)) := (Below.refl _ _).alloc (Nat.le_refl _) _
  have hR := Has.fresh w 24 #[.string ⟨#[]⟩, .int .i64 0]
  have K1 := hidden (fun W h => specLensOk_any a cap B ls W h)
  rw [hok] at K1
  obtain ⟨n, hn⟩ : ∃ n, ls.length = n := ⟨_, rfl⟩
  rw [hn] at K1 ⊢
  clear hz hok hn
  go_enter Try.func6, Try.ntmps6
  go_wp2_with fail
  refine (K1.out _ (HI.out.below (bb.mono hB))).mono ?_
  rintro e w1 ⟨rfl, hw1⟩
  rw [← hw1] at hR bb
  clear hw1
  have e0 := hR.cell 0
  have e1 := hR.cell 1
  have g0 := hR.free 0
  have g1 := hR.free 1
  simp at e0 e1
  have hs1 := bb.size
  clear hR
  go_wp2
  refine bodyPost_ret (v := .tuple #[.agg #[.string ⟨#[]⟩, .int .i64 0], .bool false]) (by simp [results, Try.results6, go_sem, e0, e1, g0, g1]) rfl ⟨rfl, ?_⟩
  repeat (first | exact Below.refl _ _ | assumption | refine Below.alloc ?_ (by (try simp); (try omega)) _ | refine Below.setCell ?_ (by (try simp); (try omega)) _ | refine Below.drew ?_ | refine bel_then (by assumption) (by (try simp); (try omega)) ?_)
set_option maxHeartbeats 2000000 in
set_option maxRecDepth 100000 in
theorem specLensCost_any (a : Option Addr) (cap B : Nat) (ls : List Int) (w : World) (hz : Ints w B a ls) :
    Calls Try.prog 11 #[.slice a ls.length cap] w fun e w' => e = .returned (.int .i64 (costL ls)) ∧ Below w.heap.size w w' := by
  have K1 := hidden (specLensOk_any a cap B ls w hz)
  by_cases hok : lOk ls = true
  · have hr := lOk_range hok
    have HF : Hid (costL ls = ((5 + ls.length + 2 * gapS ls ls.length : Nat) : Int)) := hidden (by unfold costL put5; rw [if_pos hok, putN_count ls _ (Nat.le_refl _)])
    have HLN : Hid (∀ s, s < ls.length → ls.getD s 0 = (lnF ls s : Int) ∧ 1 ≤ lnF ls s ∧ lnF ls s ≤ 20) := hidden (fun s hs => ⟨lnF_int hr s hs, lRange_ln hr s hs⟩)
    have HGS := hidden (gapS_succ ls)
    have HG1 : Hid (gapS ls 1 = 0) := hidden rfl
    obtain ⟨G, hG⟩ : ∃ G, gapS ls = G := ⟨_, rfl⟩
    obtain ⟨l, hl⟩ : ∃ l, lnF ls = l := ⟨_, rfl⟩
    obtain ⟨n, hn⟩ : ∃ n, ls.length = n := ⟨_, rfl⟩
    have hn1 : 1 ≤ n := by rw [← hn]; exact hr.1
    have hn2 : n ≤ 260 := by rw [← hn]; exact hr.2.1
    obtain ⟨b, off, rfl, hb, hc⟩ := hz.2.2 (by omega)
    have HC := hidden hc
    rw [hok] at K1
    rw [hG] at HF HGS HG1
    rw [hl] at HLN HGS
    rw [hn] at K1 HF HLN HC ⊢
    clear hz hc hok hr hG hl hn
    go_enter Try.func11, Try.ntmps11
    go_wp2_with fail
    refine K1.out.mono ?_
    rintro e w' ⟨rfl, rfl⟩
    go_wp2
    go_loopw [3, 4, 5] (fun sv si _ wr => ∃ k q nq : Nat, 1 ≤ k ∧ k ≤ n ∧ si = .int .i64 k ∧ sv = .int .i64 q ∧ Hid (q = 5 + n + 2 * G k) ∧ q ≤ 265 + 40 * k ∧ wr = w'.drewN nq) (fun _ si _ _ => n - (intOf si).toNat)
    case atStart => exact ⟨1, 5 + n, 0, Nat.le_refl _, hn1, rfl, by simp, hidden (by rw [HG1.out]; rfl), by omega, rfl⟩
    case round =>
      obtain ⟨k, q, nq, hk1, hk, rfl, rfl, HQ, hq, rfl⟩ := hrel
      by_cases hlt : k < n
      · have h1 := HLN.out k hlt
        have h0 := HLN.out (k - 1) (by omega)
        have ck := HC.out k hlt
        have c0 := HC.out (k - 1) (by omega)
        rw [h1.1] at ck
        rw [h0.1] at c0
        have HN : Hid (G (k + 1) = G k + gap (l (k - 1)) (l k)) := hidden (by rw [HGS.out, if_neg (by omega)])
        obtain ⟨x, hx⟩ : ∃ x, l (k - 1) = x := ⟨_, rfl⟩
        obtain ⟨y, hy⟩ : ∃ y, l k = y := ⟨_, rfl⟩
        rw [hx] at h0 c0 HN
        rw [hy] at h1 ck HN
        obtain ⟨j, hj⟩ : ∃ j, k - 1 = j := ⟨_, rfl⟩
        rw [hj] at c0
        have hjI : (k : Int) - 1 = (j : Int) := by omega
        have hxr := h0.2
        have hyr := h1.2
        have HJ := hidden hj
        unfold gap at HN
        clear h0 h1 hx hy hj
        by_cases hlt2 : y < x
        · have hd : ((y : Int) - (x : Int)) < 0 := by omega
          go_wp2
          go_quiet (fail)
          go_wp2
          exact ⟨⟨k + 1, q + 2 * (x - y), _, by omega, by omega, by go_num, by first | go_num | (congr 1; omega), hidden (by rw [HN.out, HQ.out]; omega), by omega, rfl⟩, by simp [intOf]; omega⟩
        · have hd : ¬ ((y : Int) - (x : Int)) < 0 := by omega
          go_wp2
          go_quiet (fail)
          go_wp2
          exact ⟨⟨k + 1, q + 2 * (y - x), _, by omega, by omega, by go_num, by first | go_num | (congr 1; omega), hidden (by rw [HN.out, HQ.out]; omega), by omega, rfl⟩, by simp [intOf]; omega⟩
      · have e : k = n := by omega
        subst e
        go_wp2
        go_ret
        exact ⟨ret_int (by rw [HF.out, HQ.out]), bel_drewN (Below.refl _ _) _⟩
  · have HF : Hid (costL ls = -1) := hidden (by unfold costL; rw [if_neg hok])
    have h2 : lOk ls = false := by simpa using hok
    rw [h2] at K1
    obtain ⟨n, hn⟩ : ∃ n, ls.length = n := ⟨_, rfl⟩
    rw [hn] at K1 ⊢
    clear hz hok h2 hn
    go_enter Try.func11, Try.ntmps11
    go_wp2_with fail
    refine K1.out.mono ?_
    rintro e w' ⟨rfl, rfl⟩
    go_wp2
    go_ret
    exact ⟨ret_int HF.out.symm, Below.refl _ _⟩
end Go.Proofs.Ytdeikdlbgjpooaa
