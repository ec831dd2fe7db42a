/- Chapter 5: the bits of lengths, their count (the model). -/
import Derived.Test.YtdeikdlbgjpooaaC5P
import Derived.Test.YtdeikdlbgjpooaaC1Close
import Derived.Maps.AppendAt
import Derived.OwnWalk
import Derived.Deep.QuietTactic
import Derived.BigQuiet
namespace Go.Proofs.Ytdeikdlbgjpooaa
set_option linter.unusedVariables false
set_option linter.unusedSimpArgs false
open Go.RowKit

theorem cell_two (w : World) (u v : Value) (T : TypeId) : ∀ (j : Nat) (x : Value), [u, v][j]? = some x → (w.alloc (.cells #[u, v] T)).cell? ((⟨w.heap.size, 0, none⟩ : Addr).add j) = some x := by
  intro j x h
  have hF := Has.fresh w T #[u, v]
  match j, h with
  | 0, h => simp at h; subst h; exact hF.cell 0
  | 1, h => simp at h; subst h; exact hF.cell 1
  | j + 2, h => simp at h
set_option maxHeartbeats 4000000 in
set_option maxRecDepth 100000 in
theorem l5put_any (a : Option Addr) (cap B : Nat) (ls : List Int) (w : World) (hz : Ints w B a ls) (hB : B ≤ w.heap.size) (hok : lOk ls = true) :
    Calls Try.prog 22 #[.slice a ls.length cap] w fun e w' => ∃ v, e = .returned v ∧ w'.ownsRow w.heap.size 5 1 v (put5 ls).length (u8s (put5 ls)) ∧ Below w.heap.size w w' := by
  obtain ⟨i0, hi, hz0, hz1, hz2⟩ := info_parts Try.info5
  have hr := lOk_range hok
  have HLN : Hid (∀ s, s < ls.length → ls.getD s 0 = (lnF ls s : Int) ∧ 1 ≤ lnF ls s ∧ lnF ls s ≤ 20) := hidden (fun s hs => ⟨lnF_int hr s hs, lRange_ln hr s hs⟩)
  have HLE := hidden (fun k hk => putN_le hr k hk)
  have HNR := hidden (fun k hk => nowN_range hr k hk)
  have HPS : Hid (∀ k, k < ls.length → putN ls (k + 1) = putN ls k ++ stepB (nowN ls k) (lnF ls k) ∧ nowN ls (k + 1) = lnF ls k) := hidden (fun k hk => ⟨putN_succ ls k hk, nowN_succ ls k hk⟩)
  have HP0 : Hid (putN ls 0 = nbits (lnF ls 0) 5 ∧ nowN ls 0 = lnF ls 0) := hidden ⟨putN_zero ls, nowN_zero ls⟩
  have HPA : Hid (put5 ls = putN ls ls.length) := hidden rfl
  obtain ⟨P, hP⟩ : ∃ P, putN ls = P := ⟨_, rfl⟩
  obtain ⟨Nw, hN⟩ : ∃ N, nowN ls = N := ⟨_, rfl⟩
  obtain ⟨l, hl⟩ : ∃ l, lnF ls = l := ⟨_, rfl⟩
  obtain ⟨n, hn⟩ : ∃ n, ls.length = n := ⟨_, rfl⟩
  have hn1 : 1 ≤ n := by rw [← hn]; exact hr.1
  have hn2 : n ≤ 260 := by rw [← hn]; exact hr.2.1
  obtain ⟨b, off, rfl, hb, hc⟩ := hz.2.2 (by omega)
  have HC := hidden hc
  rw [hP] at HLE HPS HP0 HPA
  rw [hN] at HNR HPS HP0
  rw [hl] at HLN HPS HP0
  rw [hn] at HLN HLE HNR HPS HC HPA ⊢
  have hbw : b < w.heap.size := by omega
  have h0 := HLN.out 0 (by omega)
  have c0 := hc 0 (by rw [hn]; omega)
  rw [h0.1] at c0
  simp only [Nat.add_zero] at c0
  obtain ⟨x0, hx0⟩ : ∃ x, l 0 = x := ⟨_, rfl⟩
  rw [hx0] at h0 c0 HP0
  have h0r := h0.2
  have K1 := hidden (fun W => l1num_any x0 5 W (by omega) (by omega))
  clear hz hr hn hc hok hl hP hN h0
  go_enter Try.func22, Try.ntmps22
  go_wp2_with fail
  refine (K1.out _).mono ?_
  rintro e w1 ⟨rfl, hown1, b1⟩
  have c1 := (b1.cell (p := ⟨b, off, none⟩) hbw).trans c0
  have hs1 := b1.size
  clear c0
  go_wp2
  go_loopw [3, 4, 5] (fun v sn si wr => ∃ k : Nat, k ≤ n ∧ si = .int .i64 k ∧ sn = .int .i64 (Nw k) ∧ wr.ownsRow w.heap.size 5 1 v (P k).length (u8s (P k)) ∧ Below w.heap.size w wr) (fun _ _ si _ => n - (intOf si).toNat)
  case atStart => exact ⟨0, by omega, rfl, by rw [HP0.out.2], by rw [HP0.out.1, nbits_len]; exact hown1, b1⟩
  case round =>
    obtain ⟨k, hk, rfl, rfl, hown, hbl⟩ := hrel
    by_cases hlt : k < n
    · have hln := HLN.out k hlt
      have hnr := HNR.out k (by omega)
      have hle := HLE.out (k + 1) (by omega)
      have hle0 := HLE.out k (by omega)
      obtain ⟨hps, hnw⟩ := HPS.out k hlt
      have hcx := HC.out k hlt
      rw [hln.1] at hcx
      obtain ⟨x, hx⟩ : ∃ x, l k = x := ⟨_, rfl⟩
      obtain ⟨now, hnow⟩ : ∃ x, Nw k = x := ⟨_, rfl⟩
      obtain ⟨L, hL⟩ : ∃ L, P k = L := ⟨_, rfl⟩
      rw [hx] at hln hps hnw hcx
      rw [hnow] at hnr hps ⊢
      rw [hL] at hps hle0 hown
      have hxr := hln.2
      rw [stepB_P] at hps
      have HS := hidden hps
      have HW := hidden hnw
      have HLl := hidden hle0
      clear hps hnw hnow hL hx hln hle hle0
      go_wp2
      go_loopw [3, 4] (fun v sn wx => ∃ j : Nat, j ≤ x - now ∧ sn = .int .i64 ((now + j : Nat) : Int) ∧ wx.ownsRow w.heap.size 5 1 v (L ++ upP j).length (u8s (L ++ upP j)) ∧ Below w.heap.size w wx) (fun _ sn _ => x - (intOf sn).toNat)
      case atStart => exact ⟨0, by omega, rfl, by simpa [upP] using hown, hbl⟩
      case round =>
        obtain ⟨j, hj, rfl, hown2, hbl2⟩ := hrel
        have hsz2 := hbl2.size
        have ck := (hbl2.cell (p := ⟨b, off + k, none⟩) hbw).trans hcx
        have HPl := hidden (show (L ++ upP j).length ≤ 20000 by rw [List.length_append, upP_len]; have := HLl.out; omega)
        by_cases hlt2 : now + j < x
        · have hI : ((now + j : Nat) : Int) < (x : Int) := by omega
          obtain ⟨p, hp⟩ : ∃ p, (L ++ upP j).length = p := ⟨_, rfl⟩
          have HN2 : Hid ((L ++ upP (j + 1)).length = p + 2 ∧ u8s (L ++ upP (j + 1)) = u8s (L ++ upP j) ++ [.int .u8 1, .int .u8 0]) := hidden (by
            rw [upP, ← List.append_assoc]
            exact ⟨by rw [List.length_append, hp]; rfl, by rw [u8s_append]; rfl⟩)
          have hpl := HPl.out
          rw [hp] at hown2 hpl
          obtain ⟨y, hy⟩ : ∃ y, now + j = y := ⟨_, rfl⟩
          rw [hy] at hI ⊢
          have HY := hidden hy
          clear hp hy hlt2 hj
          go_wp2_with (at_builtin; refine wpList_append_own_at _ rfl _ _ 43 rfl w.heap.size 5 i0 (.int .u8 0) 1 1 Try.underlying43 hi hz0 hz1 hz2 rfl (by decide) _ _ _ rfl (hown2.alloc _) ⟨wr.heap.size, 0, none⟩ 2 2 [.int .u8 1, .int .u8 0] rfl rfl ?ca2 ?ca3 ?ca4 ?ca5 ?ca6 ?_)
          case ca2 => exact cell_two _ _ _ _
          case ca3 => exact fun u hu => by simp at hu; rcases hu with rfl | rfl <;> rfl
          case ca4 => unfold maxLen; omega
          case ca5 => omega
          case ca6 => first | omega | (simp; omega)
          intro v3 w3 hown3 hgrow _ _
          have hbl3 : Below w.heap.size w w3 := (hbl2.alloc (by omega) _).grown hgrow (by simp; omega) (fun b hb => (hown2.lt b hb).1)
          have hownN : w3.ownsRow w.heap.size 5 1 v3 (L ++ upP (j + 1)).length (u8s (L ++ upP (j + 1))) := by rw [HN2.out.1, HN2.out.2]; exact hown3
          clear hown3 hgrow hown2 hbl2
          go_wp2
          go_roundw
          case rel => exact ⟨j + 1, by have := HY.out; omega, by have := HY.out; rw [show now + (j + 1) = y + 1 by omega]; go_num, hownN, hbl3⟩
          case measure => simp [intOf]; have := HY.out; omega
        · have hjx : j = x - now := by omega
          have hI : ¬ ((now + j : Nat) : Int) < (x : Int) := by omega
          obtain ⟨M, hM⟩ : ∃ M, L ++ upP j = M := ⟨_, rfl⟩
          rw [hM] at hown2 HPl
          have HM := hidden hM
          obtain ⟨y, hy⟩ : ∃ y, now + j = y := ⟨_, rfl⟩
          rw [hy] at hI ⊢
          have HY := hidden (show y = max now x by omega)
          have hyr : y ≤ 20 := by omega
          have HJ := hidden hjx
          clear hM hlt2 hy hj hjx
          go_wp2
          go_loopw [3, 4] (fun v sn wy => ∃ q : Nat, q ≤ now - x ∧ sn = .int .i64 ((y - q : Nat) : Int) ∧ wy.ownsRow w.heap.size 5 1 v (M ++ dnP q).length (u8s (M ++ dnP q)) ∧ Below w.heap.size w wy) (fun _ sn _ => (intOf sn).toNat)
          case atStart => exact ⟨0, by omega, rfl, by simpa [dnP] using hown2, hbl2⟩
          case round =>
            obtain ⟨q, hq, rfl, hown4, hbl4⟩ := hrel
            have hsz4 := hbl4.size
            have cq := (hbl4.cell (p := ⟨b, off + k, none⟩) hbw).trans hcx
            have hMl := HPl.out
            have HMl := hidden (show (M ++ dnP q).length ≤ 30000 by rw [List.length_append, dnP_len]; omega)
            by_cases hlt4 : x < y - q
            · have hI : (x : Int) < ((y - q : Nat) : Int) := by omega
              obtain ⟨p, hp⟩ : ∃ p, (M ++ dnP q).length = p := ⟨_, rfl⟩
              have HN2 : Hid ((M ++ dnP (q + 1)).length = p + 2 ∧ u8s (M ++ dnP (q + 1)) = u8s (M ++ dnP q) ++ [.int .u8 1, .int .u8 1]) := hidden (by
                rw [dnP, ← List.append_assoc]
                exact ⟨by rw [List.length_append, hp]; rfl, by rw [u8s_append]; rfl⟩)
              have hpl := HMl.out
              rw [hp] at hown4 hpl
              obtain ⟨z, hz⟩ : ∃ z, y - q = z := ⟨_, rfl⟩
              rw [hz] at hI ⊢
              have hz20 : z ≤ 20 := by omega
              have HZ := hidden hz
              have HQ := hidden (show q + 1 ≤ now - x by have := HY.out; omega)
              clear hp hz hlt4 hq ck
              go_wp2_with (at_builtin; refine wpList_append_own_at _ rfl _ _ 43 rfl w.heap.size 5 i0 (.int .u8 0) 1 1 Try.underlying43 hi hz0 hz1 hz2 rfl (by decide) _ _ _ rfl (hown4.alloc _) ⟨wr.heap.size, 0, none⟩ 2 2 [.int .u8 1, .int .u8 1] rfl rfl ?cb2 ?cb3 ?cb4 ?cb5 ?cb6 ?_)
              case cb2 => exact cell_two _ _ _ _
              case cb3 => exact fun u hu => by simp at hu; rcases hu with rfl | rfl <;> rfl
              case cb4 => unfold maxLen; omega
              case cb5 => omega
              case cb6 => first | omega | (simp; omega)
              intro v5 w5 hown5 hgrow _ _
              have hbl5 : Below w.heap.size w w5 := (hbl4.alloc (by omega) _).grown hgrow (by simp; omega) (fun b hb => (hown4.lt b hb).1)
              have hownN : w5.ownsRow w.heap.size 5 1 v5 (M ++ dnP (q + 1)).length (u8s (M ++ dnP (q + 1))) := by rw [HN2.out.1, HN2.out.2]; exact hown5
              clear hown5 hgrow hown4 hbl4
              go_wp2
              go_roundw
              case rel => exact ⟨q + 1, HQ.out, by have := HZ.out; rw [show ((y - (q + 1) : Nat) : Int) = (z : Int) - 1 by omega], hownN, hbl5⟩
              case measure => simp [intOf]; omega
            · have HQ := hidden (show q = now - x ∧ y - q = x by have := HY.out; omega)
              have hI : ¬ (x : Int) < ((y - q : Nat) : Int) := by omega
              obtain ⟨p, hp⟩ : ∃ p, (M ++ dnP q).length = p := ⟨_, rfl⟩
              have HN2 : Hid ((P (k + 1)).length = p + 1 ∧ u8s (P (k + 1)) = u8s (M ++ dnP q) ++ [.int .u8 0]) := hidden (by
                have e : P (k + 1) = (M ++ dnP q) ++ [0] := by
                  rw [HS.out, ← HM.out, ← HQ.out.1, ← HJ.out, List.append_assoc, List.append_assoc, List.append_assoc]
                rw [e]
                exact ⟨by rw [List.length_append, hp]; rfl, by rw [u8s_append]; rfl⟩)
              have hpl := HMl.out
              rw [hp] at hown4 hpl
              obtain ⟨z, hz⟩ : ∃ z, y - q = z := ⟨_, rfl⟩
              rw [hz] at hI ⊢
              have HZ := hidden hz
              clear hp hz hlt4 hq ck
              go_wp2_with (at_builtin; refine wpList_append_own_at _ rfl _ _ 43 rfl w.heap.size 5 i0 (.int .u8 0) 1 1 Try.underlying43 hi hz0 hz1 hz2 rfl (by decide) _ _ _ rfl (hown4.alloc _) ⟨wr.heap.size, 0, none⟩ 1 1 [.int .u8 0] rfl rfl ?cc2 ?cc3 ?cc4 ?cc5 ?cc6 ?_)
              case cc3 => first | rfl | exact fun u hu => by simp at hu; subst hu; rfl
              case cc4 => unfold maxLen; omega
              case cc5 => omega
              case cc6 => first | omega | (simp; omega)
              intro v5 w5 hown5 hgrow _ _
              have hbl5 : Below w.heap.size w w5 := (hbl4.alloc (by omega) _).grown hgrow (by simp; omega) (fun b hb => (hown4.lt b hb).1)
              have hownN : w5.ownsRow w.heap.size 5 1 v5 (P (k + 1)).length (u8s (P (k + 1))) := by rw [HN2.out.1, HN2.out.2]; exact hown5
              clear hown5 hgrow hown4 hbl4
              go_wp2
              exact ⟨⟨k + 1, by omega, by go_num, by rw [HW.out, ← HQ.out.2, HZ.out], hownN, hbl5⟩, by simp [intOf]; omega⟩
    · have hkn : k = n := by omega
      subst hkn
      go_wp2
      go_ret
      exact ⟨_, rfl, by rw [HPA.out]; exact hown, hbl⟩
end Go.Proofs.Ytdeikdlbgjpooaa
