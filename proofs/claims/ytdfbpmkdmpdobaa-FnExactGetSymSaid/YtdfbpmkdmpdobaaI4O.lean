/- Chapter 4, the program: the order of the symbols. -/
import Derived.Test.YtdfbpmkdmpdobaaC4B
import Derived.Test.YtdfbpmkdmpdobaaI3K
import Derived.Deep.LoopGhost
namespace Go.Proofs.Ytdfbpmkdmpdobaa
set_option linter.unusedVariables false
set_option linter.unusedSimpArgs false
open Go.RowKit

theorem lenIs_pre (n : Nat) (l : Nat → Nat) (m i k : Nat) : lenIs n l m i <+: lenIs n l m (i + k) := by
  induction k with
  | zero => exact List.prefix_refl _
  | succ k ih =>
    rw [← Nat.add_assoc, lenIs_succ]
    split
    · exact ih.trans (List.prefix_append _ _)
    · exact ih
theorem ordU_pre (n : Nat) (l : Nat → Nat) (m k : Nat) : ordU n l m <+: ordU n l (m + k) := by
  induction k with
  | zero => exact List.prefix_refl _
  | succ k ih => exact ih.trans (List.prefix_append _ _)
/-- An order that has every symbol is the whole one. -/
theorem ord_full (n : Nat) (l : Nat → Nat) (h : ∀ s, s < n → 1 ≤ l s ∧ l s ≤ 20) (m i : Nat) (hm : m < 20) (hi : i ≤ n) (he : (ordU n l m ++ lenIs n l (m + 1) i).length = n) : ordU n l m ++ lenIs n l (m + 1) i = ordU n l 20 := by
  have p1 : ordU n l m ++ lenIs n l (m + 1) i <+: ordU n l (m + 1) := by
    have := lenIs_pre n l (m + 1) i (n - i)
    rw [show i + (n - i) = n by omega] at this
    rw [ordU]
    exact (List.prefix_append_right_inj _).2 this
  have p2 := ordU_pre n l (m + 1) (19 - m)
  rw [show m + 1 + (19 - m) = 20 by omega] at p2
  exact (p1.trans p2).eq_of_length (by rw [he, ordU_len n l h])
set_option maxHeartbeats 4000000 in
set_option maxRecDepth 100000 in
theorem orderOf_any (a : Option Addr) (cap B : Nat) (ls : List Int) (w : World) (hz : Ints w B a ls) (hB : B ≤ w.heap.size) (hok : lOk ls = true) :
    Calls Try.prog 61 #[.slice a ls.length cap] w fun e w' => ∃ v, e = .returned v ∧ w'.ownsRow w.heap.size 3 1 v ls.length (natsL (ordF ls)) ∧ Below w.heap.size w w' := by
  obtain ⟨i0, hi, hz0, hz1, hz2⟩ := info_parts Try.infoInt
  have hr := lOk_range hok
  have HLEN := hidden (ordF_len hr)
  have HLN : Hid (∀ s, s < ls.length → ls.getD s 0 = (lnF ls s : Int)) := hidden (fun s hs => lnF_int hr s hs)
  have HFU := hidden (fun m i h1 h2 h3 => ord_full ls.length (lnF ls) (lRange_ln hr) m i h1 h2 h3)
  have HO : Hid (ordF ls = ordU ls.length (lnF ls) 20) := hidden rfl
  obtain ⟨n, hn⟩ : ∃ n, ls.length = n := ⟨_, rfl⟩
  have hn1 : 1 ≤ n := by rw [← hn]; exact hr.1
  have hn2 : n ≤ 260 := by rw [← hn]; exact hr.2.1
  obtain ⟨b, off, rfl, hb, hc⟩ := hz.2.2 (by omega)
  have HC := hidden hc
  obtain ⟨l, hl⟩ : ∃ l, lnF ls = l := ⟨_, rfl⟩
  rw [hn] at HLEN HLN HC HO HFU ⊢
  rw [hl] at HLN HO HFU
  have hbw : b < w.heap.size := by omega
  clear hz hr hn hc hok hl
  go_enter Try.func61, Try.ntmps61
  go_wp2
  go_step3
  go_wp2_with (at_make; refine wpList_make_own _ rfl _ _ 23 rfl w.heap.size 3 i0 (.int .i64 0) 1 Try.underlying23 hi hz0 hz1 _ _ _ n rfl rfl rfl ?b2 ?b3 (Nat.le_refl _) ?_)
  case b2 => rw [hz2]; omega
  case b3 => unfold maxLen; omega
  intro w1 hown0 hg0
  have hbl0 : Below w.heap.size w w1 := (Below.refl _ _).grown hg0 (Nat.le_refl _) (by simp)
  clear hg0
  go_wp2
  go_step3
  go_wp2
  go_loopg [3, 4, 5, 6] 21 (fun g v sn _ _ wr => ∃ m : Nat, m + g = 21 ∧ m ≤ 20 ∧ sn = .int .i64 ((m : Int) + 1) ∧ (ordU n l m).length < n + 1 ∧ wr.ownsRow w.heap.size 3 1 v (ordU n l m).length (natsL (ordU n l m)) ∧ Below w.heap.size w wr)
  case atStart => exact ⟨0, rfl, by omega, rfl, by simp [ordU], hown0, hbl0⟩
  case round =>
    obtain ⟨m, hmg, hm, rfl, hml, hown, hbl⟩ := hrel
    have HGK := hidden hmg
    by_cases hm20 : m < 20
    · have hmI : (m : Int) + 1 ≤ 20 := by omega
      have e0 : ordU n l m ++ lenIs n l (m + 1) 0 = ordU n l m := by simp [lenIs]
      clear hmg
      go_wp2
      obtain ⟨wo, rfl⟩ : ∃ wo : World, wo = wr := ⟨_, rfl⟩
      have HGO := hidden (rfl : gk = gk)
      obtain ⟨go, rfl⟩ : ∃ go : Nat, go = gk := ⟨_, rfl⟩
      go_loopg [3, 5, 6, 16] n (fun g v _ _ si wx => ∃ i : Nat, i + g = n ∧ si = .int .i64 i ∧ wx.ownsRow w.heap.size 3 1 v (ordU n l m ++ lenIs n l (m + 1) i).length (natsL (ordU n l m ++ lenIs n l (m + 1) i)) ∧ Below w.heap.size w wx)
      case atStart => exact ⟨0, by omega, rfl, by rw [e0]; exact hown, hbl⟩
      case round =>
        obtain ⟨i, hig, rfl, hown1, hbl1⟩ := hrel
        have hsz := hbl1.size
        by_cases hlt : i < n
        · have ck := (hbl1.cell (p := ⟨b, off + i, none⟩) hbw).trans (HC.out i hlt)
          rw [HLN.out i hlt] at ck
          have hP := ordP_length n l m i (by omega)
          obtain ⟨P, hPe⟩ : ∃ P, ordU n l m ++ lenIs n l (m + 1) i = P := ⟨_, rfl⟩
          rw [hPe] at hown1 hP
          have HIG := hidden hig
          clear hig
          by_cases he : l i = m + 1
          · have heI : ((l i : Int) != (m : Int) + 1) = false := by rw [bne_eq_false_iff_eq]; omega
            have HN : Hid (ordU n l m ++ lenIs n l (m + 1) (i + 1) = P ++ [i]) := hidden (by rw [lenIs_succ, if_pos he, ← List.append_assoc, hPe])
            have hPl : P.length < n := by
              have := ordP_length n l m (i + 1) (by omega)
              rw [HN.out] at this; simp at this; omega
            obtain ⟨p, hp⟩ : ∃ p, P.length = p := ⟨_, rfl⟩
            rw [hp] at hown1 hPl
            have HPL := hidden hp
            clear hPe he hP hp
            by_cases hfull : p + 1 = n
            · have hfI : ((p : Int) + 1 == (n : Int)) = true := by rw [beq_iff_eq]; omega
              have hfN : ((((p + 1 : Nat) : Int)) == (n : Int)) = true := by rw [beq_iff_eq]; omega
              have HF : Hid (P ++ [i] = ordF ls) := hidden (by rw [← HN.out, HO.out]; exact HFU.out m (i + 1) hm20 (by omega) (by rw [HN.out, List.length_append, HPL.out]; exact hfull))
              go_wp2_with (at_builtin; refine wpList_append_own_at _ rfl _ _ 23 rfl w.heap.size 3 i0 (.int .i64 0) 1 8 Try.underlying23 hi hz0 hz1 hz2 rfl (by decide) _ _ _ rfl (hown1.alloc _) ⟨wr.heap.size, 0, none⟩ 1 1 [.int .i64 (i : Int)] rfl rfl ?ca2 ?ca3 ?ca4 ?ca5 ?ca6 ?_)
              case ca3 => first | rfl | exact fun u hu => by simp at hu; subst hu; rfl
              case ca4 => unfold maxLen; omega
              case ca5 => omega
              case ca6 => first | omega | (simp; omega)
              intro v3 w3 hown3 hgrow _ _
              have hbl3 : Below w.heap.size w w3 := (hbl1.alloc (by omega) _).grown hgrow (by simp; omega) (fun b hb => (hown1.lt b hb).1)
              have hownN : w3.ownsRow w.heap.size 3 1 v3 n (natsL (ordF ls)) := by rw [← HF.out, natsL_append]; first | exact hown3 | (rw [← hfull]; exact hown3)
              obtain ⟨g3, c3, hv3⟩ := Joins.ownsRow_form hownN (by omega)
              subst hv3
              have hnn : ((n : Int) == (n : Int)) = true := by simp
              clear hown3 hgrow hown1 hbl1 hfI hfN hown ck hbl
              go_wp2
              (try rw [Exit.noGoto_ret])
              go_ret
              exact ⟨_, rfl, hownN, hbl3⟩
            · have hfI : ((p : Int) + 1 == (n : Int)) = false := by rw [beq_eq_false_iff_ne]; omega
              have hfN : ((((p + 1 : Nat) : Int)) == (n : Int)) = false := by rw [beq_eq_false_iff_ne]; omega
              go_wp2_with (at_builtin; refine wpList_append_own_at _ rfl _ _ 23 rfl w.heap.size 3 i0 (.int .i64 0) 1 8 Try.underlying23 hi hz0 hz1 hz2 rfl (by decide) _ _ _ rfl (hown1.alloc _) ⟨wr.heap.size, 0, none⟩ 1 1 [.int .i64 (i : Int)] rfl rfl ?cb2 ?cb3 ?cb4 ?cb5 ?cb6 ?_)
              case cb3 => first | rfl | exact fun u hu => by simp at hu; subst hu; rfl
              case cb4 => unfold maxLen; omega
              case cb5 => omega
              case cb6 => first | omega | (simp; omega)
              intro v3 w3 hown3 hgrow _ _
              have hbl3 : Below w.heap.size w w3 := (hbl1.alloc (by omega) _).grown hgrow (by simp; omega) (fun b hb => (hown1.lt b hb).1)
              have hownN : w3.ownsRow w.heap.size 3 1 v3 (p + 1) (natsL (P ++ [i])) := by rw [natsL_append]; exact hown3
              obtain ⟨g3, c3, hv3⟩ := Joins.ownsRow_form hownN (by omega)
              subst hv3
              clear hown3 hgrow hown1 hbl1 hown ck hbl
              go_wp2
              go_roundg (gk - 1)
              case measure => have := HIG.out; omega
              case rel => exact ⟨i + 1, by have := HIG.out; omega, by go_num, by rw [HN.out, List.length_append, HPL.out]; exact hownN, hbl3⟩
          · have heI : ((l i : Int) != (m : Int) + 1) = true := by rw [bne_iff_ne]; omega
            have HN : Hid (ordU n l m ++ lenIs n l (m + 1) (i + 1) = P) := hidden (by rw [lenIs_succ, if_neg he, hPe])
            clear hPe he hP
            go_wp2
            go_roundg (gk - 1)
            case measure => have := HIG.out; omega
            case rel => exact ⟨i + 1, by have := HIG.out; omega, by go_num, by rw [HN.out]; exact hown1, hbl1⟩
        · have hin : i = n := by omega
          subst hin
          have hle := ordU_length i l (m + 1)
          have HLE := hidden hle
          clear hown hbl hle
          go_wp2
          go_roundg (go - 1)
          case measure => have := HGK.out; omega
          case rel => exact ⟨m + 1, by have := HGK.out; omega, by omega, by go_num, by have := HLE.out; omega, hown1, hbl1⟩
    · have hm2 : m = 20 := by omega
      have HE : ordU n l m = ordF ls := by rw [HO.out, hm2]
      rw [HE, HLEN.out] at hown
      have hmI : ¬ (m : Int) + 1 ≤ 20 := by omega
      clear HE HO hm2 hml hmg
      go_wp2
      (try rw [Exit.noGoto_ret])
      go_ret
      exact ⟨_, rfl, hown, hbl⟩
end Go.Proofs.Ytdfbpmkdmpdobaa
