/- Chapter 8: the inverse of sort-by-rank (the model). -/
import Derived.Test.YteaohgipndmciaaC8T
import Derived.Test.YteaohgipndmciaaC3Least
import Derived.Deep.RegionHeld3
import Derived.Deep.DrawnRows
import Derived.StillTailTactics
namespace Go.Proofs.Yteaohgipndmciaa
set_option linter.unusedVariables false
set_option linter.unusedSimpArgs false
open Go.RowKit
attribute [local go_sem ↓] Go.wp_at_zero Go.wp_at_succ

set_option maxHeartbeats 2000000 in
set_option maxRecDepth 100000 in
theorem specUnSbr_yes (a : Option Addr) (cap B m : Nat) (L : List Nat) (w : World) (hz : Ints w B a (ints L)) (hB : B ≤ w.heap.size) (hok : rOk (ints L) m = true) (hm1 : 1 ≤ m) (hm2 : m ≤ 256) (hL6 : L.length ≤ 600) (hLm : ∀ x ∈ L, x < m) :
    Calls Try.prog 45 #[.slice a L.length cap, .int .i64 m] w fun e w' => ∃ v, e = .returned v ∧ w'.ownsRow w.heap.size 3 1 v L.length (natsL (runF (usbF m) sb0 L)) ∧ Below w.heap.size w w' := by
  obtain ⟨i0, hi, hz0, hz1, hz2⟩ := info_parts Try.infoInt
  have KR := hidden (specRanksOk_any a cap B (ints L) m w hz (by rw [ints_len]; omega) (by omega) (by omega))
  rw [hok, ints_len] at KR
  have HZ := hidden hz
  have HLM := hidden hLm
  obtain ⟨A, hA⟩ : ∃ A, runF (usbF m) sb0 L = A := ⟨_, rfl⟩
  have HA := hidden hA
  rw [hA]
  obtain ⟨n, hn⟩ : ∃ n, L.length = n := ⟨_, rfl⟩
  have HN := hidden hn
  rw [hn] at KR hL6 ⊢
  clear hz hA hn hok hLm
  go_enter Try.func45, Try.ntmps45
  go_wp2_with fail
  refine KR.out.mono ?_
  rintro e w0 ⟨rfl, rfl⟩
  go_wp2_with (at_make; refine wpList_make_full _ rfl _ _ 39 rfl w.heap.size 3 i0 (.int .i64 0) 1 Try.underlying39 hi hz0 hz1 .i64 .i64 _ _ m rfl rfl rfl rfl ?cb1 ?cb2 ?cb3 ?_)
  case cb1 => rw [hz2]; omega
  case cb2 => unfold maxLen; omega
  case cb3 => exact Nat.le_refl _
  intro w1 hownA hgrow1
  have b1 := bel_made hgrow1
  have s1 := b1.size
  rw [made_nats] at hownA
  have hga := (hownA.lt w.heap.size rfl).2
  have HOA := hidden hownA
  clear hgrow1 hownA
  go_wp2_with (at_make; refine wpList_make_full _ rfl _ _ 39 rfl w.heap.size 3 i0 (.int .i64 0) 1 Try.underlying39 hi hz0 hz1 .i64 .i64 _ _ m rfl rfl rfl rfl ?cd1 ?cd2 ?cd3 ?_)
  case cd1 => rw [hz2]; omega
  case cd2 => unfold maxLen; omega
  case cd3 => exact s1
  intro w2 hownB hgrow2
  have b2 := bel_made hgrow2
  rw [made_nats] at hownB
  have hgb := (hownB.lt w1.heap.size rfl).2
  have HOB := hidden hownB
  have HOA2 := hidden (own_bel HOA.out b2)
  have b12 := bel_then b2 s1 b1
  obtain ⟨gb, hgbe⟩ : ∃ g, w1.heap.size = g := ⟨_, rfl⟩
  obtain ⟨M, hM⟩ : ∃ M, w2.heap.size = M := ⟨_, rfl⟩
  have HM : Hid (w2.heap.size = M) := hidden hM
  rw [hgbe] at HOB hga hgb ⊢
  rw [hM] at hgb
  have s12 := b12.size
  clear hgrow2 hownB b1 b2 HOA hM hgbe
  have HS0 : Hid (nats m (fun _ => 0) = nats m sb0.a ∧ nats m (fun _ => 0) = nats m sb0.b) := hidden ⟨rfl, rfl⟩
  have hA0 : w2.ownsRow w.heap.size 3 1 (.slice (some ⟨w.heap.size, 0, none⟩) m m) m (nats m sb0.a) := by rw [← HS0.out.1]; exact HOA2.out
  have hB0 : w2.ownsRow w.heap.size 3 1 (.slice (some ⟨gb, 0, none⟩) m m) m (nats m sb0.b) := by rw [← HS0.out.2]; exact HOB.out
  clear HOA2 HOB HS0
  have hs2M : M ≤ w2.heap.size := by rw [HM.out]; exact Nat.le_refl _
  have hwM : w.heap.size ≤ M := by omega
  have hga0 : w.heap.size ≤ gb := by omega
  have hga1 : w.heap.size < gb := hga
  go_wp2
  go_loopw [5, 8, 9] (fun vo si _ wr => ∃ (k : Nat) (s : SB) (D : List Nat), k ≤ n ∧ si = .int .i64 k ∧ Hid (A = D ++ runF (usbF m) s (L.drop k)) ∧ Hid (D.length = k) ∧ Hid s.ok ∧ Hid (s.t = k) ∧ wr.ownsRow w.heap.size 3 1 (.slice (some ⟨w.heap.size, 0, none⟩) m m) m (nats m s.a) ∧ wr.ownsRow w.heap.size 3 1 (.slice (some ⟨gb, 0, none⟩) m m) m (nats m s.b) ∧ wr.ownsRow M 3 1 vo k (natsL D) ∧ Below w.heap.size w wr ∧ M ≤ wr.heap.size) (fun _ si _ _ => n - (intOf si).toNat)
  case atStart => exact ⟨0, sb0, [], by omega, rfl, hidden (by rw [← HA.out]; rfl), hidden rfl, hidden sb0_ok, hidden rfl, hA0, hB0, World.ownsRow_nil _ _ _ _, b12, hs2M⟩
  case round =>
    obtain ⟨k, s, D, hk, rfl, HD, HDl, HOK, HT, hAr, hBr, hout, hbl, hMr⟩ := hrel
    clear hA0 hB0 b12 hs2M
    have hsz := hbl.size
    by_cases hlt : k < n
    · obtain ⟨b, off, rfl, hb, hc⟩ := (HZ.out.below (hbl.mono hB)).2.2 (by rw [ints_len, HN.out]; omega)
      have ck := ints_cell (B := B) hc k (by rw [HN.out]; exact hlt)
      have hxm := HLM.out _ (getD_mem7 L k (by rw [HN.out]; exact hlt))
      have HDR := hidden (drop_cons L k (by rw [HN.out]; exact hlt))
      obtain ⟨x, hx⟩ : ∃ x, L.getD k 0 = x := ⟨_, rfl⟩
      rw [hx] at ck hxm HDR
      have hkI : (k : Int) < n := by omega
      have hxI : (x : Int) < m := by omega
      have KB := hidden (fun (W : World) h1 h2 h3 => l8by_any w.heap.size w.heap.size gb m m m s.a s.b W h1 h2 h3 hm1 hm2 (fun q => by have := HOK.out q; have := HT.out; omega) (fun q => by have := HOK.out q; have := HT.out; omega))
      have HSM : Hid ((fun q => s.a q + s.b q) = s.sm) := hidden rfl
      rw [HSM.out] at KB
      have hPN := (byL_by s.sm m).1
      have hym := hPN.at hxm
      have HST : Hid (A = (D ++ [(byL s.sm m).getD x 0]) ++ runF (usbF m) (s.up ((byL s.sm m).getD x 0)) (L.drop (k + 1))) := hidden (by
        rw [HD.out, HDR.out, runF, List.append_assoc]; rfl)
      have HBYL : Hid (∀ (W : World) base g c, W.ownsRow base 3 1 (.slice (some ⟨g, 0, none⟩) m c) m (natsL (byL s.sm m)) → W.cell? ⟨g, x, none⟩ = some (.int .i64 (((byL s.sm m).getD x 0 : Nat) : Int))) := hidden (fun W base g c h => natsL_cell h x hxm (byL_len _ _))
      obtain ⟨y, hy⟩ : ∃ y, (byL s.sm m).getD x 0 = y := ⟨_, rfl⟩
      rw [hy] at HST hym HBYL
      have hck0 : b < w.heap.size := by omega
      have ckw : w.cell? ⟨b, off + k, none⟩ = some (.int .i64 (x : Int)) := ((hbl.cell (p := ⟨b, off + k, none⟩) hck0).symm).trans ck
      have hgaM : w.heap.size < M := by omega
      have hyI : (y : Int) < m := by omega
      clear hx hc hy hPN
      go_wp2
      go_region_with (go_at_call 91; refine (KB.out _ ?ha ?hb ?hs).mono ?_; (case ha => exact hAr); (case hb => exact hBr); (case hs => exact hsz); rintro e w3 ⟨g3, c3, rfl, hby, b3⟩; have bl3 : Below w.heap.size w w3 := ⟨b3.os.trans hbl.os, b3.tape.trans hbl.tape, b3.output.trans hbl.output, Nat.le_trans hbl.size b3.size, fun i hi => (b3.block i (Nat.lt_of_lt_of_le hi hsz)).trans (hbl.block i hi)⟩; have hA3 := own_belH8 hAr (fun i hi => b3.block i hi); have hB3 := own_belH8 hBr (fun i hi => b3.block i hi); have hO3 := own_belH8 hout (fun i hi => b3.block i hi); have hM3 : M ≤ w3.heap.size := Nat.le_trans hMr b3.size; have ck3 : w3.cell? ⟨b, off + k, none⟩ = some (.int .i64 (x : Int)) := (b3.cell (p := ⟨b, off + k, none⟩) (Nat.lt_of_lt_of_le hck0 hsz)).trans ck; have cy3 := HBYL.out _ _ _ _ hby; clear b3)
      all_goals
        clear ck hAr hBr hout hbl hMr hsz hby cy3
        go_wp2_with (at_builtin; refine wpList_append_own _ rfl _ _ 39 rfl M 3 i0 (.int .i64 0) 1 8 Try.underlying39 hi hz0 hz1 hz2 rfl (by decide) _ _ _ rfl (hO3.alloc _) ⟨w3.heap.size, 0, none⟩ 1 1 [.int .i64 (y : Int)] rfl rfl ?c1 ?c2 ?c3 ?c4 ?c5 ?_)
        case c1 => exact cell_one_new _ _ _
        case c2 => exact fun u hu => by simp at hu; subst hu; rfl
        case c3 => unfold maxLen; omega
        case c4 => omega
        case c5 => first | omega | (simp; omega)
        intro v6 w6 o6 g6 _
        have bl6 := bel_app bl3 (Nat.le_trans hwM hM3) (Joins.ownsRow_le hO3 hwM) g6
        have ck6 : w6.cell? ⟨b, off + k, none⟩ = some (.int .i64 (x : Int)) := (bl6.cell (p := ⟨b, off + k, none⟩) hck0).trans ckw
        have hA6 := (hA3.alloc (.cells #[.int .i64 (y : Int)] 3)).kept g6 (.inr (own_neq hO3 hgaM))
        have hB6 := (hB3.alloc (.cells #[.int .i64 (y : Int)] 3)).kept g6 (.inr (own_neq hO3 hgb))
        have hM6 : M ≤ w6.heap.size := Nat.le_trans hM3 (Nat.le_trans (Nat.le_of_lt (by simp)) g6.size)
        rw [← natsL_snoc8] at o6
        clear bl3 hA3 hB3 hO3 hM3 ck3 g6
        have a1 := hA6.cellAt y (by omega)
        rw [nats_get _ _ _ hym] at a1
        have a2 := hB6.cellAt y (by omega)
        rw [nats_get _ _ _ hym] at a2
        have f1 := hA6.frozenAt y
        have f2 := hB6.frozenAt y
        have HU : Hid (nats m (s.up y).a = (nats m s.a).set y (.int .i64 ((k : Int) + 1)) ∧ nats m (s.up y).b = (nats m s.b).set y (.int .i64 (s.a y : Int))) := hidden (by
          rw [show ((k : Int) + 1) = ((k + 1 : Nat) : Int) by omega, nats_set, nats_set]
          refine ⟨?_, rfl⟩
          show nats m (fun z => if z = y then s.t + 1 else s.a z) = _
          rw [HT.out])
        have HU2 : Hid ((s.up y).ok ∧ (s.up y).t = k + 1) := hidden ⟨HOK.out.up y, by show s.t + 1 = k + 1; rw [HT.out]⟩
        obtain ⟨q, hq⟩ : ∃ q, s.a y = q := ⟨_, rfl⟩
        rw [hq] at a1 HU
        clear hq
        have h1 := (hB6.stored y (.int .i64 (q : Int))).1
        rw [← HU.out.2] at h1
        have h2 := own_other7 hA6 (p := ⟨gb, y, none⟩) (by simp [Value.ownBlock]; omega) (.int .i64 (q : Int))
        have h3 := own_away o6 (p := ⟨gb, y, none⟩) hgb (.int .i64 (q : Int))
        have h4 := (h2.stored y (.int .i64 ((k : Int) + 1))).1
        rw [← HU.out.1] at h4
        have h5 := own_other7 h1 (p := ⟨w.heap.size, y, none⟩) (by simp [Value.ownBlock]; omega) (.int .i64 ((k : Int) + 1))
        have h6 := own_away h3 (p := ⟨w.heap.size, y, none⟩) hgaM (.int .i64 ((k : Int) + 1))
        have bl8 := (bl6.setCell (p := ⟨gb, y, none⟩) hga0 (.int .i64 (q : Int))).setCell (p := ⟨w.heap.size, y, none⟩) (Nat.le_refl _) (.int .i64 ((k : Int) + 1))
        have hbg : ¬ b = gb := by omega
        have hgg : ¬ w.heap.size = gb := by omega
        have hbw : ¬ b = w.heap.size := by omega
        clear hA6 hB6 o6 bl6 h1 h2 h3
        go_wp2
        go_roundw
        case rel => exact ⟨k + 1, s.up y, D ++ [y], by omega, by go_num, HST, hidden (by simp [HDl.out]), hidden HU2.out.1, hidden HU2.out.2, h4, h5, h6, bl8, by simpa using hM6⟩
        case measure => simp [intOf]; omega
    · have hkn : k = n := by omega
      subst hkn
      have HE : Hid (A = D) := hidden (by rw [HD.out, ← HN.out, List.drop_length, runF, List.append_nil])
      go_wp2
      go_ret
      exact ⟨_, rfl, by rw [HE.out]; exact Joins.ownsRow_le hout hwM, hbl⟩
set_option maxHeartbeats 1000000 in
set_option maxRecDepth 100000 in
theorem specSbr_any (a : Option Addr) (cap B : Nat) (z : List Int) (n : Int) (w : World) (hz : Ints w B a z) (hB : B ≤ w.heap.size) (hl : z.length ≤ 1048576) (n1 : -9223372036854775808 ≤ n) (n2 : n ≤ 9223372036854775807) :
    Calls Try.prog 43 #[.slice a z.length cap, .int .i64 n] w fun e w' => ∃ v, e = .returned v ∧ w'.ownsRow w.heap.size 3 1 v (sbrZ z n).length (intsV (sbrZ z n)) ∧ Below w.heap.size w w' := by
  by_cases hok : rOk z n = true
  · obtain ⟨L, m, rfl, rfl, hm1, hm2, hL6, hLm⟩ := rOk_nats hok
    rw [sbrZ_yes hok, intsV_ints, ints_len, ints_len, runF_len]
    exact specSbr_yes a cap B m L w hz hB hok hm1 hm2 hL6 hLm
  · have hno := bool_false hok
    have KR := hidden (specRanksOk_any a cap B z n w hz hl n1 n2)
    rw [hno] at KR
    rw [sbrZ_no hno]
    clear hno hok
    go_enter Try.func43, Try.ntmps43
    go_wp2_with fail
    refine KR.out.mono ?_
    rintro e w0 ⟨rfl, rfl⟩
    go_wp2
    go_ret
    exact ⟨_, rfl, World.ownsRow_nil _ _ _ _, Below.refl _ _⟩
set_option maxHeartbeats 1000000 in
set_option maxRecDepth 100000 in
theorem specUnSbr_any (a : Option Addr) (cap B : Nat) (z : List Int) (n : Int) (w : World) (hz : Ints w B a z) (hB : B ≤ w.heap.size) (hl : z.length ≤ 1048576) (n1 : -9223372036854775808 ≤ n) (n2 : n ≤ 9223372036854775807) :
    Calls Try.prog 45 #[.slice a z.length cap, .int .i64 n] w fun e w' => ∃ v, e = .returned v ∧ w'.ownsRow w.heap.size 3 1 v (usbZ z n).length (intsV (usbZ z n)) ∧ Below w.heap.size w w' := by
  by_cases hok : rOk z n = true
  · obtain ⟨L, m, rfl, rfl, hm1, hm2, hL6, hLm⟩ := rOk_nats hok
    rw [usbZ_yes hok, intsV_ints, ints_len, ints_len, runF_len]
    exact specUnSbr_yes a cap B m L w hz hB hok hm1 hm2 hL6 hLm
  · have hno := bool_false hok
    have KR := hidden (specRanksOk_any a cap B z n w hz hl n1 n2)
    rw [hno] at KR
    rw [usbZ_no hno]
    clear hno hok
    go_enter Try.func45, Try.ntmps45
    go_wp2_with fail
    refine KR.out.mono ?_
    rintro e w0 ⟨rfl, rfl⟩
    go_wp2
    go_ret
    exact ⟨_, rfl, World.ownsRow_nil _ _ _ _, Below.refl _ _⟩
end Go.Proofs.Yteaohgipndmciaa
