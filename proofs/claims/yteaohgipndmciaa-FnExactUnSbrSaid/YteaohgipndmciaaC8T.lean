/- Chapter 8: sort-by-rank and its inverse (the model). -/
import Derived.Test.YteaohgipndmciaaC8S
import Derived.Test.YteaohgipndmciaaC3Least
import Derived.Deep.RegionHeld3
import Derived.Deep.DrawnRows
import Derived.StillTailTactics
namespace Go.Proofs.Yteaohgipndmciaa
set_option linter.unusedVariables false
set_option linter.unusedSimpArgs false
open Go.RowKit
attribute [local go_sem ↓] Go.wp_at_zero Go.wp_at_succ

theorem own_belH8 {w w' : World} {base : Nat} {e : TypeId} {size : Nat} {v : Value} {n : Nat} {xs : List Value} (h : w.ownsRow base e size v n xs) (hb : ∀ i, i < w.heap.size → w'.heap[i]? = w.heap[i]?) : w'.ownsRow base e size v n xs := by
  refine ⟨h.1, ?_⟩
  rcases h.2 with h2 | ⟨g, cap, cur, hv, hg, hc, hr⟩
  · exact .inl h2
  · exact .inr ⟨g, cap, cur, hv, hg, (hb g ((Array.getElem?_eq_some_iff.1 hc).1)).trans hc, hr⟩
theorem own_other7 {w : World} {base n S : Nat} {E : TypeId} {v : Value} {xs : List Value} (h : w.ownsRow base E S v n xs) {p : Addr} (hp : v.ownBlock ≠ some p.block) (u : Value) : (w.setCell p u).ownsRow base E S v n xs := ownsRow_setCell_other h hp u
set_option maxHeartbeats 2000000 in
set_option maxRecDepth 100000 in
theorem specSbr_yes (a : Option Addr) (cap B m : Nat) (L : List Nat) (w : World) (hz : Ints w B a (ints L)) (hB : B ≤ w.heap.size) (hok : rOk (ints L) m = true) (hm1 : 1 ≤ m) (hm2 : m ≤ 256) (hL6 : L.length ≤ 600) (hLm : ∀ x ∈ L, x < m) :
    Calls Try.prog 43 #[.slice a L.length cap, .int .i64 m] w fun e w' => ∃ v, e = .returned v ∧ w'.ownsRow w.heap.size 3 1 v L.length (natsL (runF (sbrF m) sb0 L)) ∧ Below w.heap.size w w' := by
  obtain ⟨i0, hi, hz0, hz1, hz2⟩ := info_parts Try.infoInt
  have KR := hidden (specRanksOk_any a cap B (ints L) m w hz (by rw [ints_len]; omega) (by omega) (by omega))
  rw [hok, ints_len] at KR
  have HZ := hidden hz
  have HLM := hidden hLm
  obtain ⟨A, hA⟩ : ∃ A, runF (sbrF m) sb0 L = A := ⟨_, rfl⟩
  have HA := hidden hA
  rw [hA]
  obtain ⟨n, hn⟩ : ∃ n, L.length = n := ⟨_, rfl⟩
  have HN := hidden hn
  rw [hn] at KR hL6 ⊢
  clear hz hA hn hok hLm
  go_enter Try.func43, Try.ntmps43
  go_wp2_with fail
  refine KR.out.mono ?_
  rintro e w0 ⟨rfl, rfl⟩
  go_wp2_with (at_make; refine wpList_make_full _ rfl _ _ 39 rfl w.heap.size 3 i0 (.int .i64 0) 1 Try.underlying39 hi hz0 hz1 .i64 .i64 _ _ m rfl rfl rfl rfl ?cb1 ?cb2 ?cb3 ?_)
  case cb1 => rw [hz2]; omega
  case cb2 => unfold maxLen; omega
  case cb3 => exact Nat.le_refl _
  intro w1 hownA hgrow1
  have b1 := bel_made hgrow1
  have s1 := b1.size
  rw [made_nats] at hownA
  have hga := (hownA.lt w.heap.size rfl).2
  have HOA := hidden hownA
  clear hgrow1 hownA
  go_wp2_with (at_make; refine wpList_make_full _ rfl _ _ 39 rfl w.heap.size 3 i0 (.int .i64 0) 1 Try.underlying39 hi hz0 hz1 .i64 .i64 _ _ m rfl rfl rfl rfl ?cd1 ?cd2 ?cd3 ?_)
  case cd1 => rw [hz2]; omega
  case cd2 => unfold maxLen; omega
  case cd3 => exact s1
  intro w2 hownB hgrow2
  have b2 := bel_made hgrow2
  rw [made_nats] at hownB
  have hgb := (hownB.lt w1.heap.size rfl).2
  have HOB := hidden hownB
  have HOA2 := hidden (own_bel HOA.out b2)
  have b12 := bel_then b2 s1 b1
  obtain ⟨gb, hgbe⟩ : ∃ g, w1.heap.size = g := ⟨_, rfl⟩
  obtain ⟨M, hM⟩ : ∃ M, w2.heap.size = M := ⟨_, rfl⟩
  have HM : Hid (w2.heap.size = M) := hidden hM
  rw [hgbe] at HOB hga hgb ⊢
  rw [hM] at hgb
  have s12 := b12.size
  clear hgrow2 hownB b1 b2 HOA hM hgbe
  have HS0 : Hid (nats m (fun _ => 0) = nats m sb0.a ∧ nats m (fun _ => 0) = nats m sb0.b) := hidden ⟨rfl, rfl⟩
  have hA0 : w2.ownsRow w.heap.size 3 1 (.slice (some ⟨w.heap.size, 0, none⟩) m m) m (nats m sb0.a) := by rw [← HS0.out.1]; exact HOA2.out
  have hB0 : w2.ownsRow w.heap.size 3 1 (.slice (some ⟨gb, 0, none⟩) m m) m (nats m sb0.b) := by rw [← HS0.out.2]; exact HOB.out
  clear HOA2 HOB HS0
  have hs2M : M ≤ w2.heap.size := by rw [HM.out]; exact Nat.le_refl _
  have hwM : w.heap.size ≤ M := by omega
  have hga0 : w.heap.size ≤ gb := by omega
  have hga1 : w.heap.size < gb := hga
  go_wp2
  go_loopw [5, 8] (fun vo si wr => ∃ (k : Nat) (s : SB) (D : List Nat), k ≤ n ∧ si = .int .i64 k ∧ Hid (A = D ++ runF (sbrF m) s (L.drop k)) ∧ Hid (D.length = k) ∧ Hid s.ok ∧ Hid (s.t = k) ∧ wr.ownsRow w.heap.size 3 1 (.slice (some ⟨w.heap.size, 0, none⟩) m m) m (nats m s.a) ∧ wr.ownsRow w.heap.size 3 1 (.slice (some ⟨gb, 0, none⟩) m m) m (nats m s.b) ∧ wr.ownsRow M 3 1 vo k (natsL D) ∧ Below w.heap.size w wr ∧ M ≤ wr.heap.size) (fun _ si _ => n - (intOf si).toNat)
  case atStart => exact ⟨0, sb0, [], by omega, rfl, hidden (by rw [← HA.out]; rfl), hidden rfl, hidden sb0_ok, hidden rfl, hA0, hB0, World.ownsRow_nil _ _ _ _, b12, hs2M⟩
  case round =>
    obtain ⟨k, s, D, hk, rfl, HD, HDl, HOK, HT, hAr, hBr, hout, hbl, hMr⟩ := hrel
    clear hA0 hB0 b12 hs2M
    have hsz := hbl.size
    by_cases hlt : k < n
    · obtain ⟨b, off, rfl, hb, hc⟩ := (HZ.out.below (hbl.mono hB)).2.2 (by rw [ints_len, HN.out]; omega)
      have ck := ints_cell (B := B) hc k (by rw [HN.out]; exact hlt)
      have hxm := HLM.out _ (getD_mem7 L k (by rw [HN.out]; exact hlt))
      have HDR := hidden (drop_cons L k (by rw [HN.out]; exact hlt))
      obtain ⟨x, hx⟩ : ∃ x, L.getD k 0 = x := ⟨_, rfl⟩
      rw [hx] at ck hxm HDR
      have hkI : (k : Int) < n := by omega
      have hxI : (x : Int) < m := by omega
      have KB := hidden (fun (W : World) h1 h2 h3 => l8by_any w.heap.size w.heap.size gb m m m s.a s.b W h1 h2 h3 hm1 hm2 (fun q => by have := HOK.out q; have := HT.out; omega) (fun q => by have := HOK.out q; have := HT.out; omega))
      have HSM : Hid ((fun q => s.a q + s.b q) = s.sm) := hidden rfl
      rw [HSM.out] at KB
      have KP := hidden (fun (W : World) base g c h1 => l8place_any base g c x m (byL s.sm m) W h1 (byL_len _ _) hm2 (by omega))
      have hPN := (byL_by s.sm m).1
      have hym := hPN.idx hxm
      rw [placeI, if_pos ((hPN.mem x).2 hxm)] at KP
      have HST : Hid (A = (D ++ [(byL s.sm m).idxOf x]) ++ runF (sbrF m) (s.up x) (L.drop (k + 1))) := hidden (by
        rw [HD.out, HDR.out, runF, List.append_assoc]; rfl)
      obtain ⟨y, hy⟩ : ∃ y, (byL s.sm m).idxOf x = y := ⟨_, rfl⟩
      rw [hy] at KP HST hym
      have hck0 : b < w.heap.size := by omega
      have ckw : w.cell? ⟨b, off + k, none⟩ = some (.int .i64 (x : Int)) := ((hbl.cell (p := ⟨b, off + k, none⟩) hck0).symm).trans ck
      have hgaM : w.heap.size < M := by omega
      have hm8 : k + 1 ≤ maxLen := by unfold maxLen; omega
      have hb8 : (k + 1) * 8 ≤ 140737488355328 := by omega
      clear hx hc hy hPN
      go_wp2
      go_region_held3 (fun w' => w'.cell? ⟨b, off + k, none⟩ = some (.int .i64 (x : Int))) (go_keep) (first | (go_at_call 91; refine (KB.out _ ?ha ?hb ?hs).mono ?_; (case ha => exact hAr); (case hb => exact hBr); (case hs => exact hsz); rintro e w3 ⟨g3, c3, rfl, hby, b3⟩; have bl3 : Below w.heap.size w w3 := ⟨b3.os.trans hbl.os, b3.tape.trans hbl.tape, b3.output.trans hbl.output, Nat.le_trans hbl.size b3.size, fun i hi => (b3.block i (Nat.lt_of_lt_of_le hi hsz)).trans (hbl.block i hi)⟩; have hA3 := own_belH8 hAr (fun i hi => b3.block i hi); have hB3 := own_belH8 hBr (fun i hi => b3.block i hi); have hO3 := own_belH8 hout (fun i hi => b3.block i hi); have hM3 : M ≤ w3.heap.size := Nat.le_trans hMr b3.size; have ck3 : w3.cell? ⟨b, off + k, none⟩ = some (.int .i64 (x : Int)) := (b3.cell (p := ⟨b, off + k, none⟩) (Nat.lt_of_lt_of_le hck0 hsz)).trans ck; clear b3) | (go_at_call 87; refine (KP.out _ _ _ _ hby).mono ?_; rintro e w4 ⟨rfl, rfl⟩) | (refine step_append_at _ (by rfl) _ _ _ (by rfl) M 3 i0 (.int .i64 0) 1 8 Try.underlying39 hi hz0 hz1 hz2 (by rfl) (by decide) u5 k _ (by rfl) (by exact hO3.alloc _) ⟨w3.heap.size, 0, none⟩ 1 1 [.int .i64 (y : Int)] (by rfl) (by rfl) (by exact cell_one_new _ _ _) (fun u hu => by simp at hu; subst hu; rfl) hm8 hb8 ?hbb ?_; (case hbb => (simp; omega)); intro v6 w6 o6 g6; have bl6 := bel_app bl3 (Nat.le_trans hwM hM3) (Joins.ownsRow_le hO3 hwM) g6; have ck6 : w6.cell? ⟨b, off + k, none⟩ = some (.int .i64 (x : Int)) := (bl6.cell (p := ⟨b, off + k, none⟩) hck0).trans ckw; have hA6 := (hA3.alloc (.cells #[.int .i64 (y : Int)] 3)).kept g6 (.inr (own_neq hO3 hgaM)); have hB6 := (hB3.alloc (.cells #[.int .i64 (y : Int)] 3)).kept g6 (.inr (own_neq hO3 hgb)); have hM6 : M ≤ w6.heap.size := Nat.le_trans hM3 (Nat.le_trans (Nat.le_of_lt (by simp)) g6.size)))
      rw [← natsL_snoc8] at o6
      clear ck hAr hBr hout hbl hMr hsz bl3 hA3 hB3 hO3 hM3 ck3 hby g6
      have a1 := hA6.cellAt x (by omega)
      rw [nats_get _ _ _ hxm] at a1
      have a2 := hB6.cellAt x (by omega)
      rw [nats_get _ _ _ hxm] at a2
      have f1 := hA6.frozenAt x
      have f2 := hB6.frozenAt x
      have HU : Hid (nats m (s.up x).a = (nats m s.a).set x (.int .i64 ((k : Int) + 1)) ∧ nats m (s.up x).b = (nats m s.b).set x (.int .i64 (s.a x : Int))) := hidden (by
        rw [show ((k : Int) + 1) = ((k + 1 : Nat) : Int) by omega, nats_set, nats_set]
        refine ⟨?_, rfl⟩
        show nats m (fun y => if y = x then s.t + 1 else s.a y) = _
        rw [HT.out])
      have HU2 : Hid ((s.up x).ok ∧ (s.up x).t = k + 1) := hidden ⟨HOK.out.up x, by show s.t + 1 = k + 1; rw [HT.out]⟩
      obtain ⟨q, hq⟩ : ∃ q, s.a x = q := ⟨_, rfl⟩
      rw [hq] at a1 HU
      clear hq
      go_wp2
      go_still_tail 13, (by kernel_rfl)
      have hA7 : w6.drew.ownsRow w.heap.size 3 1 (.slice (some ⟨w.heap.size, 0, none⟩) m m) m (nats m s.a) := hA6
      have hB7 : w6.drew.ownsRow w.heap.size 3 1 (.slice (some ⟨gb, 0, none⟩) m m) m (nats m s.b) := hB6
      have o7 : w6.drew.ownsRow M 3 1 v6 (k + 1) (natsL (D ++ [y])) := o6
      have bl7 : Below w.heap.size w w6.drew := bl6.drew
      have hM7 : M ≤ w6.drew.heap.size := hM6
      have ck7 : w6.drew.cell? ⟨b, off + k, none⟩ = some (.int .i64 (x : Int)) := ck6
      have a7 : w6.drew.cell? ⟨w.heap.size, x, none⟩ = some (.int .i64 (q : Int)) := a1
      have b7 := (hB7.cellAt x (by omega))
      rw [nats_get _ _ _ hxm] at b7
      have f7 : w6.drew.frozen? ⟨w.heap.size, x, none⟩ = false := f1
      have f8 : w6.drew.frozen? ⟨gb, x, none⟩ = false := f2
      clear hA6 hB6 o6 bl6 hM6 ck6 a1 a2 f1 f2
      change wpList _ _ _ _ _ w6.drew
      obtain ⟨wx, hwx⟩ : ∃ wx, w6.drew = wx := ⟨_, rfl⟩
      rw [hwx] at hA7 hB7 o7 bl7 hM7 ck7 a7 b7 f7 f8 ⊢
      have hsA := hA7
      have h1 := (hB7.stored x (.int .i64 (q : Int))).1
      rw [← HU.out.2] at h1
      have h2 := own_other7 hA7 (p := ⟨gb, x, none⟩) (by simp [Value.ownBlock]; omega) (.int .i64 (q : Int))
      have h3 := own_away o7 (p := ⟨gb, x, none⟩) hgb (.int .i64 (q : Int))
      have h4 := (h2.stored x (.int .i64 ((k : Int) + 1))).1
      rw [← HU.out.1] at h4
      have h5 := own_other7 h1 (p := ⟨w.heap.size, x, none⟩) (by simp [Value.ownBlock]; omega) (.int .i64 ((k : Int) + 1))
      have h6 := own_away h3 (p := ⟨w.heap.size, x, none⟩) hgaM (.int .i64 ((k : Int) + 1))
      have bl8 := (bl7.setCell (p := ⟨gb, x, none⟩) hga0 (.int .i64 (q : Int))).setCell (p := ⟨w.heap.size, x, none⟩) (Nat.le_refl _) (.int .i64 ((k : Int) + 1))
      have hbg : ¬ b = gb := by omega
      have hgg : ¬ w.heap.size = gb := by omega
      have hbw : ¬ b = w.heap.size := by omega
      clear hwx hA7 hB7 o7 bl7 hsA h1 h2 h3
      go_wp2
      go_roundw
      case rel => exact ⟨k + 1, s.up x, D ++ [y], by omega, by go_num, HST, hidden (by simp [HDl.out]), hidden HU2.out.1, hidden HU2.out.2, h4, h5, h6, bl8, by simpa using hM7⟩
      case measure => simp [intOf]; omega
    · have hkn : k = n := by omega
      subst hkn
      have HE : Hid (A = D) := hidden (by rw [HD.out, ← HN.out, List.drop_length, runF, List.append_nil])
      go_wp2
      go_ret
      exact ⟨_, rfl, by rw [HE.out]; exact Joins.ownsRow_le hout hwM, hbl⟩
end Go.Proofs.Yteaohgipndmciaa
