/- Chapter 8: move-to-front and its inverse (the model). -/
import Derived.Test.YtpdicijoohahaaaC8
import Derived.Test.YtpdicijoohahaaaC7D
namespace Go.Proofs.Ytpdicijoohahaaa
set_option linter.unusedVariables false
set_option linter.unusedSimpArgs false
open Go.RowKit

theorem intsV_ints (L : List Nat) : intsV (ints L) = natsL L := by simp [intsV, ints, natsL]
theorem natsL_snoc8 (D : List Nat) (x : Nat) : natsL (D ++ [x]) = natsL D ++ [.int .i64 (x : Int)] := by simp [natsL]
theorem ints_cell {w : World} {B b off : Nat} {L : List Nat} (hc : ∀ i, i < (ints L).length → w.cell? ⟨b, off + i, none⟩ = some (.int .i64 ((ints L).getD i 0))) (k : Nat) (hk : k < L.length) : w.cell? ⟨b, off + k, none⟩ = some (.int .i64 ((L.getD k 0 : Nat) : Int)) := by
  have := hc k (by rw [ints_len]; exact hk)
  rwa [ints_get] at this
set_option maxHeartbeats 1000000 in
set_option maxRecDepth 100000 in
theorem specMtf_yes (a : Option Addr) (cap B m : Nat) (L : List Nat) (w : World) (hz : Ints w B a (ints L)) (hB : B ≤ w.heap.size) (hok : rOk (ints L) m = true) (hm1 : 1 ≤ m) (hm2 : m ≤ 256) (hL6 : L.length ≤ 600) (hLm : ∀ x ∈ L, x < m) :
    Calls Try.prog 57 #[.slice a L.length cap, .int .i64 m] w fun e w' => ∃ v, e = .returned v ∧ w'.ownsRow w.heap.size 3 1 v L.length (natsL (runF mtfF (List.range m) L)) ∧ Below w.heap.size w w' := by
  obtain ⟨i0, hi, hz0, hz1, hz2⟩ := info_parts Try.infoInt
  have KR := hidden (specRanksOk_any a cap B (ints L) m w hz (by rw [ints_len]; omega) (by omega) (by omega))
  rw [hok, ints_len] at KR
  have KW := hidden (fun W => l8row_any m W hm2)
  have HZ := hidden hz
  have HLM := hidden hLm
  obtain ⟨A, hA⟩ : ∃ A, runF mtfF (List.range m) L = A := ⟨_, rfl⟩
  have HA := hidden hA
  rw [hA]
  obtain ⟨n, hn⟩ : ∃ n, L.length = n := ⟨_, rfl⟩
  have HN := hidden hn
  rw [hn] at KR hL6 ⊢
  clear hz hA hn hok hLm
  go_enter Try.func57, Try.ntmps57
  go_wp2_with fail
  refine KR.out.mono ?_
  rintro e w0 ⟨rfl, rfl⟩
  go_wp2_with fail
  refine (KW.out _).mono ?_
  rintro e w1 ⟨g0, rfl, hrow0, b1⟩
  have hs1 := b1.size
  go_wp2
  go_loopw [5, 6, 7, 8] (fun vo vr si _ wr => ∃ (k g c : Nat) (r D : List Nat), k ≤ n ∧ si = .int .i64 k ∧ vr = .slice (some ⟨g, 0, none⟩) m c ∧ Hid (A = D ++ runF mtfF r (L.drop k)) ∧ Hid (D.length = k) ∧ Hid (PermN m r) ∧ wr.ownsRow w.heap.size 3 1 (.slice (some ⟨g, 0, none⟩) m c) m (natsL r) ∧ wr.ownsRow w.heap.size 3 1 vo k (natsL D) ∧ Hid (vo.ownBlock ≠ some g) ∧ Below w.heap.size w wr) (fun _ _ si _ _ => n - (intOf si).toNat)
  case atStart => exact ⟨0, g0, m, List.range m, [], by omega, rfl, rfl, hidden (by rw [← HA.out]; rfl), hidden rfl, hidden (PermN.start m), hrow0, World.ownsRow_nil _ _ _ _, hidden (by simp [Value.ownBlock]), b1⟩
  case round =>
    obtain ⟨k, g, c, r, D, hk, rfl, rfl, HD, HDl, HP, hrow, hout, HNE, hbl⟩ := hrel
    clear hrow0 b1
    have hsz := hbl.size
    by_cases hlt : k < n
    · obtain ⟨b, off, rfl, hb, hc⟩ := (HZ.out.below (hbl.mono hB)).2.2 (by rw [ints_len, HN.out]; omega)
      have ck := ints_cell (B := B) hc k (by rw [HN.out]; exact hlt)
      have hxm := HLM.out _ (getD_mem7 L k (by rw [HN.out]; exact hlt))
      have HDR := hidden (drop_cons L k (by rw [HN.out]; exact hlt))
      obtain ⟨x, hx⟩ : ∃ x, L.getD k 0 = x := ⟨_, rfl⟩
      rw [hx] at ck hxm HDR
      have hgw := (hrow.lt g rfl).2
      have KP := hidden (l8place_any w.heap.size g c x m r wr hrow HP.out.len hm2 (by omega))
      have hkm := HP.out.idx hxm
      rw [placeI, if_pos ((HP.out.mem x).2 hxm)] at KP
      have HP2 := hidden (HP.out.front hkm)
      obtain ⟨y, hy⟩ : ∃ y, r.idxOf x = y := ⟨_, rfl⟩
      have HSt : Hid (A = (D ++ [y]) ++ runF mtfF (frontL r y) (L.drop (k + 1))) := hidden (by
        rw [HD.out, HDR.out, runF, List.append_assoc]
        simp only [mtfF, hy]
        rfl)
      rw [hy] at KP hkm HP2
      have HR := hidden hrow
      have HRL := hidden HP.out.len
      clear hx hc hy hrow
      go_wp2_with fail
      refine KP.out.mono ?_
      rintro e w3 ⟨rfl, rfl⟩
      go_wp2_with (at_builtin; refine wpList_append_own_at _ rfl _ _ 22 rfl w.heap.size 3 i0 (.int .i64 0) 1 8 Try.underlying22 hi hz0 hz1 hz2 rfl (by decide) _ _ _ rfl (hout.alloc _) ⟨wr.heap.size, 0, none⟩ 1 1 [.int .i64 (y : Int)] rfl rfl ?c1 ?c2 ?c3 ?c4 ?c5 ?_)
      case c1 => exact cell_one_new _ _ _
      case c2 => exact fun u hu => by simp at hu; subst hu; rfl
      case c3 => unfold maxLen; omega
      case c4 => omega
      case c5 => first | omega | (simp; omega)
      intro v5 w5 hown5 hgrow _ hloc
      have hb5 := bel_app hbl hsz hout hgrow
      have hs5 := hb5.size
      have HNE5 : Hid (v5.ownBlock ≠ some g) := hidden (by
        intro e
        rcases hloc with h | h
        · exact HNE.out (by rw [← h]; exact e)
        · rw [e] at h; simp at h; omega)
      have hR5 := (HR.out.alloc (.cells #[.int .i64 (y : Int)] 3)).kept hgrow (.inr (fun e => HNE.out e.symm))
      have HD5 : Hid ((D ++ [y]).length = k + 1) := hidden (by simp [HDl.out])
      rw [← natsL_snoc8] at hown5
      have KF := hidden (l8front_any w.heap.size g c y m r w5 hR5 hs5 HRL.out hkm hm2)
      have HO5 := hidden hown5
      clear hout hgrow hbl hloc hown5 hR5
      go_wp2_with fail
      refine KF.out.mono ?_
      rintro e w6 ⟨g2, c2, rfl, hrow6, b6⟩
      have hb6 := bel_then b6 hs5 hb5
      have hO6 := own_bel HO5.out b6
      have HNE6 : Hid (v5.ownBlock ≠ some g2) := hidden (by
        intro e
        have h1 := (hrow6.lt g2 rfl).1
        have h2 := (HO5.out.lt g2 e).2
        omega)
      have hR6 := Joins.ownsRow_le hrow6 hs5
      clear hrow6 b6 hb5
      go_wp2
      go_roundw
      case rel => exact ⟨k + 1, g2, c2, frontL r y, D ++ [y], by omega, by go_num, rfl, HSt, HD5, HP2, hR6, hO6, HNE6, hb6⟩
      case measure => simp [intOf]; omega
    · have hkn : k = n := by omega
      subst hkn
      have HE : Hid (A = D) := hidden (by rw [HD.out, ← HN.out, List.drop_length, runF, List.append_nil])
      go_wp2
      go_ret
      exact ⟨_, rfl, by rw [HE.out]; exact hout, hbl⟩
set_option maxHeartbeats 1000000 in
set_option maxRecDepth 100000 in
theorem specMtf_any (a : Option Addr) (cap B : Nat) (z : List Int) (n : Int) (w : World) (hz : Ints w B a z) (hB : B ≤ w.heap.size) (hl : z.length ≤ 1048576) (n1 : -9223372036854775808 ≤ n) (n2 : n ≤ 9223372036854775807) :
    Calls Try.prog 57 #[.slice a z.length cap, .int .i64 n] w fun e w' => ∃ v, e = .returned v ∧ w'.ownsRow w.heap.size 3 1 v (mtfZ z n).length (intsV (mtfZ z n)) ∧ Below w.heap.size w w' := by
  by_cases hok : rOk z n = true
  · obtain ⟨L, m, rfl, rfl, hm1, hm2, hL6, hLm⟩ := rOk_nats hok
    rw [mtfZ_yes hok, intsV_ints, ints_len, ints_len, runF_len]
    exact specMtf_yes a cap B m L w hz hB hok hm1 hm2 hL6 hLm
  · have hno := bool_false hok
    have KR := hidden (specRanksOk_any a cap B z n w hz hl n1 n2)
    rw [hno] at KR
    rw [mtfZ_no hno]
    clear hno hok
    go_enter Try.func57, Try.ntmps57
    go_wp2_with fail
    refine KR.out.mono ?_
    rintro e w0 ⟨rfl, rfl⟩
    go_wp2
    go_ret
    exact ⟨_, rfl, World.ownsRow_nil _ _ _ _, Below.refl _ _⟩
end Go.Proofs.Ytpdicijoohahaaa
