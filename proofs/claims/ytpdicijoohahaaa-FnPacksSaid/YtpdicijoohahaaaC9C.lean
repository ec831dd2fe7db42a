/- Chapter 9: UnpackRuns (the model; made by gen23.py). -/
import Derived.Test.YtpdicijoohahaaaC9B
import Derived.Test.YtpdicijoohahaaaSeg
namespace Go.Proofs.Ytpdicijoohahaaa
set_option linter.unusedVariables false
set_option linter.unusedSimpArgs false
open Go.RowKit

theorem natsL_zeros (m : Nat) : natsL (List.replicate m 0) = List.replicate m (.int .i64 0) := by simp [natsL]
set_option maxHeartbeats 1000000 in
set_option maxRecDepth 100000 in
theorem specUnpackRuns_no (a : Option Addr) (cap B : Nat) (z : List Int) (n most : Int) (w : World) (hz : Ints w B a z) (hl : z.length ≤ 1048576) (n1 : -9223372036854775808 ≤ n) (n2 : n ≤ 9223372036854775807) (hg : ¬ (1 ≤ n ∧ n ≤ 256 ∧ z ≠ [] ∧ z.getD (z.length - 1) 0 = n + 1)) :
    Calls Try.prog 25 #[.slice a z.length cap, .int .i64 n, .int .i64 most] w fun e w' => e = .returned (.tuple #[.slice none 0 0, .bool false]) ∧ w = w' := by
  by_cases h1 : n < 1
  · clear hg hz
    go_enter Try.func25, Try.ntmps25
    go_wp2
    go_ret2
    exact ⟨rfl, rfl⟩
  by_cases h2 : (256 : Int) < n
  · clear hg hz
    go_enter Try.func25, Try.ntmps25
    go_wp2
    go_ret2
    exact ⟨rfl, rfl⟩
  by_cases h0 : z.length = 0
  · rw [h0]
    clear hg hz
    go_enter Try.func25, Try.ntmps25
    go_wp2
    go_ret2
    exact ⟨rfl, rfl⟩
  have hne : z.getD (z.length - 1) 0 ≠ n + 1 := fun h => hg ⟨by omega, by omega, fun e => h0 (by rw [e]; rfl), h⟩
  obtain ⟨b, off, rfl, hb, hc⟩ := hz.2.2 (by omega)
  have cp := hc (z.length - 1) (by omega)
  obtain ⟨y, hy⟩ : ∃ y, z.getD (z.length - 1) 0 = y := ⟨_, rfl⟩
  rw [hy] at cp hne
  obtain ⟨k, hk⟩ : ∃ k, z.length = k := ⟨_, rfl⟩
  rw [hk] at cp h0 hl ⊢
  obtain ⟨p, hp⟩ : ∃ p : Nat, (k : Int) - 1 = (p : Int) := ⟨k - 1, by omega⟩
  have hp2 : k - 1 = p := by omega
  rw [hp2] at cp
  have hp3 : (p : Int) < (k : Int) := by omega
  have hb0 : ¬ (k : Int) = 0 := by omega
  have hbn : (y != n + 1) = true := by simpa using hne
  clear hg hz hc hp2 hk hy
  go_enter Try.func25, Try.ntmps25
  go_wp2
  go_ret2
  exact ⟨rfl, rfl⟩
set_option maxHeartbeats 4000000 in
set_option maxRecDepth 100000 in
theorem specUnpackRuns_go (b off cap B : Nat) (z : List Int) (n most : Int) (w : World) (hz : Ints w B (some ⟨b, off, none⟩) z) (hB : B ≤ w.heap.size) (hl : z.length ≤ 1048576) (hcap : z.length ≤ cap) (hg1 : 1 ≤ n) (hg2 : n ≤ 256) (hg3 : z ≠ []) (hg4 : z.getD (z.length - 1) 0 = n + 1) (m1 : -9223372036854775808 ≤ most) (m2 : most ≤ 9223372036854775807) :
    Calls Try.prog 25 #[.slice (some ⟨b, off, none⟩) z.length cap, .int .i64 n, .int .i64 most] w fun e w' => ∃ v, e = .returned (.tuple #[v, .bool (upOk z n most)]) ∧ w'.ownsRow w.heap.size 3 1 v (upL z n most).length (intsV (upL z n most)) ∧ Below w.heap.size w w' := by
  obtain ⟨i0, hi, hz0, hz1, hz2⟩ := info_parts Try.infoInt
  have hk0 : 0 < z.length := List.length_pos_iff.2 hg3
  obtain ⟨b', off', e, hb, hc⟩ := hz.2.2 hk0
  obtain ⟨rfl, rfl⟩ : b = b' ∧ off = off' := by simpa using e
  have hbw : b < w.heap.size := by omega
  have HR := hidden hz.2.1
  have HC := hidden hc
  have HSI := hidden (fun (W : World) (hW : Below w.heap.size w W) i f (h : i ≤ z.length) => seg_ints (B := w.heap.size) (w := W) hl hz.2.1 hbw (fun j hj => (hW.cell (p := ⟨b, off + j, none⟩) hbw).trans (hc j hj)) (f := f) h)
  have KL := hidden (fun (W : World) a c i f (h : Ints W w.heap.size a ((z.take i).drop f)) (h2 : i ≤ z.length) => specRunLen_any a c w.heap.size _ W h (by rw [seg_len h2]; omega))
  have HSL := hidden (fun i f (h : i ≤ z.length) => seg_len (f := f) h)
  have cp := hc (z.length - 1) (by omega)
  have HST := hidden (upT_start (n := n) hg3)
  have HDIG := hidden (fun i f D h hf hx => upT_digit (n := n) (z := z) (i := i) (f := f) (D := D) h hf hx)
  have HNON := hidden (fun i f D h hx hz' => upT_none (n := n) (z := z) (i := i) (f := f) (D := D) h hx hz')
  have HBD := hidden (fun i f D h hx hn => upT_bad (n := n) (z := z) (i := i) (f := f) (D := D) h hx hn)
  have HMD := hidden (fun i f D a h hn hz' => upT_mid (n := n) (z := z) (i := i) (f := f) (D := D) (a := a) h hn hz')
  have HLT := hidden (fun i f D a h hz' => upT_last (n := n) (z := z) (i := i) (f := f) (D := D) (a := a) h hz')
  have HEND := hidden (fun f D => upT_end (n := n) (z := z) (f := f) (D := D))
  have HG : Hid (1 ≤ n ∧ n ≤ 256 ∧ z ≠ [] ∧ z.getD (z.length - 1) 0 = n + 1) := hidden ⟨hg1, hg2, hg3, hg4⟩
  have HLX : Hid (∀ i, i + 1 = z.length → z.getD i 0 = n + 1) := hidden (fun i h => by rw [← hg4, show z.length - 1 = i by omega])
  have HSG := hidden (fun i f h hf => seg_snoc (z := z) (i := i) (f := f) h hf)
  rw [hg4] at cp
  obtain ⟨k, hk⟩ : ∃ k, z.length = k := ⟨_, rfl⟩
  have HK := hidden hk
  rw [hk] at hl hcap hk0 HC HSI KL HSL cp HDIG HNON HBD HMD HLT HEND HLX HSG ⊢
  obtain ⟨p, hp⟩ : ∃ p : Nat, (k : Int) - 1 = (p : Int) := ⟨k - 1, by omega⟩
  have hp2 : k - 1 = p := by omega
  rw [hp2] at cp
  have hp3 : (p : Int) < (k : Int) := by omega
  have hb0 : ¬ (k : Int) = 0 := by omega
  have hn1 : ¬ n < 1 := by omega
  have hn2 : ¬ (256 : Int) < n := by omega
  clear hz hc hp2 hk hg3 hg4 e
  go_enter Try.func25, Try.ntmps25
  go_wp2
  clear cp hp hp3
  go_loopw [8, 9, 10, 11] (fun vo sf si _ wr => ∃ (i f : Nat) (D : List Nat), i ≤ k ∧ f ≤ i ∧ si = .int .i64 i ∧ sf = .int .i64 f ∧ Hid (unF n [] z.dropLast = upT n z i f D) ∧ Hid (D.length ≤ 600) ∧ Hid (∀ x ∈ (z.take i).drop f, x = 0 ∨ x = 1) ∧ wr.ownsRow w.heap.size 3 1 vo D.length (natsL D) ∧ Below w.heap.size w wr) (fun _ _ si _ _ => k - (intOf si).toNat)
  case atStart => exact ⟨0, 0, [], by omega, by omega, rfl, rfl, HST, hidden (by simp), hidden (fun x hx => by simp at hx), World.ownsRow_nil _ _ _ _, Below.refl _ _⟩
  case round =>
    obtain ⟨i, f, D, hik, hfi, rfl, rfl, HU, HD6, HDG, hown, hbl⟩ := hrel
    have hsz := hbl.size
    have hD6 := HD6.out
    obtain ⟨ld, hld⟩ : ∃ ld, D.length = ld := ⟨_, rfl⟩
    have HLD := hidden hld
    rw [hld] at hown hD6
    clear hld
    obtain ⟨av, cv, rfl⟩ := own_shape hown
    by_cases hlt : i < k
    · have hiI : (i : Int) < (k : Int) := by omega
      have ck : wr.cell? ⟨b, off + i, none⟩ = some (.int .i64 (z.getD i 0)) := (hbl.cell (p := ⟨b, off + i, none⟩) hbw).trans (HC.out i hlt)
      have ck0 := HC.out i hlt
      have HDI := hidden (fun h hx => HDIG.out i f D h hfi hx)
      have HNO := hidden (fun hx hz' => HNON.out i f D hlt hx hz')
      have HBA := hidden (fun h hx hn => HBD.out i f D h hx hn)
      have HMI := hidden (fun a h hn hz' => HMD.out i f D a h hn hz')
      have HLS := hidden (fun a h hz' => HLT.out i f D a h hz')
      have HLX2 := hidden (HLX.out i)
      have HSG2 := hidden (HSG.out i f hlt hfi)
      obtain ⟨x, hx⟩ : ∃ x, z.getD i 0 = x := ⟨_, rfl⟩
      rw [hx] at ck ck0 HDI HNO HBA HMI HLX2 HSG2
      clear hx
      by_cases hx0 : x = 0
      · have hb2 : (x == (0 : Int)) = true := by rw [hx0]; rfl
        have hik2 : i + 1 < k := by
          rcases Nat.lt_or_ge (i + 1) k with h | h
          · exact h
          · have := HLX2.out (by omega); omega
        have HU2 : Hid (unF n [] z.dropLast = upT n z (i + 1) f D) := hidden (by rw [HU.out, HDI.out hik2 (.inl hx0)])
        have HDG2 : Hid (∀ y ∈ (z.take (i + 1)).drop f, y = 0 ∨ y = 1) := hidden (fun y hy => by
          rw [HSG2.out] at hy
          rcases List.mem_append.1 hy with hy | hy
          · exact HDG.out y hy
          · rw [List.mem_singleton.1 hy]; exact .inl hx0)
        go_wp2
        go_roundw
        case rel => exact ⟨i + 1, f, D, by omega, by omega, by go_num, rfl, HU2, HD6, HDG2, by rw [HLD.out]; exact hown, hbl⟩
        case measure => first | (simp [intOf]; done) | (simp [intOf]; omega)
      by_cases hx1 : x = 1
      · have hb2 : (x == (0 : Int)) = false := by rw [beq_eq_false_iff_ne]; exact hx0
        have hb3 : (x == (1 : Int)) = true := by rw [hx1]; rfl
        have hik2 : i + 1 < k := by
          rcases Nat.lt_or_ge (i + 1) k with h | h
          · exact h
          · have := HLX2.out (by omega); omega
        have HU2 : Hid (unF n [] z.dropLast = upT n z (i + 1) f D) := hidden (by rw [HU.out, HDI.out hik2 (.inr hx1)])
        have HDG2 : Hid (∀ y ∈ (z.take (i + 1)).drop f, y = 0 ∨ y = 1) := hidden (fun y hy => by
          rw [HSG2.out] at hy
          rcases List.mem_append.1 hy with hy | hy
          · exact HDG.out y hy
          · rw [List.mem_singleton.1 hy]; exact .inr hx1)
        go_wp2
        go_roundw
        case rel => exact ⟨i + 1, f, D, by omega, by omega, by go_num, rfl, HU2, HD6, HDG2, by rw [HLD.out]; exact hown, hbl⟩
        case measure => first | (simp [intOf]; done) | (simp [intOf]; omega)
      have hb2 : (x == (0 : Int)) = false := by rw [beq_eq_false_iff_ne]; exact hx0
      have hb3 : (x == (1 : Int)) = false := by rw [beq_eq_false_iff_ne]; exact hx1
      have hxd : ¬ (x = 0 ∨ x = 1) := by omega
      have HMID := HMI
      have HLST := HLS
      have HBAD := hidden (fun h hn => HBA.out h hxd hn)
      by_cases hfl : f < i
      · have hflI : (f : Int) < (i : Int) := by omega
        have hfl2 : (f : Int) ≤ (i : Int) := by omega
        have hic : (i : Int) ≤ (cap : Int) := by omega
        have hfc : ¬ cap = f := by omega
        have KR := hidden (KL.out wr (some ⟨b, off + f, none⟩) (cap - f) i f (HSI.out wr hbl i f hik) hik)
        rw [HSL.out i f hik] at KR
        have HNE : Hid ((z.take i).drop f ≠ []) := hidden (fun e => by have := HSL.out i f hik; rw [e] at this; simp at this; omega)
        have HZC := hidden (zerF_cons HNE.out)
        have HRLE := hidden (rlZ_le ((z.take i).drop f))
        have HRLP := hidden (rlZ_pos (z := (z.take i).drop f))
        obtain ⟨q0, hq0⟩ : ∃ q0, rlZ ((z.take i).drop f) = q0 := ⟨_, rfl⟩
        rw [hq0] at KR HZC HRLE
        have HQ0 := hidden hq0
        clear hq0
        by_cases hq : q0 < 0
        · have HF : Hid (upA z n most = none) := hidden (upA_none (by rw [HU.out, HNO.out hxd (by rw [HZC.out, if_neg (by omega)])]))
          go_wp2_with fail
          refine KR.out.mono ?_
          rintro e w4 ⟨rfl, rfl⟩
          go_wp2
          go_ret2
          exact ⟨_, by rw [(up_none HF.out).1]; rfl, by rw [(up_none HF.out).2]; exact World.ownsRow_nil _ _ _ _, hbl⟩
        · obtain ⟨m, rfl⟩ : ∃ m : Nat, q0 = m := ⟨q0.toNat, by omega⟩
          have hm6 : m ≤ 600 := by have := HRLE.out; omega
          have hm0 : 0 < m := by
            rcases Nat.eq_zero_or_pos m with h | h
            · exfalso
              subst h
              unfold rlZ at HQ0
              have h9 := HQ0.out
              by_cases h8 : rlOk ((z.take i).drop f) = true
              · rw [if_pos h8] at h9
                have := rlOk_pos h8
                omega
              · rw [if_neg h8] at h9; omega
            · exact h
          have HZA : Hid (zerF ((z.take i).drop f) = some (List.replicate m 0)) := hidden (by rw [HZC.out, if_pos (by omega), Int.toNat_natCast])
          have HDL0 : Hid ((D ++ List.replicate m 0).length = ld + m) := hidden (by rw [List.length_append, HLD.out, List.length_replicate])
          clear HZC HRLE HRLP HQ0
          go_wp2_with fail
          refine KR.out.mono ?_
          rintro e w4 ⟨rfl, rfl⟩
          go_wp2_with (at_builtin; refine wpList_append_zeros rfl _ _ 22 3 rfl w.heap.size 3 i0 (.int .i64 0) .i64 8 Try.underlying22 Try.underlying3 hi hz0 hz1 hz2 rfl rfl _ _ _ rfl hown m rfl hm0 ?c1 ?c2 ?c3 ?_)
          case c1 => unfold maxLen; omega
          case c2 => omega
          case c3 => omega
          intro v5 w5 hown5 hgrow5 _
          obtain ⟨g5, c5, rfl⟩ := own_shape hown5
          rw [← natsL_zeros, ← natsL_append] at hown5
          have hb5 : Below w.heap.size w w5 := hbl.grown hgrow5 hsz (fun q hq => (hown.lt q hq).1)
          have hs5 := hb5.size
          have ck5 : w5.cell? ⟨b, off + i, none⟩ = some (.int .i64 x) := (hb5.cell (p := ⟨b, off + i, none⟩) hbw).trans ck0
          clear hown hgrow5 hbl ck KR
          by_cases hlast : i + 1 < k
          · have hlI : (i : Int) + 1 < (k : Int) := by omega
            by_cases hx2 : 2 ≤ x ∧ x ≤ n
            · have gx1 : ¬ x < 2 := by omega
              have gx2 : ¬ n < x := by omega
              have HU2 : Hid (unF n [] z.dropLast = upT n z (i + 1) (i + 1) (D ++ List.replicate m 0 ++ [(x - 1).toNat])) := hidden (by rw [HU.out, HMID.out _ hlast hx2 HZA.out])
              have HDL : Hid ((D ++ List.replicate m 0 ++ [(x - 1).toNat]).length = (ld + m) + 1) := hidden (by rw [List.length_append, HDL0.out]; rfl)
              have hxn : x - 1 = ((x - 1).toNat : Int) := by omega
              obtain ⟨q, hq⟩ : ∃ q : Nat, (x - 1).toNat = q := ⟨_, rfl⟩
              rw [hq] at HU2 HDL hxn
              have hx9 := ck5
              go_wp2_with (at_builtin; refine wpList_append_own _ rfl _ _ 22 rfl w.heap.size 3 i0 (.int .i64 0) 1 8 Try.underlying22 hi hz0 hz1 hz2 rfl (by decide) _ _ _ rfl (hown5.alloc _) ⟨w5.heap.size, 0, none⟩ 1 1 [.int .i64 (q : Int)] rfl ?d0 ?d1 ?d2 ?d3 ?d4 ?d5 ?_)
              all_goals (try (exact cell_one_new _ _ _))
              try (case d2 => first | rfl | exact fun u hu => by simp at hu; subst hu; rfl)
              try (case d3 => unfold maxLen; omega)
              try (case d4 => omega)
              try (case d5 => first | omega | (simp; omega))
              intro v9 w9 hown9 hgrow9 _
              have hb9 := bel_app hb5 hs5 hown5 hgrow9
              have hownX : w9.ownsRow w.heap.size 3 1 v9 ((ld + m) + 1) (natsL (D ++ List.replicate m 0 ++ [q])) := by rw [natsL_snoc8]; first | exact hown9 | simpa using hown9
              clear hown9 hgrow9
              obtain ⟨av9, cv9, rfl⟩ := own_shape hownX
              by_cases hs6 : (ld + m) + 1 ≤ 600
              · by_cases hsm : (((ld + m) + 1 : Nat) : Int) ≤ most
                · have g1 : ¬ most < (((ld + m) + 1 : Nat) : Int) := by omega
                  have g2 : ¬ (600 : Int) < (((ld + m) + 1 : Nat) : Int) := by omega
                  have HD6 : Hid ((D ++ List.replicate m 0 ++ [q]).length ≤ 600) := hidden (by rw [HDL.out]; exact hs6)
                  go_wp2
                  go_roundw
                  case rel => exact ⟨i + 1, i + 1, D ++ List.replicate m 0 ++ [q], by omega, by omega, by go_num, by go_num, HU2, HD6, hidden (fun x hx => by rw [seg_nil] at hx; cases hx), by rw [HDL.out]; exact hownX, hb9⟩
                  case measure => first | (simp [intOf]; done) | (simp [intOf]; omega)
                · have g1 : most < (((ld + m) + 1 : Nat) : Int) := by omega
                  have HF : Hid (upA z n most = none) := hidden (upT_long HU2.out (by rw [HDL.out]; omega))
                  go_wp2
                  go_ret2
                  exact ⟨_, by rw [(up_none HF.out).1]; rfl, by rw [(up_none HF.out).2]; exact World.ownsRow_nil _ _ _ _, hb9⟩
              · have g2 : (600 : Int) < (((ld + m) + 1 : Nat) : Int) := by omega
                have HF : Hid (upA z n most = none) := hidden (upT_long HU2.out (by rw [HDL.out]; omega))
                by_cases hsm : (((ld + m) + 1 : Nat) : Int) ≤ most
                · have g1 : ¬ most < (((ld + m) + 1 : Nat) : Int) := by omega
                  go_wp2
                  go_ret2
                  exact ⟨_, by rw [(up_none HF.out).1]; rfl, by rw [(up_none HF.out).2]; exact World.ownsRow_nil _ _ _ _, hb9⟩
                · have g1 : most < (((ld + m) + 1 : Nat) : Int) := by omega
                  go_wp2
                  go_ret2
                  exact ⟨_, by rw [(up_none HF.out).1]; rfl, by rw [(up_none HF.out).2]; exact World.ownsRow_nil _ _ _ _, hb9⟩
            · have HF : Hid (upA z n most = none) := hidden (upA_none (by rw [HU.out, HBAD.out hlast hx2]))
              have hx9 := ck5
              by_cases hx3 : x < 2
              · go_wp2
                go_ret2
                exact ⟨_, by rw [(up_none HF.out).1]; rfl, by rw [(up_none HF.out).2]; exact World.ownsRow_nil _ _ _ _, hb5⟩
              · have gx2 : n < x := by omega
                go_wp2
                go_ret2
                exact ⟨_, by rw [(up_none HF.out).1]; rfl, by rw [(up_none HF.out).2]; exact World.ownsRow_nil _ _ _ _, hb5⟩
          · have hlI : ¬ (i : Int) + 1 < (k : Int) := by omega
            have HU2 : Hid (unF n [] z.dropLast = upT n z (i + 1) (i + 1) (D ++ List.replicate m 0)) := hidden (by rw [HU.out, HLST.out _ (by omega) HZA.out])
            have HDL : Hid ((D ++ List.replicate m 0).length = (ld + m)) := HDL0
            by_cases hs6 : (ld + m) ≤ 600
            · by_cases hsm : (((ld + m) : Nat) : Int) ≤ most
              · have g1 : ¬ most < (((ld + m) : Nat) : Int) := by omega
                have g2 : ¬ (600 : Int) < (((ld + m) : Nat) : Int) := by omega
                have HD6 : Hid ((D ++ List.replicate m 0).length ≤ 600) := hidden (by rw [HDL.out]; exact hs6)
                go_wp2
                go_roundw
                case rel => exact ⟨i + 1, i + 1, D ++ List.replicate m 0, by omega, by omega, by go_num, by go_num, HU2, HD6, hidden (fun x hx => by rw [seg_nil] at hx; cases hx), by rw [HDL.out]; exact hown5, hb5⟩
                case measure => first | (simp [intOf]; done) | (simp [intOf]; omega)
              · have g1 : most < (((ld + m) : Nat) : Int) := by omega
                have HF : Hid (upA z n most = none) := hidden (upT_long HU2.out (by rw [HDL.out]; omega))
                go_wp2
                go_ret2
                exact ⟨_, by rw [(up_none HF.out).1]; rfl, by rw [(up_none HF.out).2]; exact World.ownsRow_nil _ _ _ _, hb5⟩
            · have g2 : (600 : Int) < (((ld + m) : Nat) : Int) := by omega
              have HF : Hid (upA z n most = none) := hidden (upT_long HU2.out (by rw [HDL.out]; omega))
              by_cases hsm : (((ld + m) : Nat) : Int) ≤ most
              · have g1 : ¬ most < (((ld + m) : Nat) : Int) := by omega
                go_wp2
                go_ret2
                exact ⟨_, by rw [(up_none HF.out).1]; rfl, by rw [(up_none HF.out).2]; exact World.ownsRow_nil _ _ _ _, hb5⟩
              · have g1 : most < (((ld + m) : Nat) : Int) := by omega
                go_wp2
                go_ret2
                exact ⟨_, by rw [(up_none HF.out).1]; rfl, by rw [(up_none HF.out).2]; exact World.ownsRow_nil _ _ _ _, hb5⟩
      · have hfi2 : f = i := by omega
        have hflI : ¬ (f : Int) < (i : Int) := by omega
        have HZA : Hid (zerF ((z.take i).drop f) = some []) := hidden (by rw [hfi2, seg_nil, zerF_nil])
        have HDL0 : Hid ((D ++ []).length = ld) := hidden (by rw [List.append_nil, HLD.out])
        have hownE : wr.ownsRow w.heap.size 3 1 (.slice av ld cv) ld (natsL (D ++ [])) := by rw [List.append_nil]; exact hown
        clear hown hfi2
        by_cases hlast : i + 1 < k
        · have hlI : (i : Int) + 1 < (k : Int) := by omega
          by_cases hx2 : 2 ≤ x ∧ x ≤ n
          · have gx1 : ¬ x < 2 := by omega
            have gx2 : ¬ n < x := by omega
            have HU2 : Hid (unF n [] z.dropLast = upT n z (i + 1) (i + 1) (D ++ [] ++ [(x - 1).toNat])) := hidden (by rw [HU.out, HMID.out _ hlast hx2 HZA.out])
            have HDL : Hid ((D ++ [] ++ [(x - 1).toNat]).length = ld + 1) := hidden (by rw [List.length_append, HDL0.out]; rfl)
            have hxn : x - 1 = ((x - 1).toNat : Int) := by omega
            obtain ⟨q, hq⟩ : ∃ q : Nat, (x - 1).toNat = q := ⟨_, rfl⟩
            rw [hq] at HU2 HDL hxn
            have hx9 := ck
            go_wp2_with (at_builtin; refine wpList_append_own _ rfl _ _ 22 rfl w.heap.size 3 i0 (.int .i64 0) 1 8 Try.underlying22 hi hz0 hz1 hz2 rfl (by decide) _ _ _ rfl (hownE.alloc _) ⟨wr.heap.size, 0, none⟩ 1 1 [.int .i64 (q : Int)] rfl ?f0 ?f1 ?f2 ?f3 ?f4 ?f5 ?_)
            all_goals (try (exact cell_one_new _ _ _))
            try (case f2 => first | rfl | exact fun u hu => by simp at hu; subst hu; rfl)
            try (case f3 => unfold maxLen; omega)
            try (case f4 => omega)
            try (case f5 => first | omega | (simp; omega))
            intro v9 w9 hown9 hgrow9 _
            have hb9 := bel_app hbl hsz hownE hgrow9
            have hownX : w9.ownsRow w.heap.size 3 1 v9 (ld + 1) (natsL (D ++ [] ++ [q])) := by rw [natsL_snoc8]; first | exact hown9 | simpa using hown9
            clear hown9 hgrow9
            obtain ⟨av9, cv9, rfl⟩ := own_shape hownX
            by_cases hs6 : ld + 1 ≤ 600
            · by_cases hsm : ((ld + 1 : Nat) : Int) ≤ most
              · have g1 : ¬ most < ((ld + 1 : Nat) : Int) := by omega
                have g2 : ¬ (600 : Int) < ((ld + 1 : Nat) : Int) := by omega
                have HD6 : Hid ((D ++ [] ++ [q]).length ≤ 600) := hidden (by rw [HDL.out]; exact hs6)
                go_wp2
                go_roundw
                case rel => exact ⟨i + 1, i + 1, D ++ [] ++ [q], by omega, by omega, by go_num, by go_num, HU2, HD6, hidden (fun x hx => by rw [seg_nil] at hx; cases hx), by rw [HDL.out]; exact hownX, hb9⟩
                case measure => first | (simp [intOf]; done) | (simp [intOf]; omega)
              · have g1 : most < ((ld + 1 : Nat) : Int) := by omega
                have HF : Hid (upA z n most = none) := hidden (upT_long HU2.out (by rw [HDL.out]; omega))
                go_wp2
                go_ret2
                exact ⟨_, by rw [(up_none HF.out).1]; rfl, by rw [(up_none HF.out).2]; exact World.ownsRow_nil _ _ _ _, hb9⟩
            · have g2 : (600 : Int) < ((ld + 1 : Nat) : Int) := by omega
              have HF : Hid (upA z n most = none) := hidden (upT_long HU2.out (by rw [HDL.out]; omega))
              by_cases hsm : ((ld + 1 : Nat) : Int) ≤ most
              · have g1 : ¬ most < ((ld + 1 : Nat) : Int) := by omega
                go_wp2
                go_ret2
                exact ⟨_, by rw [(up_none HF.out).1]; rfl, by rw [(up_none HF.out).2]; exact World.ownsRow_nil _ _ _ _, hb9⟩
              · have g1 : most < ((ld + 1 : Nat) : Int) := by omega
                go_wp2
                go_ret2
                exact ⟨_, by rw [(up_none HF.out).1]; rfl, by rw [(up_none HF.out).2]; exact World.ownsRow_nil _ _ _ _, hb9⟩
          · have HF : Hid (upA z n most = none) := hidden (upA_none (by rw [HU.out, HBAD.out hlast hx2]))
            have hx9 := ck
            by_cases hx3 : x < 2
            · go_wp2
              go_ret2
              exact ⟨_, by rw [(up_none HF.out).1]; rfl, by rw [(up_none HF.out).2]; exact World.ownsRow_nil _ _ _ _, hbl⟩
            · have gx2 : n < x := by omega
              go_wp2
              go_ret2
              exact ⟨_, by rw [(up_none HF.out).1]; rfl, by rw [(up_none HF.out).2]; exact World.ownsRow_nil _ _ _ _, hbl⟩
        · have hlI : ¬ (i : Int) + 1 < (k : Int) := by omega
          have HU2 : Hid (unF n [] z.dropLast = upT n z (i + 1) (i + 1) (D ++ [])) := hidden (by rw [HU.out, HLST.out _ (by omega) HZA.out])
          have HDL : Hid ((D ++ []).length = ld) := HDL0
          by_cases hs6 : ld ≤ 600
          · by_cases hsm : ((ld : Nat) : Int) ≤ most
            · have g1 : ¬ most < ((ld : Nat) : Int) := by omega
              have g2 : ¬ (600 : Int) < ((ld : Nat) : Int) := by omega
              have HD6 : Hid ((D ++ []).length ≤ 600) := hidden (by rw [HDL.out]; exact hs6)
              go_wp2
              go_roundw
              case rel => exact ⟨i + 1, i + 1, D ++ [], by omega, by omega, by go_num, by go_num, HU2, HD6, hidden (fun x hx => by rw [seg_nil] at hx; cases hx), by rw [HDL.out]; exact hownE, hbl⟩
              case measure => first | (simp [intOf]; done) | (simp [intOf]; omega)
            · have g1 : most < ((ld : Nat) : Int) := by omega
              have HF : Hid (upA z n most = none) := hidden (upT_long HU2.out (by rw [HDL.out]; omega))
              go_wp2
              go_ret2
              exact ⟨_, by rw [(up_none HF.out).1]; rfl, by rw [(up_none HF.out).2]; exact World.ownsRow_nil _ _ _ _, hbl⟩
          · have g2 : (600 : Int) < ((ld : Nat) : Int) := by omega
            have HF : Hid (upA z n most = none) := hidden (upT_long HU2.out (by rw [HDL.out]; omega))
            by_cases hsm : ((ld : Nat) : Int) ≤ most
            · have g1 : ¬ most < ((ld : Nat) : Int) := by omega
              go_wp2
              go_ret2
              exact ⟨_, by rw [(up_none HF.out).1]; rfl, by rw [(up_none HF.out).2]; exact World.ownsRow_nil _ _ _ _, hbl⟩
            · have g1 : most < ((ld : Nat) : Int) := by omega
              go_wp2
              go_ret2
              exact ⟨_, by rw [(up_none HF.out).1]; rfl, by rw [(up_none HF.out).2]; exact World.ownsRow_nil _ _ _ _, hbl⟩
    · have hik2 : i = k := by omega
      subst hik2
      have HE : Hid (unF n [] z.dropLast = some D) := hidden (by rw [HU.out, HEND.out])
      have hlt2 : ¬ (i : Int) < (i : Int) := by omega
      by_cases hsm : (ld : Int) ≤ most
      · have g1 : ¬ most < (ld : Int) := by omega
        have HA : Hid (upA z n most = some D) := hidden (upA_yes (by have := HG.out; exact this) HE.out ⟨by rw [HLD.out]; exact hsm, HD6.out⟩)
        go_wp2
        go_ret2
        exact ⟨_, by rw [(up_some HA.out).1]; rfl, by rw [(up_some HA.out).2, intsV_ints, ints_len, HLD.out]; exact hown, hbl⟩
      · have g1 : most < (ld : Int) := by omega
        have HF : Hid (upA z n most = none) := hidden (upA_long HE.out (by rw [HLD.out]; omega))
        go_wp2
        go_ret2
        exact ⟨_, by rw [(up_none HF.out).1]; rfl, by rw [(up_none HF.out).2]; exact World.ownsRow_nil _ _ _ _, hbl⟩
theorem specUnpackRuns_any (a : Option Addr) (cap B : Nat) (z : List Int) (n most : Int) (w : World) (hz : Ints w B a z) (hB : B ≤ w.heap.size) (hl : z.length ≤ 1048576) (hcap : z.length ≤ cap) (n1 : -9223372036854775808 ≤ n) (n2 : n ≤ 9223372036854775807) (m1 : -9223372036854775808 ≤ most) (m2 : most ≤ 9223372036854775807) :
    Calls Try.prog 25 #[.slice a z.length cap, .int .i64 n, .int .i64 most] w fun e w' => ∃ v, e = .returned (.tuple #[v, .bool (upOk z n most)]) ∧ w'.ownsRow w.heap.size 3 1 v (upL z n most).length (intsV (upL z n most)) ∧ Below w.heap.size w w' := by
  by_cases hg : 1 ≤ n ∧ n ≤ 256 ∧ z ≠ [] ∧ z.getD (z.length - 1) 0 = n + 1
  · obtain ⟨h1, h2, h3, h4⟩ := hg
    obtain ⟨b, off, rfl, hb, hc⟩ := hz.2.2 (List.length_pos_iff.2 h3)
    exact specUnpackRuns_go b off cap B z n most w hz hB hl hcap h1 h2 h3 h4 m1 m2
  · have hno := up_none (upA_no (most := most) hg)
    refine (specUnpackRuns_no a cap B z n most w hz hl n1 n2 hg).mono ?_
    rintro e w' ⟨rfl, rfl⟩
    exact ⟨_, by rw [hno.1], by rw [hno.2]; exact World.ownsRow_nil _ _ _ _, Below.refl _ _⟩
end Go.Proofs.Ytpdicijoohahaaa
