/- Chapter 8: UnInv (the model). -/
import Derived.Test.YtpdicijoohahaaaTotU
import Derived.Test.YtpdicijoohahaaaUi2
import Derived.Test.YtpdicijoohahaaaC8M
namespace Go.Proofs.Ytpdicijoohahaaa
set_option linter.unusedVariables false
set_option linter.unusedSimpArgs false
open Go.RowKit

theorem natsL_set (O : List Nat) (t x : Nat) : (natsL O).set t (.int .i64 (x : Int)) = natsL (O.set t x) := by simp [natsL, List.map_set]
theorem natsL_at (O : List Nat) (t : Nat) (h : t < O.length) : (natsL O)[t]? = some (.int .i64 ((O.getD t 0 : Nat) : Int)) := by
  rw [natsL_get O t h]
  simp [List.getD_eq_getElem?_getD, h]
set_option maxHeartbeats 4000000 in
set_option maxRecDepth 100000 in
theorem specUnInv_go (b0 off0 cap0 b1 off1 cap1 B m : Nat) (a1 : Option Addr) (cs : List Nat) (gz : List Int) (w : World) (hz0 : Ints w B (some ⟨b0, off0, none⟩) (ints cs)) (hz1 : Ints w B a1 gz) (hB : B ≤ w.heap.size) (hm : cs.length = m) (hm1 : 1 ≤ m) (hm2 : m ≤ 256) (hs6 : cs.sum ≤ 600) (hgl : gz.length + last8 cs = cs.sum) (hsz : szOk (ints cs) gz.length m = true) (htot : totF (ints cs) 0 = some cs.sum) :
    Calls Try.prog 13 #[.slice (some ⟨b0, off0, none⟩) m cap0, .slice a1 gz.length cap1, .int .i64 m] w fun e w' => ∃ v, e = .returned (.tuple #[v, .bool (uiOk (ints cs) gz m)]) ∧ w'.ownsRow w.heap.size 3 1 v (uiL (ints cs) gz m).length (intsV (uiL (ints cs) gz m)) ∧ Below w.heap.size w w' := by
  obtain ⟨i0, hi, hj0, hj1, hj2⟩ := info_parts Try.infoInt
  have hne : cs ≠ [] := fun e => by subst e; simp at hm; omega
  have KT := hidden (l8total_any (some ⟨b0, off0, none⟩) cap0 B (ints cs) w hz0 (by rw [ints_len]; omega))
  rw [htot, ints_len, hm] at KT
  obtain ⟨b', off', e, hb0, hc0⟩ := hz0.2.2 (by rw [ints_len]; omega)
  obtain ⟨rfl, rfl⟩ : b0 = b' ∧ off0 = off' := by simpa using e
  have HC0 : Hid (∀ W, Below w.heap.size w W → ∀ i, i < m → W.cell? ⟨b0, off0 + i, none⟩ = some (.int .i64 ((cs.getD i 0 : Nat) : Int))) := hidden (fun W hW i hi => by
    have := hc0 i (by rw [ints_len]; omega)
    rw [ints_get] at this
    exact (hW.cell (p := ⟨b0, off0 + i, none⟩) (by simp; omega)).trans this)
  have HZ1 := hidden hz1
  have HST : Hid (uiA (ints cs) gz m = modR 0 cs gz (List.replicate cs.sum (m - 1))) := hidden (by rw [uiA_yes hsz, ← hm, modR_zero hne hgl])
  have HAT := hidden (fun x g O h => modR_at (cs := cs) (gz := gz) (x := x) (g := g) (O := O) h)
  have HLA := hidden (fun gs x O h => modR_last (cs := cs) (gs := gs) (x := x) (O := O) h)
  have HOF := hidden (fun k h => off8_le cs k h)
  have HOS := hidden (fun k h => off8_succ cs k h)
  have HO0 : Hid (off8 cs 0 = 0) := hidden (by simp [off8])
  have HCB : Hid (∀ i, cs.getD i 0 ≤ 600) := hidden (fun i => by
    rcases Nat.lt_or_ge i cs.length with h | h
    · have := mem_le_sum8 cs _ (getD_mem7 cs i h); omega
    · simp [List.getD_eq_getElem?_getD, h])
  have HGR := hidden hz1.2.1
  have cp := HC0.out w (Below.refl _ _) (m - 1) (by omega)
  have hl8 : cs.getD (m - 1) 0 = last8 cs := by rw [← hm]; rfl
  rw [hl8] at cp
  rw [hm] at HAT HLA HOF HOS
  obtain ⟨l, hl⟩ : ∃ l, last8 cs = l := ⟨_, rfl⟩
  obtain ⟨S, hS⟩ : ∃ S, cs.sum = S := ⟨_, rfl⟩
  obtain ⟨G, hG⟩ : ∃ G, gz.length = G := ⟨_, rfl⟩
  have HG := hidden hG
  obtain ⟨T, hT⟩ : ∃ T, uiA (ints cs) gz m = T := ⟨_, rfl⟩
  have HT := hidden hT
  rw [hT] at HST
  rw [hl] at cp hgl HOF
  rw [hS] at hgl hs6 KT HST HOF
  rw [hG] at hgl ⊢
  obtain ⟨p, hp0⟩ : ∃ p, m = p + 1 := ⟨m - 1, by omega⟩
  have hp : (m : Int) - 1 = (p : Int) := by omega
  have hp2 : m - 1 = p := by omega
  rw [hp2] at cp HST
  have hp3 : (p : Int) < (m : Int) := by omega
  have hd1 : (S : Int) - (l : Int) = (G : Int) := by omega
  have HP := hidden hp0
  clear hz0 hz1 hc0 e hsz htot hne hT hG hS hl hl8 hp0 hm hp2
  go_enter Try.func13, Try.ntmps13
  go_wp2_with fail
  refine KT.out.mono ?_
  rintro e w1 ⟨rfl, rfl⟩
  simp only [totI]
  go_wp2_with (at_make; refine wpList_make_full _ rfl _ _ 22 rfl w.heap.size 3 i0 (.int .i64 0) 1 Try.underlying22 hi hj0 hj1 .i64 .i64 _ _ S rfl rfl rfl rfl ?cb1 ?cb2 ?cb3 ?_)
  case cb1 => rw [hj2]; omega
  case cb2 => unfold maxLen; omega
  case cb3 => exact Nat.le_refl _
  intro w2 hown hgrow
  have hbl := bel_made hgrow
  rw [made_nats] at hown
  clear hgrow cp
  obtain ⟨g, hg⟩ : ∃ g, w.heap.size = g := ⟨_, rfl⟩
  have hgw : w.heap.size ≤ g := by omega
  rw [hg] at hown ⊢
  have hown0 : w2.ownsRow g 3 1 (.slice (some ⟨g, 0, none⟩) S S) S (nats S (fun _ => 0)) := hown
  go_wp2
  go_loopw [10] (fun si wr => ∃ (i : Nat) (f : Nat → Nat), i ≤ S ∧ si = .int .i64 i ∧ Hid (∀ j, j < i → f j = p) ∧ wr.ownsRow g 3 1 (.slice (some ⟨g, 0, none⟩) S S) S (nats S f) ∧ Below g w wr) (fun si _ => S - (intOf si).toNat)
  case atStart => exact ⟨0, fun _ => 0, by omega, rfl, hidden (fun j hj => by omega), hown0, by rw [← hg]; exact hbl⟩
  case round =>
    obtain ⟨i, f, hi1, rfl, HF, hO, hb⟩ := hrel
    clear hown hown0 hbl
    by_cases hlt : i < S
    · have hiI : (i : Int) < (S : Int) := by omega
      have d0 := hO.cellAt i (by omega)
      rw [nats_get _ _ _ hlt] at d0
      have f0 := hO.frozenAt i
      have HF2 : Hid (∀ j, j < i + 1 → (if j = i then p else f j) = p) := hidden (fun j hj => by
        split
        · rfl
        · exact HF.out j (by omega))
      go_wp2
      go_roundw
      case rel => exact ⟨i + 1, fun t => if t = i then p else f t, by omega, by go_num, HF2, by rw [← nats_set]; exact (hO.stored i _).1, hb.setCell (Nat.le_refl _) _⟩
      case measure => simp [intOf]; omega
    · have hiS : i = S := by omega
      subst hiS
      have HE : Hid (nats i f = natsL (List.replicate i p)) := hidden (by
        rw [natsL_nats, List.length_replicate]
        exact nats_congr fun s hs => by rw [HF.out s hs]; simp [List.getD_eq_getElem?_getD, hs])
      rw [HE.out] at hO
      have HOl : Hid ((List.replicate i p).length = i) := hidden (by simp)
      have hlt9 : ¬ (i : Int) < (i : Int) := by omega
      clear HE HF f
      go_wp2
      go_loopw [11, 12, 13, 14, 15] (fun sg sx _ _ _ wr => ∃ (x g0 : Nat) (O : List Nat), x ≤ p ∧ sx = .int .i64 x ∧ sg = .int .i64 g0 ∧ Hid (g0 = off8 cs x) ∧ Hid (O.length = i) ∧ Hid (T = modR x (cs.drop x) (gz.drop g0) O) ∧ wr.ownsRow g 3 1 (.slice (some ⟨g, 0, none⟩) i i) i (natsL O) ∧ Below g w wr) (fun _ sx _ _ _ _ => p - (intOf sx).toNat)
      case atStart => exact ⟨0, 0, List.replicate i p, by omega, rfl, rfl, hidden HO0.out.symm, HOl, hidden (by rw [HST.out, List.drop_zero, List.drop_zero]), hO, hb⟩
      case round =>
        obtain ⟨x, g0, O, hx, rfl, rfl, HG0, HOL, HTR, hO2, hb2⟩ := hrel
        clear hO hb
        by_cases hxp : x < p
        · have hxI : (x : Int) < (p : Int) := by omega
          have HB2 := hidden hb2
          have cx := HC0.out wr (by rw [hg]; exact hb2) x (by omega)
          have HC9 : Hid (cs.getD x 0 ≤ 600) := hidden (HCB.out x)
          have HOS9 : Hid (off8 cs (x + 1) = off8 cs x + cs.getD x 0) := hidden (HOS.out x (by omega))
          have HOF9 := hidden (HOF.out (x + 1) (by have := HP.out; omega))
          have HTR2 : Hid (T = mT x O 0 ((gz.drop g0).take (cs.getD x 0)) (modR (x + 1) (cs.drop (x + 1)) (gz.drop (g0 + cs.getD x 0)))) := hidden (by rw [HTR.out, HAT.out x g0 O (by have := HP.out; omega)])
          have HC0x : Hid (∀ W, Below g w W → W.cell? ⟨b0, off0 + x, none⟩ = some (.int .i64 ((cs.getD x 0 : Nat) : Int))) := hidden (fun W hW => HC0.out W (by rw [hg]; exact hW) x (by omega))
          obtain ⟨c, hc⟩ : ∃ c, cs.getD x 0 = c := ⟨_, rfl⟩
          rw [hc] at cx HC9 HOS9 HTR2 HC0x
          have hc6 := HC9.out
          have hgc : g0 + c ≤ G := by have := HOF9.out; have := HOS9.out; have := HG0.out; omega
          obtain ⟨N, hN⟩ : ∃ N, modR (x + 1) (cs.drop (x + 1)) (gz.drop (g0 + c)) = N := ⟨_, rfl⟩
          have HN := hidden hN
          rw [hN] at HTR2
          clear hc hN HTR cx
          go_wp2
          go_loopw [11, 13, 14, 15] (fun sg st sk _ wr => ∃ (k t : Nat) (O : List Nat), k ≤ c ∧ t ≤ i ∧ sk = .int .i64 k ∧ sg = .int .i64 ((g0 + k : Nat) : Int) ∧ st = .int .i64 t ∧ Hid (O.length = i) ∧ Hid (T = mT x O t ((gz.drop (g0 + k)).take (c - k)) N) ∧ wr.ownsRow g 3 1 (.slice (some ⟨g, 0, none⟩) i i) i (natsL O) ∧ Below g w wr) (fun _ _ sk _ _ => c - (intOf sk).toNat)
          case atStart => exact ⟨0, 0, O, by omega, by omega, rfl, rfl, rfl, HOL, hidden (by rw [HTR2.out]; rfl), hO2, hb2⟩
          case round =>
            obtain ⟨k, t, O3, hk, ht, rfl, hsg, rfl, HOL3, HT3, hO3, hb3⟩ := hrel
            rw [Int.natCast_add] at hsg
            subst hsg
            clear hO2 hb2 HB2
            have cx := HC0x.out wr hb3
            by_cases hkc : k < c
            · have hkI : (k : Int) < (c : Int) := by omega
              obtain ⟨bg, og, rfl, hbg, hcg⟩ := HZ1.out.2.2 (by rw [HG.out]; omega)
              have cg : wr.cell? ⟨bg, og + (g0 + k), none⟩ = some (.int .i64 (gz.getD (g0 + k) 0)) := (hb3.cell (p := ⟨bg, og + (g0 + k), none⟩) (by simp; omega)).trans (hcg (g0 + k) (by rw [HG.out]; omega))
              have hyr := HGR.out _ (getD_mem (zs := gz) (k := g0 + k) (by rw [HG.out]; omega))
              have HT4 : Hid (T = mT x O3 t (gz.getD (g0 + k) 0 :: (gz.drop (g0 + k + 1)).take (c - k - 1)) N) := hidden (by rw [HT3.out, gapZ_cons gz (g0 + k) (c - k) (by rw [HG.out]; omega) (by omega)])
              obtain ⟨y, hy⟩ : ∃ y, gz.getD (g0 + k) 0 = y := ⟨_, rfl⟩
              rw [hy] at cg hyr HT4
              have hgI : (g0 : Int) + (k : Int) < (G : Int) := by omega
              have hgn : (((g0 : Int) + (k : Int)).toNat) = g0 + k := by omega
              clear hy hcg HT3
              go_wp2
              go_loopw [13, 15] (fun st ss wr => ∃ (t : Nat) (s : Int), t ≤ i ∧ st = .int .i64 t ∧ ss = .int .i64 s ∧ -9223372036854775808 ≤ s ∧ s ≤ 9223372036854775807 ∧ Hid (T = mT x O3 t (s :: (gz.drop (g0 + k + 1)).take (c - k - 1)) N) ∧ wr.ownsRow g 3 1 (.slice (some ⟨g, 0, none⟩) i i) i (natsL O3) ∧ Below g w wr) (fun st _ _ => i - (intOf st).toNat)
              case atStart => exact ⟨t, y, ht, rfl, rfl, hyr.1, hyr.2, HT4, hO3, hb3⟩
              case round =>
                obtain ⟨t, s, ht, rfl, rfl, hs1, hs2, HT5, hO4, hb4⟩ := hrel
                clear hO3 hb3 cg hyr HT4 cx
                by_cases hti : t < i
                · have htI : (t : Int) < (i : Int) := by omega
                  have d0 := hO4.cellAt t (by omega)
                  rw [natsL_at _ _ (by rw [HOL3.out]; exact hti)] at d0
                  have f0 := hO4.frozenAt t
                  have HPS := hidden (fun h => mT_pass (x := x) (O := O3) (t := t) (s := s) (gs := (gz.drop (g0 + k + 1)).take (c - k - 1)) (N := N) (by rw [HOL3.out]; exact hti) h)
                  have HSK := hidden (fun h h2 => mT_skip (x := x) (O := O3) (t := t) (s := s) (gs := (gz.drop (g0 + k + 1)).take (c - k - 1)) (N := N) (by rw [HOL3.out]; exact hti) h h2)
                  have HBD := hidden (fun h h2 => mT_bad (x := x) (O := O3) (t := t) (s := s) (gs := (gz.drop (g0 + k + 1)).take (c - k - 1)) (N := N) (by rw [HOL3.out]; exact hti) h h2)
                  have HHE := hidden (fun h => mT_here (x := x) (O := O3) (t := t) (gs := (gz.drop (g0 + k + 1)).take (c - k - 1)) (N := N) (by rw [HOL3.out]; exact hti) h)
                  obtain ⟨o, ho⟩ : ∃ o, O3.getD t 0 = o := ⟨_, rfl⟩
                  rw [ho] at d0 HPS HSK HBD HHE
                  clear ho
                  by_cases hox : o < x
                  · have hoI : (o : Int) < (x : Int) := by omega
                    have hoJ : ¬ (x : Int) ≤ (o : Int) := by omega
                    have HT6 : Hid (T = mT x O3 (t + 1) (s :: (gz.drop (g0 + k + 1)).take (c - k - 1)) N) := hidden (by rw [HT5.out, HPS.out hox])
                    go_wp2
                    go_roundw
                    case rel => exact ⟨t + 1, s, by omega, by go_num, rfl, hs1, hs2, HT6, hO4, hb4⟩
                    case measure => simp [intOf]; omega
                  · have hoI : ¬ (o : Int) < (x : Int) := by omega
                    have hoJ : (x : Int) ≤ (o : Int) := by omega
                    by_cases hs0 : 0 < s
                    · have HT6 : Hid (T = mT x O3 (t + 1) ((s - 1) :: (gz.drop (g0 + k + 1)).take (c - k - 1)) N) := hidden (by rw [HT5.out, HSK.out (by omega) hs0])
                      go_wp2
                      go_roundw
                      case rel => exact ⟨t + 1, s - 1, by omega, by go_num, by go_num, by omega, by omega, HT6, hO4, hb4⟩
                      case measure => simp [intOf]; omega
                    · by_cases hsn : s = 0
                      · subst hsn
                        have HT6 : Hid (T = mT x (O3.set t x) (t + 1) ((gz.drop (g0 + (k + 1))).take (c - (k + 1))) N) := hidden (by rw [HT5.out, HHE.out (by omega)]; rfl)
                        have HOL4 : Hid ((O3.set t x).length = i) := hidden (by rw [List.length_set, HOL3.out])
                        have htne : ¬ (t : Int) = (i : Int) := by omega
                        have hbne : ((t : Int) == (i : Int)) = false := by rw [beq_eq_false_iff_ne]; exact htne
                        have hO5 := (hO4.stored t (.int .i64 (x : Int))).1
                        rw [natsL_set] at hO5
                        have hb5 := hb4.setCell (p := ⟨g, t, none⟩) (Nat.le_refl _) (.int .i64 (x : Int))
                        clear hb4 HT5
                        go_wp2
                        go_roundw
                        case rel => exact ⟨k + 1, t + 1, O3.set t x, by omega, by omega, by go_num, by go_num, by go_num, HOL4, HT6, hO5, hb5⟩
                        case measure => simp [intOf]; omega
                      · have HF : Hid (T = none) := hidden (by rw [HT5.out, HBD.out (by omega) (by omega)])
                        have hbs : (s != (0 : Int)) = true := by simpa using hsn
                        go_wp2
                        go_ret2
                        exact ⟨_, by rw [(ui_none (HT.out.trans HF.out)).1]; rfl, by rw [(ui_none (HT.out.trans HF.out)).2]; exact World.ownsRow_nil _ _ _ _, hb4⟩
                · have hti2 : t = i := by omega
                  have HF : Hid (T = none) := hidden (by rw [HT5.out, mT_end (by rw [HOL3.out]; omega)])
                  have htI : ¬ (t : Int) < (i : Int) := by omega
                  have hbt : ((t : Int) == (i : Int)) = true := by rw [hti2]; simp
                  by_cases hsn : s = 0
                  · have hbs : (s != (0 : Int)) = false := by simpa using hsn
                    go_wp2
                    go_ret2
                    exact ⟨_, by rw [(ui_none (HT.out.trans HF.out)).1]; rfl, by rw [(ui_none (HT.out.trans HF.out)).2]; exact World.ownsRow_nil _ _ _ _, hb4⟩
                  · have hbs : (s != (0 : Int)) = true := by simpa using hsn
                    go_wp2
                    go_ret2
                    exact ⟨_, by rw [(ui_none (HT.out.trans HF.out)).1]; rfl, by rw [(ui_none (HT.out.trans HF.out)).2]; exact World.ownsRow_nil _ _ _ _, hb4⟩
            · have hkc2 : k = c := by omega
              have hkI : ¬ (k : Int) < (c : Int) := by omega
              have HT6 : Hid (T = modR (x + 1) (cs.drop (x + 1)) (gz.drop (g0 + k)) O3) := hidden (by rw [HT3.out, hkc2, Nat.sub_self, List.take_zero, mT_nil, ← HN.out])
              have HG1 : Hid (g0 + k = off8 cs (x + 1)) := hidden (by rw [hkc2, HOS9.out, HG0.out])
              go_wp2
              go_roundw
              case rel => exact ⟨x + 1, g0 + k, O3, by omega, by go_num, by go_num, HG1, HOL3, HT6, hO3, hb3⟩
              case measure => simp [intOf]; omega
        · have hxe : x = p := by omega
          have hxI : ¬ (x : Int) < (p : Int) := by omega
          have HF : Hid (T = some O) := hidden (by rw [HTR.out, HLA.out _ x O (by have := HP.out; omega)])
          go_wp2
          go_ret2
          exact ⟨_, by rw [(ui_some (HT.out.trans HF.out)).1]; rfl, by rw [(ui_some (HT.out.trans HF.out)).2, intsV_ints, ints_len, HOL.out]; exact hO2, hb2⟩
end Go.Proofs.Ytpdicijoohahaaa
