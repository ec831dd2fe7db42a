/- Chapter 5, the program: GetLens. -/
import Derived.Test.YtdeikdlbgjpooaaI5J
namespace Go.Proofs.Ytdeikdlbgjpooaa
set_option linter.unusedVariables false
set_option linter.unusedSimpArgs false
open Go.RowKit

set_option maxHeartbeats 4000000 in
set_option maxRecDepth 100000 in
theorem implGetLens_any (s : ByteArray) (at0 n : Nat) (w : World) (hs : s.size ≤ 1048576) (ha : at0 ≤ 8 * s.size) (hn1 : 1 ≤ n) (hn2 : n ≤ 260) :
    Calls Try.prog 16 #[.agg #[.string s, .int .i64 at0], .int .i64 n] w (GL5 s at0 n w) := by
  obtain ⟨i0, hi, hz0, hz1, hz2⟩ := info_parts Try.infoInt
  go_enter Try.func16, Try.ntmps16
  go_wp2
  refine wp_scope4 (fun (gk l : Nat) (a' : Act) (w' : World) => ∃ u0 u3 u7 u8 u9 u10 u11 u12 u13 u14 u15 u16 u17 u18 u19 u20 u21 u22 u23 u24 u25 u26 u27 u28 u29 u30 u31 u32 u33 u34 u35 u36 u37 u38 u39 u40 u41 u42 u43 u44 u45 u46 u47 u48 u49 u50 u51 u52 u53 u54 u55 u56 u57 u58 u59 u60 u61 u62 u63 u64 u65 u66 u67 u68 u69 u70 : Value, Jump5 s at0 n w gk l u7 u9 u10 w' ∧ a' = { tmps := #[u0, .int .i64 n, .pointer (some ⟨w.heap.size, 0, none⟩), u3, .slice none 0 0, .pointer (some ⟨w.heap.size + 1, 0, none⟩), .bool false, u7, u8, u9, u10, u11, u12, u13, u14, u15, u16, u17, u18, u19, u20, u21, u22, u23, u24, u25, u26, u27, u28, u29, u30, u31, u32, u33, u34, u35, u36, u37, u38, u39, u40, u41, u42, u43, u44, u45, u46, u47, u48, u49, u50, u51, u52, u53, u54, u55, u56, u57, u58, u59, u60, u61, u62, u63, u64, u65, u66, u67, u68, u69, u70], defers := [] }) rfl rfl rfl rfl ?h0 ?h2 ?h3 ?h1 ?hf ?hJ
  case hJ =>
    intro g l a' w' hj
    obtain ⟨u0, u3, u7, u8, u9, u10, u11, u12, u13, u14, u15, u16, u17, u18, u19, u20, u21, u22, u23, u24, u25, u26, u27, u28, u29, u30, u31, u32, u33, u34, u35, u36, u37, u38, u39, u40, u41, u42, u43, u44, u45, u46, u47, u48, u49, u50, u51, u52, u53, u54, u55, u56, u57, u58, u59, u60, u61, u62, u63, u64, u65, u66, u67, u68, u69, u70, hrel, rfl⟩ := hj
    match l, hrel with
    | 0, _ => exact .inl rfl
    | 1, _ => exact .inr (.inl rfl)
    | 2, _ => exact .inr (.inr (.inl rfl))
    | 3, _ => exact .inr (.inr (.inr rfl))
    | _ + 4, h => exact h.elim
  case h0 =>
    intro gk a' wr hj Qx hQx
    obtain ⟨u0, u3, u7, u8, u9, u10, u11, u12, u13, u14, u15, u16, u17, u18, u19, u20, u21, u22, u23, u24, u25, u26, u27, u28, u29, u30, u31, u32, u33, u34, u35, u36, u37, u38, u39, u40, u41, u42, u43, u44, u45, u46, u47, u48, u49, u50, u51, u52, u53, u54, u55, u56, u57, u58, u59, u60, u61, u62, u63, u64, u65, u66, u67, u68, u69, u70, hrel, rfl⟩ := hj
    obtain ⟨⟨hS, hbl⟩, hno⟩ := hrel
    have HNO := hidden hno
    have e0 := hS.cell 0
    have e1 := hS.cell 1
    have f0 := hS.free 0
    have f1 := hS.free 1
    simp at e0 e1
    have hsb := hbl.size
    have hSl := hS.lt
    clear hno hS
    go_wp2
    simp only [jumps]
    refine bodyPost_ret (v := .tuple #[.slice none 0 0, .agg #[.string ⟨#[]⟩, .int .i64 0], .bool false]) (by simp [results, Try.results16, go_sem, e0, e1, f0, f1]) rfl ⟨.inr ⟨HNO.out, rfl⟩, ?_⟩
    repeat (first | exact Below.refl _ _ | assumption | refine Below.alloc ?_ (by (try simp); (try omega)) _ | refine Below.setCell ?_ (by (try simp); (try omega)) _ | refine Below.drew ?_ | refine bel_then (by assumption) (by (try simp); (try omega)) ?_)
  case h2 =>
    intro gk a' wr hj Qx hQx
    obtain ⟨u0, u3, u7, u8, u9, u10, u11, u12, u13, u14, u15, u16, u17, u18, u19, u20, u21, u22, u23, u24, u25, u26, u27, u28, u29, u30, u31, u32, u33, u34, u35, u36, u37, u38, u39, u40, u41, u42, u43, u44, u45, u46, u47, u48, u49, u50, u51, u52, u53, u54, u55, u56, u57, u58, u59, u60, u61, u62, u63, u64, u65, u66, u67, u68, u69, u70, hrel, rfl⟩ := hj
    obtain ⟨hB, c, y, xs, hM, hlen, hy, hc, rfl, rfl, hH⟩ := hrel
    have HM := hidden hM
    have HB := hidden hB
    have HH := hidden hH
    have hsz := hB.2.size
    have hbl2 := hB.1.lt
    obtain ⟨c0, c1, f0, f1⟩ := hH.cells
    clear hM hB hH
    by_cases hroom : c + 1 ≤ 8 * s.size
    · have K := hidden (fun W => implGet_yes s c 1 W hs (by omega) hroom)
      simp only [num_row_one5] at K
      have hb2 := bit_lt s c
      by_cases hb0 : bit s c = 0
      · have HST := hidden (HM.out.stop hy hroom hb0)
        rw [hb0] at K
        clear hb0 hb2
        go_wp2_with fail
        refine (K.out _).mono ?_
        rintro e w2 ⟨rfl, b2⟩
        have hH2 := HH.out.call b2
        have hB2 := HB.out.call b2
        obtain ⟨d0, d1, g0, g1⟩ := hH2.cells
        have HH3 := hidden (hH2.put (c + 1))
        have HB3 := hidden (hB2.put (.string s) (.int .i64 ((c + 1 : Nat) : Int)))
        have hsz2 := hB2.2.size
        clear b2 hH2 hB2 K c0 c1 f0 f1 HH HB
        go_wp2
        go_step3
        show Qx (.goto 3) _ _
        refine to_jump hQx (3 * (8 * s.size - (c + 1)) + 2) ?_ ?_
        · omega
        · repeat apply Exists.intro
          refine ⟨?_, rfl⟩
          exact ⟨HB3.out, c + 1, y, xs, HST.out, hlen, hy, hroom, rfl, rfl, HH3.out⟩
      · have hb1 : bit s c = 1 := by omega
        have HB1 := hidden hb1
        rw [hb1] at K
        clear hb0 hb2 hb1
        go_wp2_with fail
        refine (K.out _).mono ?_
        rintro e w2 ⟨rfl, b2⟩
        have hH2 := HH.out.call b2
        have hB2 := HB.out.call b2
        obtain ⟨d0, d1, g0, g1⟩ := hH2.cells
        have HH3 := hidden (hH2.put (c + 1))
        have HB3 := hidden (hB2.put (.string s) (.int .i64 ((c + 1 : Nat) : Int)))
        have hsz2 := hB2.2.size
        have hRl2 := hH2.2.lt
        clear b2 hH2 hB2 K c0 c1 f0 f1 HH HB
        by_cases hrm2 : c + 2 ≤ 8 * s.size
        · have K := hidden (fun W => implGet_yes s (c + 1) 1 W hs (by omega) (by omega))
          simp only [num_row_one5] at K
          have hb3 := bit_lt s (c + 1)
          by_cases hc0 : bit s (c + 1) = 0
          · have HNX := hidden (HM.out.up hy hrm2 HB1.out hc0)
            rw [hc0] at K
            clear hc0 hb3
            go_wp2_with fail
            refine (K.out _).mono ?_
            rintro e w3 ⟨rfl, b3⟩
            have hH4 := HH3.out.call b3
            have hB4 := HB3.out.call b3
            clear d0 d1 g0 g1
            obtain ⟨d0, d1, g0, g1⟩ := hH4.cells
            have HH5 := hidden (hH4.put (c + 2))
            have HB5 := hidden (hB4.put (.string s) (.int .i64 ((c + 2 : Nat) : Int)))
            have hsz3 := hB4.2.size
            clear b3 hH4 hB4 K HH3 HB3
            go_wp2
            go_step3
            show Qx (.goto 1) _ _
            refine to_jump hQx (3 * (8 * s.size - (c + 2)) + 1) ?_ ?_
            · omega
            · repeat apply Exists.intro
              refine ⟨?_, rfl⟩
              exact ⟨HB5.out, .inr ⟨rfl, c + 2, y + 1, xs, HNX.out, hlen, by omega, hrm2, rfl, by go_num, HH5.out⟩⟩
          · have hc1 : bit s (c + 1) = 1 := by omega
            have HNX := hidden (HM.out.down hy hrm2 HB1.out hc1)
            rw [hc1] at K
            clear hc0 hc1 hb3
            go_wp2_with fail
            refine (K.out _).mono ?_
            rintro e w3 ⟨rfl, b3⟩
            have hH4 := HH3.out.call b3
            have hB4 := HB3.out.call b3
            clear d0 d1 g0 g1
            obtain ⟨d0, d1, g0, g1⟩ := hH4.cells
            have HH5 := hidden (hH4.put (c + 2))
            have HB5 := hidden (hB4.put (.string s) (.int .i64 ((c + 2 : Nat) : Int)))
            have hsz3 := hB4.2.size
            clear b3 hH4 hB4 K HH3 HB3
            go_wp2
            go_step3
            show Qx (.goto 1) _ _
            refine to_jump hQx (3 * (8 * s.size - (c + 2)) + 1) ?_ ?_
            · omega
            · repeat apply Exists.intro
              refine ⟨?_, rfl⟩
              exact ⟨HB5.out, .inr ⟨rfl, c + 2, y - 1, xs, HNX.out, hlen, by omega, hrm2, rfl, by rw [show ((y - 1 : Nat) : Int) = (y : Int) - 1 by omega], HH5.out⟩⟩
        · have HNX := hidden (HM.out.room2 hlen HB1.out hrm2)
          have K := hidden (fun W => implGet_no s ((c + 1 : Nat) : Int) 1 W hs (by omega) (by omega) (by omega))
          go_wp2_with fail
          refine (K.out _).mono ?_
          rintro e w3 ⟨rfl, b3⟩
          have hH4 := HH3.out.call b3
          have hB4 := HB3.out.call b3
          clear d0 d1 g0 g1
          obtain ⟨d0, d1, g0, g1⟩ := hH4.cells
          have HB5 := hidden (hB4.put (.string ⟨#[]⟩) (.int .i64 0))
          have hsz3 := hB4.2.size
          clear b3 hH4 hB4 K HH3 HB3
          go_wp2
          go_step3
          show Qx (.goto 1) _ _
          refine to_jump hQx 1 ?_ ?_
          · omega
          · repeat apply Exists.intro
            refine ⟨?_, rfl⟩
            exact ⟨HB5.out, .inl ⟨rfl, rfl, HNX.out⟩⟩
    · have HNX := hidden (HM.out.room hlen hroom)
      have K := hidden (fun W => implGet_no s (c : Int) 1 W hs (by omega) (by omega) (by omega))
      go_wp2_with fail
      refine (K.out _).mono ?_
      rintro e w2 ⟨rfl, b2⟩
      have hH2 := HH.out.call b2
      have hB2 := HB.out.call b2
      obtain ⟨d0, d1, g0, g1⟩ := hH2.cells
      have HB3 := hidden (hB2.put (.string ⟨#[]⟩) (.int .i64 0))
      have hsz2 := hB2.2.size
      clear b2 hH2 hB2 K c0 c1 f0 f1 HH HB
      go_wp2
      go_step3
      show Qx (.goto 0) _ _
      refine to_jump hQx 0 ?_ ?_
      · omega
      · repeat apply Exists.intro
        refine ⟨?_, rfl⟩
        exact ⟨HB3.out, HNX.out⟩
  case h3 =>
    intro H0 gk a' wr hj Qx hQx
    obtain ⟨u0, u3, u7, u8, u9, u10, u11, u12, u13, u14, u15, u16, u17, u18, u19, u20, u21, u22, u23, u24, u25, u26, u27, u28, u29, u30, u31, u32, u33, u34, u35, u36, u37, u38, u39, u40, u41, u42, u43, u44, u45, u46, u47, u48, u49, u50, u51, u52, u53, u54, u55, u56, u57, u58, u59, u60, u61, u62, u63, u64, u65, u66, u67, u68, u69, u70, hrel, rfl⟩ := hj
    obtain ⟨hB, c, y, xs, hST, hlen, hy, hc, rfl, rfl, hH⟩ := hrel
    have HST := hidden hST
    have hsz := hB.2.size
    have hbl2 := hB.1.lt
    obtain ⟨hown, hR⟩ := hH
    have hRA := hR.alloc (.cells #[.int .i64 (y : Int)] 3)
    have hBA := hB.1.alloc (.cells #[.int .i64 (y : Int)] 3)
    have hbA := hB.2.alloc hsz (.cells #[.int .i64 (y : Int)] 3)
    clear hST hB hR
    go_wp2_with (at_builtin; refine wpList_append_own_at _ rfl _ _ 22 rfl (w.heap.size + 2) 3 i0 (.int .i64 0) 1 8 Try.underlying22 hi hz0 hz1 hz2 rfl (by decide) _ _ _ rfl (hown.alloc _) ⟨wr.heap.size, 0, none⟩ 1 1 [.int .i64 (y : Int)] rfl rfl ?ca2 ?ca3 ?ca4 ?ca5 ?ca6 ?_)
    case ca3 => first | rfl | exact fun u hu => by simp at hu; subst hu; rfl
    case ca4 => unfold maxLen; omega
    case ca5 => omega
    case ca6 => first | omega | (simp; omega)
    intro v3 w3 hown3 hgrow _ _
    have hne : ∀ x, x < w.heap.size + 2 → some x ≠ u7.ownBlock := fun x hx e => by have := (hown.lt x e.symm).1; omega
    have hH3 : Held5 s w (xs ++ [y]) c v3 w3 := Held5.mk1 hown3 (hRA.grown hgrow (hne _ (by omega)))
    have hB3 : Base5 w w3 := ⟨hBA.grown hgrow (hne _ (by omega)), hbA.grown hgrow (by simp; omega) (fun b hb => by have := (hown.lt b hb).1; omega)⟩
    obtain ⟨g, cp, rfl⟩ := hH3.form (by simp)
    have hln : (xs ++ [y]).length = xs.length + 1 := by simp
    rw [hln]
    have HL := hidden hln
    have hsz3 := hB3.2.size
    have hRl3 := hB3.1.lt
    obtain ⟨d0, d1, g0, g1⟩ := hH3.cells
    obtain ⟨e0, e1, k0, k1⟩ := hB3.cells
    clear hown3 hgrow hne hRA hBA hbA hown hln
    obtain ⟨m, hm⟩ : ∃ m, xs.length + 1 = m := ⟨_, rfl⟩
    rw [hm] at HL ⊢
    by_cases hlt : m < n
    · have HH3 := hidden hH3
      have HB3 := hidden hB3
      clear hH3 hB3
      go_wp2
      go_step3
      show Qx (.goto 2) _ _
      refine to_jump hQx (3 * (8 * s.size - c) + 1) ?_ ?_
      · omega
      · repeat apply Exists.intro
        refine ⟨?_, rfl⟩
        exact ⟨HB3.out, c, y, xs ++ [y], Mid5.next HST.out, by rw [HL.out]; exact hlt, hy, hc, rfl, rfl, by have h := HH3.out; rw [HL.out] at h; exact h⟩
    · have hmn : m = n := by omega
      subst hmn
      have hI : Ints w3 w3.heap.size (some ⟨g, 0, none⟩) (iL (xs ++ [y])) := Held5.ints hH3 rfl (by rw [HL.out]; exact hn2) HST.out
      have KL := implLensOk_any (some ⟨g, 0, none⟩) cp w3.heap.size (iL (xs ++ [y])) w3 hI
      rw [iL_len, HL.out] at KL
      have HKL := hidden KL
      have HH3 := hidden hH3
      have HB3 := hidden hB3
      clear KL hI hH3 hB3
      by_cases hok : lOk (iL (xs ++ [y])) = true
      · have HR := hidden (end5_yes HST.out HL.out hn1 hok)
        rw [hok] at HKL
        clear hok
        go_wp2_with fail
        refine HKL.out.mono ?_
        rintro e w4 ⟨rfl, rfl⟩
        go_wp2
        go_region
        all_goals (try go_wp2)
        all_goals (try simp only [jumps])
        all_goals
          refine bodyPost_ret (v := .tuple #[.slice (some ⟨g, 0, none⟩) m cp, .agg #[.string s, .int .i64 (c : Int)], .bool true]) (by simp [results, Try.results16, go_sem, d0, d1, e0, e1, g0, g1, k0, k1]) rfl ⟨.inl ⟨xs ++ [y], c, _, HR.out, rfl, ?_⟩, ?_⟩
          · have h := HH3.out.1
            rw [HL.out] at h
            exact Joins.ownsRow_le (own_away (own_away h (p := ⟨w.heap.size + 1, 0, none⟩) (by simp) _) (p := ⟨w.heap.size + 1, 1, none⟩) (by simp) _).drew (show w.heap.size ≤ w.heap.size + 2 by omega)
          · have hb5 := HB3.out.2
            repeat (first | exact Below.refl _ _ | assumption | refine Below.alloc ?_ (by (try simp); (try omega)) _ | refine Below.setCell ?_ (by (try simp); (try omega)) _ | refine Below.drew ?_ | refine bel_then (by assumption) (by (try simp); (try omega)) ?_)
      · have hno : lOk (iL (xs ++ [y])) = false := by simpa using hok
        have HN := hidden (end5_no HST.out HL.out hno)
        rw [hno] at HKL
        clear hok hno
        go_wp2_with fail
        refine HKL.out.mono ?_
        rintro e w4 ⟨rfl, rfl⟩
        go_wp2
        go_step3
        rename_i KK hKK
        refine hKK _ _ (to_fall hQx H0 0 (by omega) ?_)
        repeat apply Exists.intro
        refine ⟨?_, rfl⟩
        exact ⟨HB3.out, HN.out⟩
  case h1 =>
    intro H2 gk a' wr hj Qx hQx
    obtain ⟨u0, u3, u7, u8, u9, u10, u11, u12, u13, u14, u15, u16, u17, u18, u19, u20, u21, u22, u23, u24, u25, u26, u27, u28, u29, u30, u31, u32, u33, u34, u35, u36, u37, u38, u39, u40, u41, u42, u43, u44, u45, u46, u47, u48, u49, u50, u51, u52, u53, u54, u55, u56, u57, u58, u59, u60, u61, u62, u63, u64, u65, u66, u67, u68, u69, u70, hrel, rfl⟩ := hj
    obtain ⟨hB, ⟨rfl, rfl, hno⟩ | ⟨rfl, c, y, xs, hM, hlen, hy, hc, rfl, rfl, hH⟩⟩ := hrel
    · have HB := hidden hB
      have HN := hidden hno
      clear hB hno
      go_wp2
      go_step3
      show Qx (.goto 0) _ _
      refine to_jump hQx 0 (by omega) ?_
      repeat apply Exists.intro
      refine ⟨?_, rfl⟩
      exact ⟨HB.out, HN.out⟩
    · have HM := hidden hM
      have HB := hidden hB
      have HH := hidden hH
      clear hM hB hH
      by_cases hr1 : y < 1
      · have HN := hidden (HM.out.low hlen (by omega))
        have hI : (y : Int) < 1 := by omega
        go_wp2
        go_step3
        show Qx (.goto 0) _ _
        refine to_jump hQx 0 (by omega) ?_
        repeat apply Exists.intro
        refine ⟨?_, rfl⟩
        exact ⟨HB.out, HN.out⟩
      · by_cases hr2 : 20 < y
        · have HN := hidden (HM.out.low hlen (by omega))
          have hI : ¬ (y : Int) < 1 := by omega
          have hI2 : (20 : Int) < y := by omega
          go_wp2
          go_step3
          show Qx (.goto 0) _ _
          refine to_jump hQx 0 (by omega) ?_
          repeat apply Exists.intro
          refine ⟨?_, rfl⟩
          exact ⟨HB.out, HN.out⟩
        · have hI : ¬ (y : Int) < 1 := by omega
          have hI2 : ¬ (20 : Int) < y := by omega
          go_wp2
          go_step3
          rename_i KK hKK
          refine hKK _ _ (to_fall hQx H2 (3 * (8 * s.size - c) + 1) (by omega) ?_)
          repeat apply Exists.intro
          refine ⟨?_, rfl⟩
          exact ⟨HB.out, c, y, xs, HM.out, hlen, by omega, hc, rfl, rfl, HH.out⟩
  case hf =>
    intro H1 Qx hQx
    have hR := (Has.fresh w 35 #[.string s, .int .i64 at0]).alloc (.cells #[.string ⟨#[]⟩, .int .i64 0] 35)
    have bb : Below w.heap.size w ((w.alloc (.cells #[.string s, .int .i64 at0] 35)).alloc (.cells #[.string ⟨#[]⟩, .int .i64 0] 35)) := ((Below.refl _ _).alloc (Nat.le_refl _) _).alloc (by simp) _
    have hS := Has.freshAt (w := w.alloc (.cells #[.string s, .int .i64 at0] 35)) (g := w.heap.size + 1) (by simp) 35 #[.string ⟨#[]⟩, .int .i64 0]
    have hI : ¬ (n : Int) < 1 := by omega
    have hI2 : ¬ (260 : Int) < n := by omega
    go_wp2_with (at_make; refine wpList_make_own _ rfl _ _ 22 rfl (w.heap.size + 2) 3 i0 (.int .i64 0) 1 Try.underlying22 hi hz0 hz1 _ _ _ n rfl rfl rfl ?b2 ?b3 ?b4 ?_)
    case b2 => first | omega | (rw [hz2]; omega)
    case b3 => unfold maxLen; omega
    intro w1 hown hg
    have hB1 : Base5 w w1 := ⟨hS.grown hg (by simp), bb.grown hg (by simp; omega) (by simp)⟩
    have hH1 (vl : Value) (h : w1.ownsRow (w.heap.size + 2) 3 1 vl 0 []) : Held5 s w [] at0 vl w1 := ⟨h, hR.grown hg (by simp)⟩
    replace hH1 := hH1 _ hown
    obtain ⟨c0, c1, f0, f1⟩ := hH1.cells
    have HB := hidden hB1
    have HH := hidden hH1
    have hsz := hB1.2.size
    have hRl := hB1.1.lt
    clear hR bb hS hown hg hB1 hH1
    by_cases hroom : at0 + 5 ≤ 8 * s.size
    · have K := hidden (fun W => implGet_yes s at0 5 W hs (by omega) hroom)
      have hx := num_row_lt s at0 5
      have HF := hidden (Mid5.first s at0)
      obtain ⟨y, hy⟩ : ∃ y, num (row s at0 5) = y := ⟨_, rfl⟩
      rw [hy] at K HF hx
      clear hy
      go_wp2_with fail
      refine (K.out _).mono ?_
      rintro e w2 ⟨rfl, b2⟩
      have hH2 := HH.out.call b2
      have hB2 := HB.out.call b2
      obtain ⟨d0, d1, g0, g1⟩ := hH2.cells
      have HH3 := hidden (hH2.put (at0 + 5))
      have HB3 := hidden (hB2.put (.string s) (.int .i64 ((at0 + 5 : Nat) : Int)))
      have hsz2 := hB2.2.size
      clear b2 hH2 hB2 K c0 c1 f0 f1 HH HB
      go_wp2
      go_step3
      rename_i KK hKK
      refine hKK _ _ (to_fall_first hQx H1 (3 * (8 * s.size - (at0 + 5)) + 1) ?_)
      repeat apply Exists.intro
      refine ⟨?_, rfl⟩
      exact ⟨HB3.out, .inr ⟨rfl, at0 + 5, y, [], HF.out, hn1, by omega, hroom, rfl, rfl, HH3.out⟩⟩
    · have K := hidden (fun W => implGet_no s (at0 : Int) 5 W hs (by omega) (by omega) (by omega))
      have HN : Hid (No5 s at0 n) := hidden (by
        rintro ⟨xs, c, _, h, _⟩
        exact hroom h.1)
      clear hroom
      go_wp2_with fail
      refine (K.out _).mono ?_
      rintro e w2 ⟨rfl, b2⟩
      have hH2 := HH.out.call b2
      have hB2 := HB.out.call b2
      obtain ⟨d0, d1, g0, g1⟩ := hH2.cells
      have HB3 := hidden (hB2.put (.string ⟨#[]⟩) (.int .i64 0))
      have hsz2 := hB2.2.size
      clear b2 hH2 hB2 K c0 c1 f0 f1 HH HB
      go_wp2
      go_step3
      rename_i KK hKK
      refine hKK _ _ (to_fall_first hQx H1 1 ?_)
      repeat apply Exists.intro
      refine ⟨?_, rfl⟩
      exact ⟨HB3.out, .inl ⟨rfl, rfl, HN.out⟩⟩
end Go.Proofs.Ytdeikdlbgjpooaa
