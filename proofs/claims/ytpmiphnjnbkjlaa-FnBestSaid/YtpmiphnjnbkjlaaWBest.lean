/- Chapter 3: the walk of FnBest (what is asked of the program's functions as hypotheses). -/
import Derived.Test.YtpmiphnjnbkjlaaWOften
import Derived.Test.YtpmiphnjnbkjlaaAt
namespace Go.Proofs.Ytpmiphnjnbkjlaa
set_option linter.unusedVariables false
set_option linter.unusedSimpArgs false
open Go.RowKit

set_option maxHeartbeats 4000000 in
theorem walk_FnBest (hL : AskLens) (hK : AskKraft) (hC : AskCost) (hH : AskHuff) (w : World) (a0 : Option Addr) (len0 cap0 : Nat) (z0 : List Int) (w0 : IsRow .u8 w a0 len0 cap0 z0) :
    Calls Try.prog 4 #[.slice a0 len0 cap0] w fun e w' => e = .returned (.bool true) ∧ Below w.heap.size w w' := by
  obtain ⟨i0, hi, hz0, hz1, hz2⟩ := info_parts Try.infoI
  have hcode := Code.ofRow w0
  have HS := hidden (spans_any hL hK hH)
  clear w0 hK
  go_enter Try.func4, Try.ntmps4
  go_wp2_with fail
  refine (drawLens_any _ _ _ _ _ hcode).mono ?_
  rintro e wa ⟨v, fs, lim, rfl, hown, hl, hr, l0, l1, Ba⟩
  obtain ⟨n, hn⟩ : ∃ n, fs.length = n := ⟨_, rfl⟩
  have HN := hidden hn
  have ba := Ba.size
  have HC0 := hidden hcode
  by_cases hon : lensOn fs lim
  · obtain ⟨q, rfl⟩ : ∃ q : Nat, lim = q := ⟨lim.toNat, by omega⟩
    have hf := (fOk_iff fs).1 hon.1
    have hq20 := hon.2.2.1
    obtain ⟨gf, c, rfl⟩ := Joins.ownsRow_form hown (by omega)
    have hI := (Ints.ofOwn hown (by omega) (fun x hx => by have := hr x hx; omega)).2
    have hgf : gf < wa.heap.size := (hown.lt gf rfl).2
    have fcell : Hid (∀ i, i < n → wa.cell? ⟨gf, i, none⟩ = some (.int .i64 (fs.getD i 0))) := hidden (fun i hi => by
      obtain ⟨b, off, e, _, h⟩ := hI.cells (by rw [hn]; omega)
      simp only [Addr.mk.injEq] at e
      obtain ⟨rfl, rfl, _⟩ := e
      have := h i (by rw [hn]; exact hi)
      rwa [Nat.zero_add] at this)
    have HI := hidden hI
    have HON := hidden hon
    have HR := hidden hr
    have HF := hidden hf.2.2
    rw [hn] at hf hl ⊢
    clear hn hown hon hr hI hcode
    go_wp2
    go_loopw [5] (fun si wr => ∃ k nq : Nat, k ≤ n ∧ si = .int .i64 k ∧ Hid (∀ j, j < k → 1 ≤ fs.getD j 0) ∧ wr = wa.drewN nq) (fun si _ => n - (intOf si).toNat)
    case atStart => exact ⟨0, 0, Nat.zero_le _, rfl, hidden (fun j hj => by omega), rfl⟩
    case round =>
      obtain ⟨k, nq, hk, rfl, HA, rfl⟩ := hrel
      have bd : Below w.heap.size w (wa.drewN nq) := Ba.trans (bel_drewN (Below.refl _ _) _)
      by_cases hlt : k < n
      · have cf := fcell.out k hlt
        obtain ⟨fk, hfk⟩ : ∃ x, fs.getD k 0 = x := ⟨_, rfl⟩
        rw [hfk] at cf
        have HFk := hidden hfk
        clear hfk
        by_cases h1 : fk < 1
        · go_wp2_with fail
          refine (HS.out _).mono ?_
          rintro e w6 ⟨rfl, b6⟩
          go_wp2
          go_ret
          exact ⟨rfl, bd.trans (b6.mono bd.size)⟩
        · have HA2 : Hid (∀ j, j < k + 1 → 1 ≤ fs.getD j 0) := hidden (fun j hj => by
            rcases Nat.lt_or_ge j k with h | h
            · exact HA.out j h
            · rw [show j = k by omega, HFk.out]; omega)
          go_wp2
          exact ⟨⟨k + 1, _, by omega, by go_num, HA2, rfl⟩, by simp [intOf]; omega⟩
      · have hkn : k = n := by omega
        subst hkn
        obtain ⟨wd, hwd⟩ : ∃ wd, wa.drewN nq = wd := ⟨_, rfl⟩
        have hId := HI.out.below (hwd ▸ bel_drewN (Below.refl _ wa) nq)
        have hsd : wd.heap.size = wa.heap.size := by rw [← hwd]; simp
        rw [hwd] at bd ⊢
        have K2 := specLens_on (some ⟨gf, 0, none⟩) c wa.heap.size q fs wd hId (by omega) HON.out
        have K1 := hidden (fun W h hB => hL (some ⟨gf, 0, none⟩) c wa.heap.size q fs W h hB HON.out)
        have K3 : Hid (∀ (W : World) (B : Nat) (a2 : Addr) (cap2 : Nat) (ls : List Int), ls.length = k → Ints W B (some ⟨gf, 0, none⟩) fs → Ints W B (some a2) ls → B ≤ W.heap.size →
            Calls Try.prog 18 #[.slice (some ⟨gf, 0, none⟩) k c, .slice (some a2) k cap2] W fun e w' => e = .returned (.int .i64 (costI fs ls)) ∧ Below W.heap.size W w') := hidden (fun W B a2 cap2 ls hls h h2 hB => by
          have := hC (some ⟨gf, 0, none⟩) (some a2) c cap2 B fs ls W h h2 hB
          rwa [HN.out, hls] at this)
        have K4 : Hid (∀ (W : World) (B : Nat) (a2 : Addr) (cap2 : Nat) (ls : List Int), ls.length = k → Ints W B (some ⟨gf, 0, none⟩) fs → Ints W B (some a2) ls →
            Calls Try.prog 20 #[.slice (some ⟨gf, 0, none⟩) k c, .slice (some a2) k cap2] W fun e w' => e = .returned (.int .i64 (costI fs ls)) ∧ Below W.heap.size W w') := hidden (fun W B a2 cap2 ls hls h h2 => by
          have := specCostOf_any (some ⟨gf, 0, none⟩) (some a2) c cap2 B fs ls W h h2
          rwa [HN.out, hls] at this)
        have K5 : Hid (∀ (W : World) (B : Nat), Ints W B (some ⟨gf, 0, none⟩) fs → B ≤ W.heap.size →
            Calls Try.prog 21 #[.slice (some ⟨gf, 0, none⟩) k c] W fun e w' => ∃ c : Nat, e = .returned (.int .i64 c) ∧ HuffIs fs c ∧ Below W.heap.size W w') := hidden (fun W B h hB => by
          have := hH (some ⟨gf, 0, none⟩) c B fs W h hB HON.out.1
          rwa [HN.out] at this)
        have HLw := hidden hL
        have hlz := lensF_len fs q
        have hzr : ∀ x ∈ lensF fs q, -9223372036854775808 ≤ x ∧ x ≤ 9223372036854775807 := by
          intro x hx
          obtain ⟨j, hj, e⟩ := mem_getD hx
          have := lensF_range HON.out j (by rw [hlz] at hj; exact hj)
          omega
        obtain ⟨zs, hzs⟩ : ∃ zs, lensF fs q = zs := ⟨_, rfl⟩
        rw [HN.out] at K1 K2 hlz
        rw [hzs] at K1 K2 hlz hzr
        have HZ := hidden hzs
        have HZL := hidden hlz
        have HZR := hidden hzr
        clear hwd fcell hzs hlz hzr hC hH hL
        go_wp2_with fail
        refine K2.mono ?_
        rintro e w1 ⟨v1, rfl, hown1, b1⟩
        have s1 := b1.size
        have hI1 := hId.below (b1.mono (by omega))
        clear hown1 hId
        go_wp2_with fail
        refine (K1.out _ hI1 (by omega)).mono ?_
        rintro e w2 ⟨v2, rfl, hown2, b2⟩
        have s2 := b2.size
        obtain ⟨gl, cl, rfl⟩ := Joins.ownsRow_form hown2 (by omega)
        have hJ2 := (Ints.ofOwn hown2 (by omega) HZR.out).2
        have hI2 := hI1.below (b2.mono (by omega))
        go_wp2_with fail
        refine (K3.out _ w2.heap.size _ _ _ HZL.out (hI2.mono (by omega)) hJ2 (Nat.le_refl _)).mono ?_
        rintro e w3 ⟨rfl, b3⟩
        have s3 := b3.size
        have hI3 := hI2.below (b3.mono (by omega))
        obtain ⟨C, hCe⟩ : ∃ C, costI fs zs = C := ⟨_, rfl⟩
        rw [hCe]
        have HC := hidden hCe
        clear hCe hown2 hJ2
        have hE := World.ownsRow_lit (base := w3.heap.size) (e := 3) (size := 1) w3 #[] 0 (Nat.le_refl _) (by decide) rfl
        have hnews := hI3.below ((Below.refl _ w3).alloc (by omega) (.cells #[] 3))
        go_wp2_with (at_builtin; refine wpList_append_own_at _ rfl _ _ 23 rfl w3.heap.size 3 i0 (.int .i64 0) 1 8 Try.underlying23 hi hz0 hz1 hz2 rfl (by decide) _ _ _ rfl hE ⟨gf, 0, none⟩ k _ (intsV fs) rfl ?ca1 ?ca2 ?ca3 ?ca4 ?ca5 ?ca6 ?_)
        case ca1 => rw [intsV_len, HN.out, Nat.mul_one]
        case ca2 =>
          intro j u hu
          have hj : j < fs.length := by have := (List.getElem?_eq_some_iff.1 hu).1; rwa [intsV_len] at this
          rw [intsV_get fs j hj, Option.some.injEq] at hu
          obtain ⟨b, off, e, _, h⟩ := hnews.cells (by omega)
          simp only [Addr.mk.injEq] at e
          obtain ⟨rfl, rfl, _⟩ := e
          rw [← hu]
          have := h j hj
          by_cases hj0 : j = 0
          · subst hj0; simpa [Addr.add] using this
          · simpa [Addr.add, hj0] using this
        case ca3 =>
          intro u hu
          simp only [intsV, List.mem_map] at hu
          obtain ⟨x, _, rfl⟩ := hu
          rfl
        case ca4 => unfold maxLen; omega
        case ca5 => omega
        case ca6 => simp
        intro v4 w4 hown4 hgrow _ _
        have b4 : Below w3.heap.size w3 w4 := ((Below.refl _ _).alloc (Nat.le_refl _) _).grown hgrow (by simp) (fun b hb => by simp only [Value.ownBlock, Option.some.injEq] at hb; omega)
        obtain ⟨gg, cg, hv4⟩ := Joins.ownsRow_form hown4 (by omega)
        subst hv4
        have hown4' : w4.ownsRow w3.heap.size 3 1 (.slice (some ⟨gg, 0, none⟩) k cg) k (intsV fs) := hown4
        have s4 := b4.size
        have hI4 := hI3.below (b4.mono (by omega))
        have HI4 := hidden hI4
        have B3 : Below w.heap.size w w3 := ((bd.trans (b1.mono (by omega))).trans (b2.mono (by omega))).trans (b3.mono (by omega))
        have hgg := hown4'.lt gg rfl
        have s3w := B3.size
        clear hown4 hgrow hE hnews hI1 hI2 hI4 b1 b2 b3 bd
        have HF2 : Hid (∀ x ∈ fs, 0 ≤ x ∧ x ≤ 1000000) := hidden (fun x hx => by
          obtain ⟨j, hj, e⟩ := mem_getD hx
          have := HF.out j hj
          omega)
        go_wp2
        go_loopw [12] (fun si wr => ∃ (i : Nat) (D : List Int), i ≤ k ∧ si = .int .i64 i ∧ Hid (D.length = k) ∧ Hid (∀ x ∈ D, 0 ≤ x ∧ x ≤ 1000000) ∧ wr.ownsRow w3.heap.size 3 1 (.slice (some ⟨gg, 0, none⟩) k cg) k (intsV D) ∧ Below w3.heap.size w3 wr) (fun si _ => k - (intOf si).toNat)
        case atStart => exact ⟨0, fs, Nat.zero_le _, rfl, HN, HF2, hown4', by assumption⟩
        case round =>
          obtain ⟨i, D, hik, rfl, HD, HDr, hownD, bD⟩ := hrel
          by_cases hlt : i < k
          · have hcodeI : Code wr w.heap.size a0 len0 cap0 z0 := HC0.out.below (B3.trans (bD.mono B3.size))
            have d0 := hownD.cellAt i (by omega)
            rw [intsV_get D i (by rw [HD.out]; exact hlt)] at d0
            have f0 := hownD.frozenAt i
            go_wp2_with fail
            refine (at_any _ _ _ _ i _ _ hcodeI ⟨by omega, by omega⟩).mono ?_
            rintro e w5 ⟨x, rfl, x0, x1, rfl⟩
            have HD2 : Hid ((D.set i (1 + x)).length = k) := hidden (by rw [List.length_set, HD.out])
            have HDr2 : Hid (∀ y ∈ D.set i (1 + x), 0 ≤ y ∧ y ≤ 1000000) := hidden (by
              intro y hy
              rcases List.mem_or_eq_of_mem_set hy with h | h
              · exact HDr.out y h
              · omega)
            have hwx : IntKind.i64.wrap (1 + x) = 1 + x := IntWalk.i64_in _ (by omega)
            clear hcodeI
            go_wp2
            go_roundw
            case rel => exact ⟨i + 1, D.set i (1 + x), by omega, by go_num, HD2, HDr2, by rw [← intsV_set]; exact (hownD.stored i _).1, bD.setCell hgg.1 _⟩
            case measure => simp [intOf]; omega
          · have hik' : i = k := by omega
            subst hik'
            have hall : ∀ j, j < fs.length → 1 ≤ fs.getD j 0 := fun j hj => HA.out j (by rw [← HN.out]; exact hj)
            have honD : lensOn D q := ⟨(fOk_iff D).2 ⟨by rw [HD.out]; omega, by rw [HD.out]; omega, fun j hj => HDr.out _ (getD_mem hj)⟩, HON.out.2.1, HON.out.2.2.1, by rw [HD.out, ← HN.out]; exact HON.out.2.2.2⟩
            have hCO := best_other HON.out hall honD.1 (by rw [HD.out, HN.out])
            have HHU := hidden (fun c0 h => best_huff HON.out hall (c := c0) h)
            have HWI := hidden (fun h => best_wider HON.out hall h)
            rw [HZ.out, HC.out] at hCO HHU HWI
            have HONW := hidden (fun h : q < 20 => lensF_wide (best_wider HON.out hall h).1)
            have KD := specLens_on (some ⟨gg, 0, none⟩) cg wr.heap.size q D wr (Ints.ofOwn hownD (by omega) (fun x hx => by have := HDr.out x hx; omega)).2 (Nat.le_refl _) honD
            have hDw := lensF_wide honD
            have hDl := lensF_len D q
            obtain ⟨ds, hds⟩ : ∃ ds, lensF D q = ds := ⟨_, rfl⟩
            rw [hds] at hDw hDl KD hCO
            rw [HD.out] at hDl KD
            obtain ⟨O, hOe⟩ : ∃ O, costI fs ds = O := ⟨_, rfl⟩
            rw [hOe] at hCO
            have HOe := hidden hOe
            have HDw := hidden hDw
            have HDl := hidden hDl
            have hIr := hI3.below (bD.mono (by omega))
            have B4 : Below w.heap.size w wr := B3.trans (bD.mono B3.size)
            have sr := bD.size
            clear hall honD hds hOe hDw hDl hownD hI3 B3 bD
            go_wp2_with fail
            refine KD.mono ?_
            rintro e w6 ⟨v6, rfl, hown6, b6⟩
            have s6 := b6.size
            obtain ⟨g6, c6, rfl⟩ := Joins.ownsRow_form hown6 (by omega)
            have hJ6 := (Ints.ofOwn hown6 (by omega) HDw.out).2
            have hI6 := hIr.below (b6.mono (by omega))
            have B6 := B4.trans (b6.mono B4.size)
            clear hown6 hIr B4 b6
            go_wp2_with fail
            refine (K4.out _ w6.heap.size _ _ _ HDl.out (hI6.mono (by omega)) hJ6).mono ?_
            rintro e w7 ⟨rfl, b7⟩
            rw [HOe.out]
            have s7 := b7.size
            have hI7 := hI6.below (b7.mono (by omega))
            have B7 := B6.trans (b7.mono B6.size)
            clear hJ6 hI6 B6 b7
            have hg1 : ¬ O < C := by omega
            go_wp2_with fail
            refine (K5.out _ _ hI7 (by omega)).mono ?_
            rintro e w8 ⟨c0, rfl, hc0, b8⟩
            have s8 := b8.size
            have hI8 := hI7.below (b8.mono (by omega))
            have B8 := B7.trans (b8.mono B7.size)
            have hg2 : ¬ C < (c0 : Int) := by have := (HHU.out c0 hc0).1; omega
            have HC0' := hidden hc0
            clear hI7 B7 b8 hc0
            by_cases hq : q < 20
            · have hqI : (q : Int) < 20 := by omega
              have KW := HLw.out (some ⟨gf, 0, none⟩) c _ (q + 1) fs w8 hI8 (by omega) (HWI.out hq).1
              have hW := (HWI.out hq).2
              have hWw := HONW.out hq
              have hWl := lensF_len fs (q + 1)
              obtain ⟨ws, hws⟩ : ∃ ws, lensF fs (q + 1) = ws := ⟨_, rfl⟩
              rw [hws] at KW hW hWw hWl
              rw [HN.out] at KW hWl
              rw [show (((q + 1 : Nat)) : Int) = (q : Int) + 1 by omega] at KW
              have HWl := hidden hWl
              have HWw := hidden hWw
              obtain ⟨V, hV⟩ : ∃ V, costI fs ws = V := ⟨_, rfl⟩
              rw [hV] at hW
              have HV := hidden hV
              clear hws hWl hWw hV
              go_wp2_with fail
              refine KW.mono ?_
              rintro e w9 ⟨v9, rfl, hown9, b9⟩
              have s9 := b9.size
              obtain ⟨g9, c9, rfl⟩ := Joins.ownsRow_form hown9 (by omega)
              have hJ9 := (Ints.ofOwn hown9 (by omega) HWw.out).2
              have hI9 := hI8.below (b9.mono (by omega))
              have B9 := B8.trans (b9.mono B8.size)
              clear hown9 hI8 B8 b9
              go_wp2_with fail
              refine (K3.out _ w9.heap.size _ _ _ HWl.out (hI9.mono (by omega)) hJ9 (Nat.le_refl _)).mono ?_
              rintro e w10 ⟨rfl, b10⟩
              rw [HV.out]
              have B10 := B9.trans (b10.mono B9.size)
              clear hJ9 hI9 B9 b10
              go_wp2_with fail
              refine (HS.out _).mono ?_
              rintro e w11 ⟨rfl, b11⟩
              go_wp2
              go_ret
              exact ⟨rfl, B10.trans (b11.mono B10.size)⟩
            · have hqI : ¬ (q : Int) < 20 := by omega
              have hq2 : q = 20 := by omega
              by_cases hk20 : 20 < i
              · have hkI : (20 : Int) < (i : Int) := by omega
                go_wp2_with fail
                refine (HS.out _).mono ?_
                rintro e w11 ⟨rfl, b11⟩
                go_wp2
                go_ret
                exact ⟨rfl, B8.trans (b11.mono B8.size)⟩
              · have hkI : ¬ (20 : Int) < (i : Int) := by omega
                go_wp2_with fail
                refine (K5.out _ _ hI8 (by omega)).mono ?_
                rintro e w9 ⟨c1, rfl, hc1, b9⟩
                have hCe := (HHU.out c1 hc1).2 hq2 (by rw [HN.out]; omega)
                subst hCe
                have B9 := B8.trans (b9.mono B8.size)
                go_wp2_with fail
                refine (HS.out _).mono ?_
                rintro e w11 ⟨rfl, b11⟩
                go_wp2
                go_ret
                exact ⟨rfl, B9.trans (b11.mono B9.size)⟩
  · obtain ⟨a, c, rfl⟩ := own_slice hown
    have hI := (Ints.ofOwn hown (by omega) (fun x hx => by have := hr x hx; omega)).2
    have K2 := hidden (fun W hI => specLens_no a c wa.heap.size lim fs W hI (by omega) (by omega) hon)
    rw [hn] at K2 hl ⊢
    have HI := hidden hI
    clear hL hC hH hn hown hr hon hI hcode
    go_wp2
    go_loopw [5] (fun si wr => ∃ k nq : Nat, k ≤ n ∧ si = .int .i64 k ∧ wr = wa.drewN nq) (fun si _ => n - (intOf si).toNat)
    case atStart => exact ⟨0, 0, Nat.zero_le _, rfl, rfl⟩
    case round =>
      obtain ⟨k, nq, hk, rfl, rfl⟩ := hrel
      have bd : Below w.heap.size w (wa.drewN nq) := Ba.trans (bel_drewN (Below.refl _ _) _)
      by_cases hlt : k < n
      · obtain ⟨b, off, rfl, hb, hc⟩ := HI.out.2.2 (by rw [HN.out]; omega)
        have cf := hc k (by rw [HN.out]; exact hlt)
        obtain ⟨fk, hfk⟩ : ∃ x, fs.getD k 0 = x := ⟨_, rfl⟩
        rw [hfk] at cf
        clear hc hfk
        by_cases h1 : fk < 1
        · go_wp2_with fail
          refine (HS.out _).mono ?_
          rintro e w6 ⟨rfl, b6⟩
          go_wp2
          go_ret
          exact ⟨rfl, bd.trans (b6.mono bd.size)⟩
        · go_wp2
          exact ⟨⟨k + 1, _, by omega, by go_num, rfl⟩, by simp [intOf]; omega⟩
      · have hkn : k = n := by omega
        subst hkn
        go_wp2_with fail
        refine (K2.out _ (HI.out.below (bel_drewN (Below.refl _ _) _))).mono ?_
        rintro e w1 ⟨rfl, rfl⟩
        go_wp2_with fail
        refine (HS.out _).mono ?_
        rintro e w6 ⟨rfl, b6⟩
        go_wp2
        go_ret
        exact ⟨rfl, bd.trans (b6.mono bd.size)⟩
end Go.Proofs.Ytpmiphnjnbkjlaa
