/- Chapter 4: reading symbols (the model). -/
import Derived.Test.YtdfbpmkdmpdobaaC4B
import Derived.Test.YtdfbpmkdmpdobaaC1LGet
import Derived.Test.YtdfbpmkdmpdobaaC1SRd0
import Derived.Deep.RegionHeld3
namespace Go.Proofs.Ytdfbpmkdmpdobaa
set_option linter.unusedVariables false
set_option linter.unusedSimpArgs false
open Go.RowKit

theorem num_row_one (s : ByteArray) (a : Nat) : num (row s a 1) = bit s a := by simp [row, num]
theorem own_away_has {w w' : World} {b base n S : Nat} {E : TypeId} {v : Value} {xs : List Value} (h : w.ownsRow base E S v n xs) (ho : Only b w w') (hne : v.ownBlock ≠ some b) : w'.ownsRow base E S v n xs := h.kept ho (.inr hne)
set_option maxHeartbeats 4000000 in
set_option maxRecDepth 100000 in
theorem l4get_any (a : Option Addr) (cap B cb b at0 : Nat) (T : TypeId) (vc : Value) (ls : List Int) (s : ByteArray) (w : World) (hz : Ints w B a ls) (hok : lOk ls = true) (hown : w.ownsRow cb 3 1 vc ls.length (nats ls.length (cdF ls)))
    (hbB : B ≤ b) (hne : vc.ownBlock ≠ some b) (hs : s.size ≤ 1048576) (ha : at0 ≤ 8 * s.size) (hb : Has w b T #[.string s, .int .i64 at0]) :
    Calls Try.prog 60 #[.slice a ls.length cap, vc, .pointer (some ⟨b, 0, none⟩)] w fun e w' =>
      Only b w w' ∧ ((∃ n i, hit ls s at0 n i ∧ e = .returned (.int .i64 i) ∧ Has w' b T #[.string s, .int .i64 ((at0 + n : Nat) : Int)]) ∨
        ((∀ n i, ¬ hit ls s at0 n i) ∧ e = .returned (.int .i64 (-1)) ∧ Has w' b T #[.string s, .int .i64 at0])) := by
  have hr := lOk_range hok
  have HLN : Hid (∀ s, s < ls.length → ls.getD s 0 = (lnF ls s : Int) ∧ 1 ≤ lnF ls s ∧ lnF ls s ≤ 20) := hidden (fun s hs => ⟨lnF_int hr s hs, lRange_ln hr s hs⟩)
  have HLT := hidden (fun s hs => cdF_lt20 hok s hs)
  have HHIT : Hid (∀ n i, hit ls s at0 n i ↔ (i < ls.length ∧ lnF ls i = n ∧ at0 + n ≤ 8 * s.size ∧ num (row s at0 n) = cdF ls i)) := hidden (fun n i => Iff.rfl)
  obtain ⟨H, hH⟩ : ∃ H, hit ls s at0 = H := ⟨_, rfl⟩
  obtain ⟨cd, hcd⟩ : ∃ cd, cdF ls = cd := ⟨_, rfl⟩
  obtain ⟨l, hl⟩ : ∃ l, lnF ls = l := ⟨_, rfl⟩
  obtain ⟨n, hn⟩ : ∃ n, ls.length = n := ⟨_, rfl⟩
  have hn1 : 1 ≤ n := by rw [← hn]; exact hr.1
  have hn2 : n ≤ 260 := by rw [← hn]; exact hr.2.1
  obtain ⟨g1, o1, rfl, hgB, hc⟩ := hz.2.2 (by omega)
  have HC := hidden hc
  rw [hH] at HHIT ⊢
  rw [hcd] at HLT HHIT hown
  rw [hl] at HLN HHIT
  rw [hn] at HLN HLT HHIT HC hown ⊢
  obtain ⟨g2, c2, hv⟩ := Joins.ownsRow_form hown (by omega)
  subst hv
  have hg2 : g2 ≠ b := fun e => hne (by rw [e]; rfl)
  have hbl := hb.lt
  have hg1b : g1 ≠ b := by omega
  have hg1w : g1 < w.heap.size := by omega
  have HOW := hidden hown
  have c0 := hb.cell 0
  have c1 := hb.cell 1
  simp at c0 c1
  clear hz hc hok hr hH hcd hl hn hown hne
  go_enter Try.func60, Try.ntmps60
  go_wp2
  go_loopw [8, 9] (fun sv sn wr => ∃ m : Nat, m ≤ 20 ∧ sn = .int .i64 ((m : Int) + 1) ∧ sv = .int .i64 (num (row s at0 m)) ∧ Hid (at0 + m ≤ 8 * s.size) ∧ Hid (∀ q i, q ≤ m → ¬ H q i) ∧ Has wr b T #[.string s, .int .i64 ((at0 + m : Nat) : Int)] ∧ Only b w wr) (fun _ sn _ => 21 - (intOf sn).toNat)
  case atStart => exact ⟨0, Nat.zero_le _, rfl, rfl, hidden (by omega), hidden (fun q i hq h => by
    have h1 := (HHIT.out q i).1 h
    have h2 := (HLN.out i h1.1).2
    omega), hb, Only.refl _ _⟩
  case round =>
    obtain ⟨m, hm, rfl, rfl, Hle, Hno, hB, hO⟩ := hrel
    clear c0 c1
    have c0 := hB.cell 0
    have c1 := hB.cell 1
    have f1 := hB.free 1
    simp at c0 c1
    by_cases hm20 : m < 20
    · have hmI : (m : Int) + 1 ≤ 20 := by omega
      by_cases hroom : at0 + m + 1 ≤ 8 * s.size
      · have KG := hidden (l1get_yes s (at0 + m) 1 b T wr hs (by decide) hroom hB)
        rw [num_row_one] at KG
        have hbt := bit_lt s (at0 + m)
        have hnx := num_row_succ s at0 m
        have hv : num (row s at0 m) < 2 ^ 20 := Nat.lt_of_lt_of_le (num_row_lt s at0 m) (Nat.pow_le_pow_right (by omega) (by omega))
        obtain ⟨v0, hv0⟩ : ∃ v0, num (row s at0 m) = v0 := ⟨_, rfl⟩
        obtain ⟨v1, hv1⟩ : ∃ v1, num (row s at0 (m + 1)) = v1 := ⟨_, rfl⟩
        obtain ⟨bt, hbt0⟩ : ∃ x, bit s (at0 + m) = x := ⟨_, rfl⟩
        rw [hv0] at hnx hv ⊢
        rw [hv1] at hnx
        rw [hbt0] at hnx hbt KG
        have HV1 := hidden hv1
        have hvI : 2 * (v0 : Int) + (bt : Int) = (v1 : Int) := by omega
        have hbt1 : ¬ (bt : Int) < 0 := by omega
        clear hv0 hv1 hbt0 hnx c0 c1
        go_wp2_with fail
        refine KG.out.mono ?_
        rintro e wa ⟨rfl, hB1, hO1⟩
        have hO2 : Only b w wa := ⟨hO1.os.trans hO.os, hO1.tape.trans hO.tape, hO1.output.trans hO.output, Nat.le_trans hO.size hO1.size, fun i hi hne => (hO1.block i (Nat.lt_of_lt_of_le hi hO.size) hne).trans (hO.block i hi hne)⟩
        clear hO1 hO hB KG
        go_wp2
        (try rw [hvI])
        go_loopw [11] (fun si wx => ∃ i nq : Nat, i ≤ n ∧ si = .int .i64 i ∧ Hid (∀ j, j < i → ¬ H (m + 1) j) ∧ wx = wa.drewN nq) (fun si _ => n - (intOf si).toNat)
        case atStart => exact ⟨0, 0, Nat.zero_le _, rfl, hidden (fun j hj => by omega), rfl⟩
        case round =>
          obtain ⟨i, nq, hi, rfl, Hj, rfl⟩ := hrel
          by_cases hlt : i < n
          · have ck := ((ocell hO2).1 g1 (o1 + i) hg1w hg1b).trans (HC.out i hlt)
            have hln := HLN.out i hlt
            rw [hln.1] at ck
            have cc := (own_away_has HOW.out hO2 (by simpa [Value.ownBlock] using hg2)).cellAt i (by omega)
            rw [nats_get _ _ i hlt] at cc
            have hcl := HLT.out i hlt
            obtain ⟨x, hx⟩ : ∃ x, l i = x := ⟨_, rfl⟩
            obtain ⟨y, hy⟩ : ∃ y, cd i = y := ⟨_, rfl⟩
            rw [hx] at ck hln
            rw [hy] at cc hcl
            by_cases hxm : x = m + 1
            · have e1 : ((x : Int) == (m : Int) + 1) = true := by rw [beq_iff_eq]; omega
              by_cases hyv : y = v1
              · have e2 : ((y : Int) == (v1 : Int)) = true := by rw [beq_iff_eq]; omega
                have HH : Hid (H (m + 1) i) := hidden ((HHIT.out _ _).2 ⟨hlt, by rw [hx, hxm], by omega, by rw [HV1.out, hy, hyv]⟩)
                clear hx hy hxm hyv hln
                go_wp2
                (try go_quiet (fail))
                (try go_wp2)
                go_ret
                exact ⟨hO2.drewN _, .inl ⟨m + 1, i, HH.out, rfl, hB1.drewN _⟩⟩
              · have e2 : ((y : Int) == (v1 : Int)) = false := by rw [beq_eq_false_iff_ne]; omega
                have HN2 : Hid (∀ j, j < i + 1 → ¬ H (m + 1) j) := hidden (fun j hj h => by
                  rcases Nat.lt_or_ge j i with g | g
                  · exact Hj.out j g h
                  · obtain rfl : j = i := by omega
                    have := ((HHIT.out _ _).1 h).2.2.2
                    rw [HV1.out, hy] at this
                    exact hyv this.symm)
                clear hx hy hxm hyv hln
                go_wp2
                (try go_quiet (fail))
                (try go_wp2)
                exact ⟨⟨i + 1, _, by omega, by go_num, HN2, rfl⟩, by simp [intOf]; omega⟩
            · have e1 : ((x : Int) == (m : Int) + 1) = false := by rw [beq_eq_false_iff_ne]; omega
              have HN2 : Hid (∀ j, j < i + 1 → ¬ H (m + 1) j) := hidden (fun j hj h => by
                rcases Nat.lt_or_ge j i with g | g
                · exact Hj.out j g h
                · obtain rfl : j = i := by omega
                  have := ((HHIT.out _ _).1 h).2.1
                  rw [hx] at this
                  exact hxm this)
              clear hx hy hxm hln
              go_wp2
              (try go_quiet (fail))
              (try go_wp2)
              exact ⟨⟨i + 1, _, by omega, by go_num, HN2, rfl⟩, by simp [intOf]; omega⟩
          · have hin : i = n := by omega
            subst hin
            have HN3 : Hid (∀ q j, q ≤ m + 1 → ¬ H q j) := hidden (fun q j hq h => by
              rcases Nat.lt_or_ge q (m + 1) with g | g
              · exact Hno.out q j (by omega) h
              · obtain rfl : q = m + 1 := by omega
                exact Hj.out j ((HHIT.out _ _).1 h).1 h)
            go_wp2
            exact ⟨⟨m + 1, by omega, by go_num, by rw [HV1.out], hidden (by omega), HN3, hB1.drewN _, hO2.drewN _⟩, by simp [intOf]; omega⟩
      · have KG := hidden (l1get_none s (at0 + m) 1 b T wr hs (by decide) Hle.out (by omega) hB)
        have HN3 : Hid (∀ q j, ¬ H q j) := hidden (fun q j h => by
          rcases Nat.lt_or_ge m q with g | g
          · have := ((HHIT.out _ _).1 h).2.2.1
            omega
          · exact Hno.out q j g h)
        go_wp2_with fail
        refine KG.out.mono ?_
        rintro e wa ⟨rfl, nq, rfl⟩
        go_wp2
        go_ret
        refine ⟨(hO.drewN nq).store (.inl rfl) _, .inr ⟨HN3.out, rfl, ?_⟩⟩
        have := (hB.drewN nq).store 1 (.int .i64 (at0 : Int))
        simpa using this
    · have hmI : ¬ (m : Int) + 1 ≤ 20 := by omega
      have HN3 : Hid (∀ q j, ¬ H q j) := hidden (fun q j h => by
        have h1 := (HHIT.out q j).1 h
        have h2 := (HLN.out j h1.1).2
        exact Hno.out q j (by omega) h)
      go_wp2
      go_ret
      refine ⟨hO.store (.inl rfl) _, .inr ⟨HN3.out, rfl, ?_⟩⟩
      have := hB.store 1 (.int .i64 (at0 : Int))
      simpa using this
end Go.Proofs.Ytdfbpmkdmpdobaa
