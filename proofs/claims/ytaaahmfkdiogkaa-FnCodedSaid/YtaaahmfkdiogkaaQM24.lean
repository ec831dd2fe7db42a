/- Merged: I4N. -/
import Derived.Test.YtaaahmfkdiogkaaQM18
import Derived.Test.YtaaahmfkdiogkaaQM5
import Derived.Deep.RegionWith
import Derived.Deep.LoopGhost
import Derived.Deep.DeepCutAuto
import Derived.BigRegion
import Derived.Maps.AppendAt
namespace Go.Proofs.Ytaaahmfkdiogkaa
set_option linter.unusedVariables false
set_option linter.unusedSimpArgs false
open Go.RowKit Go.Maps

/-- What the map says of v in k bits, of which s shows at bit a that they are next. -/
theorem map_hit {ls : List Int} (h : lOk ls = true) {s : ByteArray} {a k i : Nat} (hh : hit ls s a k i) (z : DataW Unit) :
    has (mapD (cdF ls) (lnF ls) ls.length) (keyL (num (row s a k)) k) = true ∧ (mapD (cdF ls) (lnF ls) ls.length).atKey (keyL (num (row s a k)) k) z = .lit (.int .i64 (i : Int)) := by
  obtain ⟨h1, h2, h3, h4⟩ := hh
  rw [h4, ← h2]
  exact mapD_yes _ _ z i _ h1 (fun j hj => ⟨by have := cdF_lt20 h j hj; omega, (lRange_ln (lOk_range h) j hj).2⟩) (fun j hj hc hl => codeN_inj _ _ j i hj h1 (lRange_ln (lOk_range h) i h1).2 hl hc)
theorem map_miss {ls : List Int} (h : lOk ls = true) {s : ByteArray} {a k : Nat} (hk : k ≤ 20) (ha : a + k ≤ 8 * s.size) (hh : ∀ i, ¬ hit ls s a k i) :
    has (mapD (cdF ls) (lnF ls) ls.length) (keyL (num (row s a k)) k) = false := by
  have h2 := num_row_lt s a k
  have h3 : 2 ^ k ≤ 2 ^ 20 := Nat.pow_le_pow_right (by omega) hk
  exact mapD_no _ _ _ _ (by omega) (by omega) _ (fun j hj => ⟨by have := cdF_lt20 h j hj; omega, (lRange_ln (lOk_range h) j hj).2⟩) (fun i hi hc => hh i ⟨hi, hc.2, ha, hc.1.symm⟩)
set_option maxHeartbeats 4000000 in
set_option maxRecDepth 100000 in
theorem next_any (s : ByteArray) (at0 mb g : Nat) (T : TypeId) (ls : List Int) (w : World) (hok : lOk ls = true) (hs : s.size ≤ 1048576) (hat0 : at0 ≤ 8 * s.size) (hM : MapAt w mb ls) (hR : Has w g T #[.string s, .int .i64 at0]) (hne : mb ≠ g) :
    Calls Try.prog 88 #[.map (some mb), .pointer (some ⟨g, 0, none⟩)] w fun e w' => Only g w w' ∧
      ((∃ n i, hit ls s at0 n i ∧ e = .returned (.tuple #[.int .i64 i, .bool true]) ∧ Has w' g T #[.string s, .int .i64 ((at0 + n : Nat) : Int)]) ∨
       ((∀ n i, ¬ hit ls s at0 n i) ∧ e = .returned (.tuple #[.int .i64 (-1), .bool false]))) := by
  have hr := lOk_range hok
  have HOK := hidden hok
  have HLN := hidden (lRange_ln hr)
  have hgl := hR.lt
  have hml := hM.lt
  have hC := Has.fresh w 145 #[.int .i64 0, .int .i64 0]
  have hR0 := hR.alloc (.cells #[.int .i64 0, .int .i64 0] 145)
  have hM0 := hM.alloc (.cells #[.int .i64 0, .int .i64 0] 145)
  have hO0 := (Only.refl g w).alloc (.cells #[.int .i64 0, .int .i64 0] 145)
  have HNE := hidden hne
  clear hok hr hM hR hne
  go_enter Try.func88, Try.ntmps88
  go_wp2
  go_loopg [] 20 (fun gk wr => ∃ k v p : Nat, Hid (k + gk = 20) ∧ k ≤ 20 ∧ Hid (p = at0 + k) ∧ p ≤ 8 * s.size ∧ Hid (v = num (row s at0 k)) ∧ Hid (∀ n i, n ≤ k → ¬ hit ls s at0 n i) ∧ Has wr w.heap.size 145 #[.int .i64 v, .int .i64 k] ∧ Has wr g T #[.string s, .int .i64 p] ∧ MapAt wr mb ls ∧ Only g w wr)
  case atStart => exact ⟨0, 0, at0, hidden rfl, by omega, hidden rfl, hat0, hidden rfl, hidden (fun n i hn hh => by
    have := HLN.out i hh.1
    have := hh.2.1
    omega), hC, hR0, hM0, hO0⟩
  case round =>
    obtain ⟨k, v, p, HG, hk, HP, hp, HV, HNO, hC, hR, hM, hO⟩ := hrel
    have hv20 : v < 1048576 := by
      rw [HV.out]
      have h3 : 2 ^ k ≤ 2 ^ 20 := Nat.pow_le_pow_right (by omega) hk
      exact Nat.lt_of_lt_of_le (num_row_lt s at0 k) h3
    have c0 := hC.cell 0
    have c1 := hC.cell 1
    have f0 := hC.free 0
    have f1 := hC.free 1
    have r0 := hR.cell 0
    have r1 := hR.cell 1
    simp at c0 c1 r0 r1
    by_cases hk20 : k < 20
    · have hkI : (k : Int) < 20 := by omega
      by_cases hp8 : p < 8 * s.size
      · have hpI : (p : Int) < 8 * (s.size : Int) := by omega
        have hx2 := num_row_lt s p 1
        have HV2 : Hid (num (row s at0 (k + 1)) = v * 2 + num (row s p 1)) := hidden (by
          rw [row_add, num_append, row_len, ← HV.out, ← HP.out])
        obtain ⟨x, hx⟩ : ∃ x, num (row s p 1) = x := ⟨_, rfl⟩
        rw [hx] at hx2 HV2
        have hHI := HP.out
        have HHIT := hidden (fun i (h : hit ls s at0 (k + 1) i) => map_hit HOK.out h (.lit (.int .i64 0)))
        have HMISS := hidden (fun h => map_miss HOK.out (s := s) (a := at0) (k := k + 1) (by omega) (by omega) h)
        rw [HV2.out] at HHIT HMISS
        obtain ⟨v2, hv2⟩ : ∃ v2, v * 2 + x = v2 := ⟨_, rfl⟩
        rw [hv2] at HHIT HMISS HV2
        have HE : Hid (bits BinOp.or IntKind.i64 (IntKind.i64.wrap ((v : Int) * 2)) (x : Int) = (v2 : Int)) := hidden (by
          have h1 := shl_or v 1 x (by omega) (by omega) hx2
          rw [← hv2, show IntKind.i64.wrap ((v : Int) * 2) = wrap64 ((v : Int) * 2 ^ 1) by rw [IntWalk.i64_in _ (by omega), show ((v : Int) * 2 ^ 1) = ((v * 2 : Nat) : Int) by simp, wrap64_n _ (by omega)]; simp, h1])
        have HKEY : Hid (keyOf Try.prog 145 (.agg #[.int .i64 (v2 : Int), .int .i64 ((k : Int) + 1)]) = some (keyL v2 (k + 1))) := hidden (by
          have := key_code v2 (k + 1) (by omega) (by omega)
          rwa [show ((k + 1 : Nat) : Int) = (k : Int) + 1 by omega] at this)
        have HV2I := hidden hv2
        clear hv2
        have HX := hidden hx
        clear hx hHI
        go_wp2
        go_quiet (fail)
        go_upto_region 3 with (fail)
        go_cut [] (fun wx => Has wx w.heap.size 145 #[.int .i64 v2, .int .i64 k] ∧ Has wx g T #[.string s, .int .i64 ((p + 1 : Nat) : Int)] ∧ MapAt wx mb ls ∧ Only g w wx)
        case first =>
          go_region_with (go_at_call 117; (refine (take_any s p 1 g T _ hs (by omega) (by omega) ?hW).mono ?_); (case hW => exact hR); rintro e w1 ⟨rfl, hR1, hO1⟩; rw [HX.out]; have hC1 := hO1.has (t := 145) (cs := #[.int .i64 (v : Int), .int .i64 (k : Int)]) hC (by omega); have d0 : w1.cell? ⟨w.heap.size, 0, none⟩ = some (.int .i64 (v : Int)) := hC1.cell 0; have e0 := hC1.free 0)
          all_goals
            have hM1 : MapAt w1 mb ls := by
              refine MapAt.only ?_ hO1 HNE.out
              exact hM
            have hO2 : Only g w w1 := by
              refine World.grownBy.trans ?_ hO1
              exact hO.drewN _
            rw [HE.out]
            clear d0 e0
            go_wp2
            go_meet
            case rel => exact ⟨hC1.store 0 _, hR1.storeAway (by simp; omega) _, hM1.setCell (by simp; omega) _, hO2.store (.inr (Nat.le_refl _)) _⟩
        case rest =>
          obtain ⟨hC3, hR3, ⟨nm, hM3⟩, hO3⟩ := hcut
          have d0 := hC3.cell 0
          have d1 := hC3.cell 1
          have e0 := hC3.free 0
          have e1 := hC3.free 1
          simp at d0 d1
          clear c0 c1 f0 f1 r0 r1 hC hR hM hO hR0 hM0 hO0
          have hkey := HKEY.out
          by_cases hit1 : ∃ i, hit ls s at0 (k + 1) i
          · obtain ⟨i, hi⟩ := hit1
            have hH := HHIT.out i hi
            have HH := hidden hH
            go_wp2_with (at_lookup; refine wpList_lookup_own_ok_int _ rfl _ _ 107 rfl 145 3 .i64 codeLaw Try.underlying107 Try.underlying3 (zeroInt _) mb nm _ rfl (hM3.setCell (by simp; omega) _) _ _ rfl hkey ?_; intro c hat hwc; rw [HH.out.1])
            have hci : c = (i : Int) := by
              have h1 := hat.symm.trans HH.out.2
              simpa using h1
            subst hci
            go_ret2
            have hRf := hR3.storeAway (p := ⟨w.heap.size, 1, none⟩) (by simp; omega) (.int .i64 ((k : Int) + 1))
            rw [show p + 1 = at0 + (k + 1) by have := HP.out; omega] at hRf
            exact ⟨hO3.store (.inr (Nat.le_refl _)) _, .inl ⟨k + 1, i, hi, rfl, hRf⟩⟩
          · have hM0 := HMISS.out (fun i h => hit1 ⟨i, h⟩)
            have HH := hidden hM0
            have HN := hidden hit1
            clear hM0 hit1
            go_wp2_with (at_lookup; refine wpList_lookup_own_ok_int _ rfl _ _ 107 rfl 145 3 .i64 codeLaw Try.underlying107 Try.underlying3 (zeroInt _) mb nm _ rfl (hM3.setCell (by simp; omega) _) _ _ rfl hkey ?_; intro c hat hwc; rw [HH.out])
            go_roundg (gk - 1)
            case measure => have := HG.out; omega
            case rel =>
              have hCf := hC3.store 1 (.int .i64 ((k : Int) + 1))
              have hRf := hR3.storeAway (p := ⟨w.heap.size, 1, none⟩) (by simp; omega) (.int .i64 ((k : Int) + 1))
              refine ⟨k + 1, v2, p + 1, hidden (by have := HG.out; omega), by omega, hidden (by have := HP.out; omega), by omega, hidden HV2.out.symm, hidden fun n i hn hh => ?_, by simpa using hCf, hRf, ⟨nm, hM3.setCell (by simp; omega) _⟩, hO3.store (.inr (Nat.le_refl _)) _⟩
              by_cases e : n = k + 1
              · subst e; exact HN.out ⟨i, hh⟩
              · exact HNO.out n i (by omega) hh
      · have hpN : decide ((p : Int) < 8 * (s.size : Int)) = false := by simp; omega
        have hpI : ¬ (p : Int) < 8 * (s.size : Int) := by omega
        have HF : Hid (∀ n i, ¬ hit ls s at0 n i) := hidden (fun n i hh => HNO.out n i (by have := hh.2.2.1; have := HP.out; omega) hh)
        clear hp8
        go_wp2
        go_quiet (fail)
        go_wp2
        go_ret2
        exact ⟨hO.drewN _, .inr ⟨HF.out, rfl⟩⟩
    · have hkN : decide ((k : Int) < 20) = false := by simp; omega
      have hkI : ¬ (k : Int) < 20 := by omega
      have HF : Hid (∀ n i, ¬ hit ls s at0 n i) := hidden (fun n i hh => HNO.out n i (by have := HLN.out i hh.1; have := hh.2.1; omega) hh)
      clear hk20
      go_wp2
      go_quiet (fail)
      go_wp2
      go_ret2
      exact ⟨hO.drewN _, .inr ⟨HF.out, rfl⟩⟩
end Go.Proofs.Ytaaahmfkdiogkaa
