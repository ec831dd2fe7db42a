/- Merged: C1WPut. -/
import Derived.Test.YtaaahmfkdiogkaaQM7
import Derived.Test.YtaaahmfkdiogkaaQM12
import Derived.BigRegion
import Derived.Deep.DeepCutAuto
namespace Go.Proofs.Ytaaahmfkdiogkaa
set_option linter.unusedVariables false
set_option linter.unusedSimpArgs false
open Go.RowKit

set_option maxRecDepth 100000 in
set_option maxHeartbeats 4000000 in
theorem put_any (g base : Nat) (l : List Nat) (y k : Nat) (w : World) (h : Writes w base g l) (hg : base ≤ g) (hbase : base ≤ w.heap.size) (hk : k ≤ 32) (hy : y < 2 ^ k) (hl : l.length + k ≤ 400000) :
    Calls Try.prog 71 #[.pointer (some ⟨g, 0, none⟩), .int .i64 y, .int .i64 k] w fun e w' => e = .returned (.tuple #[]) ∧ Writes w' base g (l ++ nbits y k) ∧ Below base w w' ∧ Keeps g w w' := by
  obtain ⟨i0, hi, hz0, hz1, hz2⟩ := info_parts Try.info5
  have hy32 : y < 2 ^ 32 := Nat.lt_of_lt_of_le hy (Nat.pow_le_pow_right (by omega) hk)
  go_enter Try.func71, Try.ntmps71
  go_wp2
  go_loopw [2, 6, 7, 8] (fun n _ _ _ wr => ∃ (r : Nat) (L : List Nat) (N : Nat), r ≤ k ∧ Hid (L = l ++ nbits (y / 2 ^ r) (k - r)) ∧ Hid (L.length = N) ∧ N + r ≤ 400000 ∧ n = .int .i64 r ∧ Writes wr base g L ∧ Below base w wr ∧ Keeps g w wr) (fun n _ _ _ _ => (intOf n).toNat)
  case atStart => exact ⟨k, l, l.length, Nat.le_refl _, hidden (by simp [nbits]), hidden rfl, hl, rfl, h, Below.refl _ _, Keeps.refl _ _⟩
  case round =>
    obtain ⟨r, L, N, hr, HL, HN, hN, rfl, ⟨v, D, hB, hR, hP, hne⟩, hbl, hK⟩ := hrel
    have HNo := HN.out
    have c0 := hB.cell 0
    have c1 := hB.cell 1
    have f0 := hB.free 0
    have f1 := hB.free 1
    simp [HNo] at c0 c1
    have hDl := hP.len
    rw [HNo] at hDl
    have HD := hidden hDl
    clear hDl HNo
    by_cases hlt : 0 < r
    · go_upto_if 17 with (go_at_call 108; refine (upToByte_nat _ _ (by omega)).mono ?_; rintro e w1 ⟨rfl, rfl⟩)
      go_cut [6] (fun s6 wx => ∃ (f M : Nat) (v' : Value) (D' : List Nat), s6 = .int .i64 f ∧ 0 < f ∧ f ≤ 8 ∧ Hid (f = 8 - N % 8) ∧ Hid (M = N / 8) ∧ M ≤ 50000 ∧ Has wx g 130 #[v', .int .i64 N] ∧ Row wx base 5 v' (M + 1) (u8s D') ∧ PK (M + 1) D' L ∧ some g ≠ v'.ownBlock ∧ Below base w wx ∧ Keeps g w wx)
      case first =>
        by_cases h8 : N % 8 = 0
        · have hu1 : ((upN N : Int) == 0) = true := by simp [upN]; omega
          go_wp2_with (at_builtin; refine wpList_row_append _ rfl _ _ 59 rfl 5 i0 Try.underlying59 hi hz0 hz1 hz2 v D.length base (u8s D) rfl (hR.alloc _) ⟨wr.heap.size, 0, none⟩ 1 (.int .u8 0) rfl ?c1 rfl ?c3 ?c4 ?_)
          case c1 => have := (Has.fresh wr 5 #[.int .u8 0]).cell 0; simp at this; simp [this]
          case c3 => have := HD.out; omega
          case c4 => have := hbl.size; simp; omega
          intro v3 w3 hR3 hgr
          obtain ⟨gd3, cp3, hv3, _⟩ := hR3.form
          subst hv3
          have hB3 := (hB.alloc (.cells #[.int .u8 0] 5)).grown hgr hne
          have hsz := hbl.size
          have hbl3 : Below base w w3 := (hbl.alloc (by omega) _).grown hgr (by simp; omega) (fun b hb => (hR.lt b hb).1)
          have hK3 := (hK.alloc (.cells #[.int .u8 0] 5)).grown (hR.alloc _) hgr
          have hne3 := hR3.neHas hB3 (by decide)
          have d0 := hB3.cell 0
          have d1 := hB3.cell 1
          have k0 := hB3.free 0
          have hB4 := hB3.store 0 (.slice (some ⟨gd3, 0, none⟩) (D.length + 1) cp3)
          simp [HN.out] at d0 d1 hB4
          have hP3 := hP.pk.zero (by have := hP.len; omega)
          rw [show u8s D ++ [.int .u8 0] = u8s (D ++ [0]) by simp [u8s]] at hR3
          have hDM : D.length = N / 8 := by have := HD.out; omega
          rw [hDM] at hR3 hP3 hB4 hne3
          simp only [hDM]
          have HDM := hidden hDM
          clear hDM hB3 hgr
          go_wp2
          go_meet
          case rel => exact ⟨8, N / 8, .slice (some ⟨gd3, 0, none⟩) (N / 8 + 1) cp3, D ++ [0], rfl, by omega, by omega, hidden (by omega), hidden rfl, by omega, hB4, hR3.storeAway hne3 _, hP3, fun h => hne3 h.symm, hbl3.setCell hg _, hK3.store 0 _⟩
        · have hu0 : ((upN N : Int) == 0) = false := by simp [upN]; omega
          have hDM : D.length = N / 8 + 1 := by have := HD.out; omega
          have hP3 := hP.pk
          rw [hDM] at hR hP3
          have HDM := hidden hDM
          simp [HN.out] at hB
          clear hDM
          go_wp2
          go_meet
          case rel => exact ⟨upN N, N / 8, v, D, rfl, by unfold upN; omega, by unfold upN; omega, hidden (by unfold upN; omega), hidden rfl, by omega, hB, hR, hP3, hne, hbl, hK⟩
      case rest =>
        obtain ⟨f, M, v', D', rfl, hf0, hf8, HF, HM, hM, hB', hR', hP', hne', hbl', hK'⟩ := hcut
        obtain ⟨gd, cp, hv, hgd, hgdl, hcap⟩ := hR'.form
        subst hv
        clear c0 c1 f0 f1 hB hR hP hne hbl HD
        have hD'len := hR'.len
        rw [u8s_len] at hD'len
        go_upto_region 5 with fail
        go_cut [7] (fun s7 wx => ∃ kk : Nat, s7 = .int .i64 kk ∧ 0 < kk ∧ kk ≤ r ∧ kk ≤ f ∧ wx = wc)
        case first =>
          by_cases hm : r ≤ f
          · go_wp2
            go_meet
            case rel => exact ⟨r, rfl, by omega, by omega, by omega, rfl⟩
          · go_wp2
            go_meet
            case rel => exact ⟨f, rfl, by omega, by omega, by omega, rfl⟩
        case rest =>
          obtain ⟨kk, rfl, hk0, hkr, hkf, rfl⟩ := hcut
          obtain ⟨p, hp⟩ : ∃ p : Nat, p = y / 2 ^ (r - kk) % 2 ^ kk := ⟨_, rfl⟩
          obtain ⟨x, hx⟩ : ∃ x : Nat, x = D'.getD M 0 := ⟨_, rfl⟩
          have c0 := hB'.cell 0
          have c1 := hB'.cell 1
          have f1 := hB'.free 1
          have c2 := hR'.cell M (.int .u8 (x : Int)) (by rw [u8s_get _ _ (by omega), hx])
          have f2 := hR'.free M (by omega)
          simp at c0 c1
          have hgg : ¬ g = gd := fun e => hne' (by rw [e]; rfl)
          have hgg' : ¬ gd = g := fun e => hgg e.symm
          have hyd : y / 2 ^ (r - kk) ≤ y := Nat.div_le_self _ _
          have hE : bits BinOp.and IntKind.i64 ((y : Int) / 2 ^ (r - kk)) (wrap64 (wrap64 (2 ^ kk) - 1)) = (p : Int) := by
            rw [hp, ← mask_nat _ _ (by omega) (by omega)]; simp
          have HP := hidden hp
          have HX := hidden hx
          have hDl := hidden hD'len
          clear hp hx hD'len hyd
          go_wp2
          go_quiet (fail)
          go_wp2
          go_region
          all_goals go_wp2
          have hN' := HN.out
          have hq : bits BinOp.or IntKind.u8 (x : Int) (wrap64 ((p : Int) * 2 ^ (f - kk)) % 256) = ((x ||| p * 2 ^ (f - kk) : Nat) : Int) := by
            have hpk : p < 2 ^ kk := by rw [HP.out]; exact Nat.mod_lt _ (Nat.two_pow_pos kk)
            have hpf : p * 2 ^ (f - kk) < 256 := by
              have e8 : 2 ^ kk * 2 ^ (f - kk) = 2 ^ f := by rw [← Nat.pow_add]; congr 1; omega
              have e9 : 2 ^ f ≤ 2 ^ 8 := Nat.pow_le_pow_right (by omega) hf8
              have e10 : p * 2 ^ (f - kk) < 2 ^ kk * 2 ^ (f - kk) := Nat.mul_lt_mul_of_pos_right hpk (Nat.two_pow_pos _)
              omega
            have hx : x < 256 := by rw [HX.out]; exact hP'.small M
            rw [← u8_or_nat x (p * 2 ^ (f - kk)) hx hpf, show ((p : Int) * 2 ^ (f - kk)) = ((p * 2 ^ (f - kk) : Nat) : Int) by simp, wrap64_n _ (by omega)]
            congr 1
            omega
          have hor := hP'.or_k kk (y / 2 ^ (r - kk)) (by rw [hN', HM.out]) (by rw [hN']; have := HF.out; omega)
          rw [← HP.out, show M + 1 - 1 = M by omega, ← HX.out, hN', ← HF.out] at hor
          have hrow := (((hR'.drewN (nq + 1)).store M (.int .u8 ((x ||| p * 2 ^ (f - kk) : Nat) : Int))).storeAway (p := ⟨g, 1, none⟩) (by simpa [Value.ownBlock] using hgg') (.int .i64 (↑N + ↑kk)))
          rw [← u8s_set] at hrow
          have hhas := (((hB'.drewN (nq + 1)).storeAway (p := ⟨gd, M, none⟩) hgg (.int .u8 ((x ||| p * 2 ^ (f - kk) : Nat) : Int))).store 1 (.int .i64 (↑N + ↑kk)))
          have hlen2 : (L ++ nbits p kk).length = N + kk := by rw [List.length_append, nbits_len, hN']
          have hpks := hor.packs (by rw [hlen2, HM.out]; have := HF.out; omega)
          have hbl2 := ((bel_drewN hbl' (nq + 1)).setCell (p := ⟨gd, M, none⟩) hgd (.int .u8 ((x ||| p * 2 ^ (f - kk) : Nat) : Int))).setCell (p := ⟨g, 1, none⟩) hg (.int .i64 (↑N + ↑kk))
          have hK2 := ((hK'.drewN (nq + 1)).storeRow (hR'.drewN (nq + 1)) M (.int .u8 ((x ||| p * 2 ^ (f - kk) : Nat) : Int))).store 1 (.int .i64 (↑N + ↑kk))
          rw [hq]
          refine ⟨⟨r - kk, L ++ nbits p kk, N + kk, by omega, hidden ?_, hidden hlen2, by omega, by rw [Int.ofNat_sub hkr], ⟨.slice (some ⟨gd, 0, none⟩) (M + 1) cp, _, ?_, ?_, hpks, hne'⟩, hbl2, hK2⟩, by simp [intOf]; omega⟩
          · rw [HL.out, List.append_assoc, HP.out]
            congr 1
            rw [show k - (r - kk) = (k - r) + kk by omega, nbits_add (y / 2 ^ (r - kk)) (k - r) kk, Nat.div_div_eq_div_mul, ← Nat.pow_add, show r - kk + kk = r by omega]
          · rw [hlen2]; simpa using hhas
          · rw [hor.len]; exact hrow
    · go_wp2
      go_end0
      have hr0 : r = 0 := by omega
      subst hr0
      have hLL := HL.out
      simp only [Nat.pow_zero, Nat.div_one, Nat.sub_zero] at hLL
      subst hLL
      exact ⟨rfl, ⟨v, D, hB, hR, hP, hne⟩, hbl, hK⟩
end Go.Proofs.Ytaaahmfkdiogkaa
