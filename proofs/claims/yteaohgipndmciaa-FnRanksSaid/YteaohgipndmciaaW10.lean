/- Merged: I7X. -/
import Derived.Test.YteaohgipndmciaaW8
import Derived.Test.YteaohgipndmciaaI6P
namespace Go.Proofs.Yteaohgipndmciaa
set_option linter.unusedVariables false
set_option linter.unusedSimpArgs false
open Go.RowKit Go.Maps

theorem len8_zero : Lib.len8 0 = 0 := by decide +kernel
set_option maxHeartbeats 4000000 in
set_option maxRecDepth 100000 in
theorem len64_zero (w : World) : Calls Try.prog 108 #[.int .u64 0] w fun e w' => e = .returned (.int .i64 0) ∧ w' = w := by
  have hz := hidden Lib.len8tab_size
  go_enter Try.func108, Try.ntmps108
  go_wp2
  go_ret
  exact ⟨congrArg Ending.returned (by rw [len8_zero]; exact congrArg (Value.int IntKind.i64) (by decide +kernel : wrap64 (wrap64 0) = 0)), rfl⟩
theorem bitsLen_any (x : Nat) (w : World) (hx : x ≤ 255) :
    Calls Try.prog 98 #[.int .u64 x] w fun e w' => e = .returned (.int .i64 ((if x = 0 then 0 else Nat.log2 x + 1 : Nat) : Int)) ∧ w' = w := by
  have K : Hid (∀ W : World, Calls Try.prog 108 #[.int .u64 x] W fun e w' => e = .returned (.int .i64 ((if x = 0 then 0 else Nat.log2 x + 1 : Nat) : Int)) ∧ w' = W) := hidden (fun W => by
    by_cases h : x = 0
    · subst h; exact len64_zero W
    · rw [if_neg h]
      have := len64_small x W (by omega) (by omega)
      rwa [Int.toNat_natCast] at this)
  obtain ⟨g, hg⟩ : ∃ g, (if x = 0 then 0 else Nat.log2 x + 1) = g := ⟨_, rfl⟩
  rw [hg] at K ⊢
  clear hg
  go_enter Try.func98, Try.ntmps98
  go_wp2_with fail
  refine (K.out _).mono ?_
  rintro e w1 ⟨rfl, rfl⟩
  go_wp2
  go_ret
  exact ⟨rfl, rfl⟩
theorem indexBits_any (lb mb : Nat) (u : List Nat) (w : World) (h : BL w lb mb u) (hu : u.Nodup) (hb : Byt u) (h0 : u ≠ []) :
    Calls Try.prog 72 #[.pointer (some ⟨lb, 0, none⟩)] w fun e w' => e = .returned (.int .i64 (needB u.length : Int)) ∧ w = w' := by
  have hl := nodup_256 hb hu
  have hp : 0 < u.length := List.length_pos_iff.2 h0
  have KS := hidden (size_any lb mb u w h hu hb)
  have KL := hidden (fun W => bitsLen_any (u.length - 1) W (by omega))
  have HE : Hid ((if u.length - 1 = 0 then 0 else Nat.log2 (u.length - 1) + 1) = needB u.length) := hidden (by
    unfold needB
    by_cases h1 : u.length ≤ 1
    · rw [if_pos h1, if_pos (by omega)]
    · rw [if_neg h1, if_neg (by omega)])
  rw [HE.out] at KL
  obtain ⟨m, hm⟩ : ∃ m, u.length = m + 1 := ⟨u.length - 1, by omega⟩
  obtain ⟨g, hg⟩ : ∃ g, needB u.length = g := ⟨_, rfl⟩
  rw [hg] at KL ⊢
  rw [hm] at KS KL
  have hm256 : m ≤ 255 := by omega
  rw [Nat.add_sub_cancel] at KL
  clear hg hm HE h h0 hp hl
  go_enter Try.func72, Try.ntmps72
  go_wp2_with fail
  refine KS.out.mono ?_
  rintro e w1 ⟨rfl, rfl⟩
  have h1 : ((m + 1 : Nat) : Int) - 1 = (m : Int) := by omega
  go_wp2_with fail
  refine (KL.out _).mono ?_
  rintro e w1 ⟨rfl, rfl⟩
  go_wp2
  go_ret
  exact ⟨rfl, rfl⟩
theorem arr16 : Try.prog.arrayLen 60 = 16 := by kernel_rfl
theorem elem16 : Try.prog.elem 60 = 3 := by kernel_rfl
theorem und16 : Try.prog.underlying 60 = some (.array (Try.prog.arrayLen 60) (Try.prog.elem 60)) := by kernel_rfl
theorem size16 (w : World) : (sizeOf 3).run Try.prog w = .ok 1 w := by kernel_rfl
theorem slice16 (lb b : Nat) (hb : b < 256) (w : World) : (Instr.sliceAt 60 (.pointer (some ⟨lb, 1, none⟩)) none (some (.int .u8 ((b : Int) / 16))) none).run Try.prog w = .ok (.slice (some ⟨lb, 1, none⟩) (b / 16) 16) w := by
  rw [run_sliceAt_array_h w 60 _ und16 .u8 _ (by omega) (by rw [arr16]; omega), elem16, size16, arr16]
  have : ((b : Int) / 16).toNat = b / 16 := by omega
  simp [slicedAt, Result.andThen, Addr.add, this]
set_option maxHeartbeats 1000000 in
set_option maxRecDepth 100000 in
theorem indexOf_any (lb mb b : Nat) (u : List Nat) (w : World) (h : BL w lb mb u) (hb : b < 256) (hul : u.length ≤ 256) :
    Calls Try.prog 71 #[.pointer (some ⟨lb, 0, none⟩), .int .u8 b] w fun e w' => e = .returned (.int .i64 (befB u b : Int)) ∧ w = w' := by
  obtain ⟨hB, D, hown, hC⟩ := h
  have HC := hidden hC.2.2.1
  have hlb := hB.lt
  have c0 := hB.cell 0
  rw [blC_map] at c0
  have HB := hidden hB
  have HGS := hidden (befG_succ u)
  have HBS := hidden (befB_succ u)
  have HG := hidden (befB_group u)
  have HGl := hidden (befG_le u)
  have HBl := hidden (befB_le u)
  have HG0 := hidden (befG_zero u)
  have hq16 : b / 16 ≤ 16 := by omega
  have hq16I : (b : Int) / 16 ≤ 16 := by omega
  have HOW := hidden hown
  clear hC hB hown c0
  go_enter Try.func71, Try.ntmps71
  have hsl := slice16 lb b hb
  go_wp2
  go_loopw [5, 7, 16] (fun si _ sk wr => ∃ k : Nat, k ≤ b / 16 ∧ sk = .int .i64 k ∧ si = .int .i64 (befG u k : Int) ∧ Hid (w = wr)) (fun _ _ sk _ => b / 16 - (intOf sk).toNat)
  case atStart => exact ⟨0, by omega, rfl, by rw [HG0.out]; rfl, hidden rfl⟩
  case round =>
    obtain ⟨k, hk, rfl, rfl, HW⟩ := hrel
    have HBr : Hid (Has wr lb 109 (blC mb (grpN u))) := hidden (by rw [← HW.out]; exact HB.out)
    have hownr : wr.ownsMap Try.prog 5 (plainElem (H := Unit) Try.prog 3) mb 1048576 D := by rw [← HW.out]; exact HOW.out
    have c0 := HBr.out.cell 0
    rw [blC_map] at c0
    have hl1 := HGl.out k
    have hl2 := HGl.out (k + 1)
    by_cases hlt : k < b / 16
    · have d0 := HBr.out.cell (1 + k)
      rw [blC_get _ _ _ (by omega)] at d0
      have HS := hidden (HGS.out k)
      obtain ⟨x, hx⟩ : ∃ x, befG u k = x := ⟨_, rfl⟩
      obtain ⟨y, hy⟩ : ∃ y, grpN u k = y := ⟨_, rfl⟩
      rw [hx, hy] at HS
      rw [HS.out] at hl2
      rw [hx] at hl1 ⊢
      rw [hy] at d0
      clear hx hy
      go_wp2
      go_roundw
      case rel => exact ⟨k + 1, by omega, by go_num, by rw [HS.out]; go_num, HW⟩
      case measure => simp [intOf]; omega
    · have hkn : k = b / 16 := by omega
      subst hkn
      rw [← HG.out] at hl1 ⊢
      have hsub : (b : Int) - (b : Int) % 16 = ((16 * (b / 16) : Nat) : Int) := by omega
      clear hl2
      go_wp2
      go_loopw [5, 8] (fun si sx wq => ∃ x : Nat, 16 * (b / 16) ≤ x ∧ x ≤ b ∧ sx = .int .u8 x ∧ si = .int .i64 (befB u x : Int) ∧ Hid (w = wq)) (fun _ sx _ => b - (intOf sx).toNat)
      case atStart => exact ⟨16 * (b / 16), Nat.le_refl _, by omega, rfl, rfl, HW⟩
      case round =>
        obtain ⟨x, hx1, hx2, rfl, rfl, HW2⟩ := hrel
        clear c0 hownr HBr
        have HBq : Hid (Has wr lb 109 (blC mb (grpN u))) := hidden (by rw [← HW2.out]; exact HB.out)
        have hownq : wr.ownsMap Try.prog 5 (plainElem (H := Unit) Try.prog 3) mb 1048576 D := by rw [← HW2.out]; exact HOW.out
        have c0 := HBq.out.cell 0
        rw [blC_map] at c0
        have hm1 := HBl.out x
        have hm2 := HBl.out (x + 1)
        by_cases hlt2 : x < b
        · have hxI : (x : Int) < b := by omega
          have hx256 : x < 256 := by omega
          have HS := hidden (HBS.out x)
          have HAT := hidden (HC.out x hx256)
          have hkey := keyB hx256
          obtain ⟨p, hp⟩ : ∃ p, befB u x = p := ⟨_, rfl⟩
          obtain ⟨q, hq⟩ : ∃ q, u.count x = q := ⟨_, rfl⟩
          rw [hp, hq] at HS
          rw [HS.out] at hm2
          rw [hq] at HAT
          rw [hp] at hm1 ⊢
          have hx8 : ((x : Int) + 1) % 256 = (x : Int) + 1 := by omega
          clear hp hq
          go_wp2_with (at_lookup; refine wpList_lookup_own_int _ rfl _ _ 71 rfl 5 3 .i64 byteKey Try.underlying71 Try.underlying3 (zeroI7 _) mb 1048576 D rfl hownq _ _ rfl hkey ?_; intro c hat hwc; obtain rfl : c = (q : Int) := (by have h1 := hat.symm.trans HAT.out; simpa using h1))
          go_roundw
          case rel =>
            repeat apply Exists.intro
            refine ⟨?_, rfl⟩
            exact ⟨x + 1, by omega, by omega, by go_num, by rw [HS.out]; go_num, HW2⟩
          case measure => simp [intOf]; omega
        · have hxb : x = b := by omega
          subst hxb
          go_wp2
          go_ret
          exact ⟨rfl, HW2.out⟩

theorem at_bef {u : List Nat} (hb : Byt u) {i : Nat} (hi : i < u.length) : ∃ g, g < 16 ∧ befG u g ≤ i ∧ i < befG u (g + 1) := by
  have h16 : i < befG u 16 := by rw [befG_all hb]; exact hi
  have key : ∀ n, i < befG u n → ∃ g, g < n ∧ befG u g ≤ i ∧ i < befG u (g + 1) := by
    intro n
    induction n with
    | zero => intro h; rw [befG_zero] at h; omega
    | succ n ih =>
      intro h
      by_cases h2 : i < befG u n
      · obtain ⟨g, hg, h3⟩ := ih h2
        exact ⟨g, by omega, h3⟩
      · exact ⟨n, by omega, by omega, h⟩
  exact key 16 h16
set_option maxHeartbeats 1000000 in
set_option maxRecDepth 100000 in
theorem at_any (lb mb i : Nat) (u : List Nat) (w : World) (h : BL w lb mb u) (hn : u.Nodup) (hb : Byt u) (hi : i < u.length) :
    Calls Try.prog 80 #[.pointer (some ⟨lb, 0, none⟩), .int .i64 i] w fun e w' => ∃ b, b ∈ u ∧ b < 256 ∧ befB u b = i ∧ e = .returned (.int .u8 (b : Int)) ∧ w = w' := by
  obtain ⟨hB, D, hown, hC⟩ := h
  have hul := nodup_256 hb hn
  have HC := hidden hC.2.2.1
  have hlb := hB.lt
  have HB := hidden hB
  have HOW := hidden hown
  have HGS := hidden (befG_succ u)
  have HBS := hidden (befB_succ u)
  have HG := hidden (befB_group u)
  have HGA := hidden (befG_all hb)
  have HG0 := hidden (befG_zero u)
  have HGl := hidden (befG_le u)
  have HCN : Hid (∀ x, u.count x ≤ 1) := hidden (fun x => List.nodup_iff_count.1 hn x)
  have HBY := hidden hb
  clear hC hB hown
  go_enter Try.func80, Try.ntmps80
  go_wp2
  go_loopw [1, 5] (fun si sg wr => ∃ g j : Nat, g ≤ 15 ∧ sg = .int .i64 g ∧ si = .int .i64 j ∧ Hid (befG u g + j = i) ∧ j ≤ 256 ∧ Hid (w = wr)) (fun _ sg _ => 16 - (intOf sg).toNat)
  case atStart => exact ⟨0, i, by omega, rfl, rfl, hidden (by rw [HG0.out]; omega), by omega, hidden rfl⟩
  case round =>
    obtain ⟨g, j, hg, rfl, rfl, HI, hj, HW⟩ := hrel
    have HBr : Hid (Has wr lb 109 (blC mb (grpN u))) := hidden (by rw [← HW.out]; exact HB.out)
    have hownr : wr.ownsMap Try.prog 5 (plainElem (H := Unit) Try.prog 3) mb 1048576 D := by rw [← HW.out]; exact HOW.out
    have d0 := HBr.out.cell (1 + g)
    rw [blC_get _ _ _ (by omega)] at d0
    have hl2 := HGl.out (g + 1)
    have HS := hidden (HGS.out g)
    have hgl : grpN u g ≤ 256 := by have := HS.out; omega
    obtain ⟨y, hy⟩ : ∃ y, grpN u g = y := ⟨_, rfl⟩
    rw [hy] at d0 HS hgl
    clear hy hl2
    by_cases hge : y ≤ j
    · have hgI : (y : Int) ≤ j := by omega
      have hg15 : g < 15 := by
        rcases Nat.lt_or_ge g 15 with h | h
        · exact h
        · have : g = 15 := by omega
          subst this
          have h1 := HGA.out
          have h2 : befG u 16 = befG u 15 + y := HS.out
          have h3 := HI.out
          omega
      have HI2 : Hid (befG u (g + 1) + (j - y) = i) := hidden (by have := HS.out; have := HI.out; omega)
      have hjy : (j : Int) - y = ((j - y : Nat) : Int) := by omega
      go_wp2
      go_roundw
      case rel => exact ⟨g + 1, j - y, by omega, by go_num, by first | rfl | rw [hjy], HI2, by omega, HW⟩
      case measure => simp [intOf]; omega
    · have hgI : ¬ (y : Int) ≤ j := by omega
      have HLT : Hid (i < befG u (g + 1)) := hidden (by have := HS.out; have := HI.out; omega)
      have h256 : ((g : Int) * 16) % 256 = (g : Int) * 16 := by omega
      have hcast : (g : Int) * 16 = ((16 * g : Nat) : Int) := by omega
      go_wp2
      clear d0
      go_loopw [1, 6] (fun si sb wq => ∃ b j : Nat, 16 * g ≤ b ∧ b < 16 * g + 16 ∧ sb = .int .u8 b ∧ si = .int .i64 j ∧ Hid (befB u b + j = i) ∧ j ≤ 256 ∧ Hid (w = wq)) (fun _ sb _ => 256 - (intOf sb).toNat)
      case atStart => exact ⟨16 * g, j, Nat.le_refl _, by omega, by go_num, rfl, hidden (by rw [HG.out]; exact HI.out), hj, HW⟩
      case round =>
        obtain ⟨b, j2, hb1, hb2, rfl, rfl, HI2, hj2, HW2⟩ := hrel
        clear hownr HBr
        have HBq : Hid (Has wr lb 109 (blC mb (grpN u))) := hidden (by rw [← HW2.out]; exact HB.out)
        have hownq : wr.ownsMap Try.prog 5 (plainElem (H := Unit) Try.prog 3) mb 1048576 D := by rw [← HW2.out]; exact HOW.out
        have c0 := HBq.out.cell 0
        rw [blC_map] at c0
        have hb256 : b < 256 := by omega
        have HAT := hidden (HC.out b hb256)
        have HS2 := hidden (HBS.out b)
        have hq1 := HCN.out b
        have HPM : Hid (0 < u.count b → b ∈ u) := hidden (fun h => List.count_pos_iff.1 h)
        have hkey := keyB hb256
        obtain ⟨q, hq⟩ : ∃ q, u.count b = q := ⟨_, rfl⟩
        rw [hq] at HAT HS2 hq1 HPM
        clear hq
        by_cases hge2 : q ≤ j2
        · have hqI : (q : Int) ≤ j2 := by omega
          have hbn : b + 1 < 16 * g + 16 := by
            rcases Nat.lt_or_ge (b + 1) (16 * g + 16) with h | h
            · exact h
            · have e : b + 1 = 16 * (g + 1) := by omega
              have h1 := HG.out (g + 1)
              rw [← e] at h1
              have := HLT.out
              have := HS2.out
              have := HI2.out
              omega
          have HI3 : Hid (befB u (b + 1) + (j2 - q) = i) := hidden (by have := HS2.out; have := HI2.out; omega)
          have hjy : (j2 : Int) - q = ((j2 - q : Nat) : Int) := by omega
          have h8 : ((b : Int) + 1) % 256 = (b : Int) + 1 := by omega
          go_wp2_with (at_lookup; refine wpList_lookup_own_int _ rfl _ _ 71 rfl 5 3 .i64 byteKey Try.underlying71 Try.underlying3 (zeroI7 _) mb 1048576 D rfl hownq _ _ rfl hkey ?_; intro c hat hwc; obtain rfl : c = (q : Int) := (by have h1 := hat.symm.trans HAT.out; simpa using h1))
          go_roundw
          case rel => exact ⟨b + 1, j2 - q, by omega, hbn, by go_num, by first | rfl | rw [hjy], HI3, by omega, HW2⟩
          case measure => simp [intOf]; omega
        · have hqI : ¬ (q : Int) ≤ j2 := by omega
          have HEND : Hid (b ∈ u ∧ befB u b = i) := hidden ⟨HPM.out (by omega), by have := HI2.out; omega⟩
          go_wp2_with (at_lookup; refine wpList_lookup_own_int _ rfl _ _ 71 rfl 5 3 .i64 byteKey Try.underlying71 Try.underlying3 (zeroI7 _) mb 1048576 D rfl hownq _ _ rfl hkey ?_; intro c hat hwc; obtain rfl : c = (q : Int) := (by have h1 := hat.symm.trans HAT.out; simpa using h1))
          go_ret
          exact ⟨b, HEND.out.1, hb256, HEND.out.2, rfl, HW2.out⟩
end Go.Proofs.Yteaohgipndmciaa
