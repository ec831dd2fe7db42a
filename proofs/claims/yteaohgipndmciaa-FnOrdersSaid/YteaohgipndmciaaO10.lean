/- Merged: I7X, I7O. -/
import Derived.Test.YteaohgipndmciaaO8
import Derived.Test.YteaohgipndmciaaI6P
import Derived.Test.YteaohgipndmciaaC1WPut
import Derived.Test.YteaohgipndmciaaO2
namespace Go.Proofs.Yteaohgipndmciaa
set_option linter.unusedVariables false
set_option linter.unusedSimpArgs false
open Go.RowKit Go.Maps

theorem len8_zero : Lib.len8 0 = 0 := by decide +kernel
set_option maxHeartbeats 4000000 in
set_option maxRecDepth 100000 in
theorem len64_zero (w : World) : Calls Try.prog 108 #[.int .u64 0] w fun e w' => e = .returned (.int .i64 0) ∧ w' = w := by
  have hz := hidden Lib.len8tab_size
  go_enter Try.func108, Try.ntmps108
  go_wp2
  go_ret
  exact ⟨congrArg Ending.returned (by rw [len8_zero]; exact congrArg (Value.int IntKind.i64) (by decide +kernel : wrap64 (wrap64 0) = 0)), rfl⟩
theorem bitsLen_any (x : Nat) (w : World) (hx : x ≤ 255) :
    Calls Try.prog 98 #[.int .u64 x] w fun e w' => e = .returned (.int .i64 ((if x = 0 then 0 else Nat.log2 x + 1 : Nat) : Int)) ∧ w' = w := by
  have K : Hid (∀ W : World, Calls Try.prog 108 #[.int .u64 x] W fun e w' => e = .returned (.int .i64 ((if x = 0 then 0 else Nat.log2 x + 1 : Nat) : Int)) ∧ w' = W) := hidden (fun W => by
    by_cases h : x = 0
    · subst h; exact len64_zero W
    · rw [if_neg h]
      have := len64_small x W (by omega) (by omega)
      rwa [Int.toNat_natCast] at this)
  obtain ⟨g, hg⟩ : ∃ g, (if x = 0 then 0 else Nat.log2 x + 1) = g := ⟨_, rfl⟩
  rw [hg] at K ⊢
  clear hg
  go_enter Try.func98, Try.ntmps98
  go_wp2_with fail
  refine (K.out _).mono ?_
  rintro e w1 ⟨rfl, rfl⟩
  go_wp2
  go_ret
  exact ⟨rfl, rfl⟩
theorem indexBits_any (lb mb : Nat) (u : List Nat) (w : World) (h : BL w lb mb u) (hu : u.Nodup) (hb : Byt u) (h0 : u ≠ []) :
    Calls Try.prog 72 #[.pointer (some ⟨lb, 0, none⟩)] w fun e w' => e = .returned (.int .i64 (needB u.length : Int)) ∧ w = w' := by
  have hl := nodup_256 hb hu
  have hp : 0 < u.length := List.length_pos_iff.2 h0
  have KS := hidden (size_any lb mb u w h hu hb)
  have KL := hidden (fun W => bitsLen_any (u.length - 1) W (by omega))
  have HE : Hid ((if u.length - 1 = 0 then 0 else Nat.log2 (u.length - 1) + 1) = needB u.length) := hidden (by
    unfold needB
    by_cases h1 : u.length ≤ 1
    · rw [if_pos h1, if_pos (by omega)]
    · rw [if_neg h1, if_neg (by omega)])
  rw [HE.out] at KL
  obtain ⟨m, hm⟩ : ∃ m, u.length = m + 1 := ⟨u.length - 1, by omega⟩
  obtain ⟨g, hg⟩ : ∃ g, needB u.length = g := ⟨_, rfl⟩
  rw [hg] at KL ⊢
  rw [hm] at KS KL
  have hm256 : m ≤ 255 := by omega
  rw [Nat.add_sub_cancel] at KL
  clear hg hm HE h h0 hp hl
  go_enter Try.func72, Try.ntmps72
  go_wp2_with fail
  refine KS.out.mono ?_
  rintro e w1 ⟨rfl, rfl⟩
  have h1 : ((m + 1 : Nat) : Int) - 1 = (m : Int) := by omega
  go_wp2_with fail
  refine (KL.out _).mono ?_
  rintro e w1 ⟨rfl, rfl⟩
  go_wp2
  go_ret
  exact ⟨rfl, rfl⟩
theorem arr16 : Try.prog.arrayLen 60 = 16 := by kernel_rfl
theorem elem16 : Try.prog.elem 60 = 3 := by kernel_rfl
theorem und16 : Try.prog.underlying 60 = some (.array (Try.prog.arrayLen 60) (Try.prog.elem 60)) := by kernel_rfl
theorem size16 (w : World) : (sizeOf 3).run Try.prog w = .ok 1 w := by kernel_rfl
theorem slice16 (lb b : Nat) (hb : b < 256) (w : World) : (Instr.sliceAt 60 (.pointer (some ⟨lb, 1, none⟩)) none (some (.int .u8 ((b : Int) / 16))) none).run Try.prog w = .ok (.slice (some ⟨lb, 1, none⟩) (b / 16) 16) w := by
  rw [run_sliceAt_array_h w 60 _ und16 .u8 _ (by omega) (by rw [arr16]; omega), elem16, size16, arr16]
  have : ((b : Int) / 16).toNat = b / 16 := by omega
  simp [slicedAt, Result.andThen, Addr.add, this]
set_option maxHeartbeats 1000000 in
set_option maxRecDepth 100000 in
theorem indexOf_any (lb mb b : Nat) (u : List Nat) (w : World) (h : BL w lb mb u) (hb : b < 256) (hul : u.length ≤ 256) :
    Calls Try.prog 71 #[.pointer (some ⟨lb, 0, none⟩), .int .u8 b] w fun e w' => e = .returned (.int .i64 (befB u b : Int)) ∧ w = w' := by
  obtain ⟨hB, D, hown, hC⟩ := h
  have HC := hidden hC.2.2.1
  have hlb := hB.lt
  have c0 := hB.cell 0
  rw [blC_map] at c0
  have HB := hidden hB
  have HGS := hidden (befG_succ u)
  have HBS := hidden (befB_succ u)
  have HG := hidden (befB_group u)
  have HGl := hidden (befG_le u)
  have HBl := hidden (befB_le u)
  have HG0 := hidden (befG_zero u)
  have hq16 : b / 16 ≤ 16 := by omega
  have hq16I : (b : Int) / 16 ≤ 16 := by omega
  have HOW := hidden hown
  clear hC hB hown c0
  go_enter Try.func71, Try.ntmps71
  have hsl := slice16 lb b hb
  go_wp2
  go_loopw [5, 7, 16] (fun si _ sk wr => ∃ k : Nat, k ≤ b / 16 ∧ sk = .int .i64 k ∧ si = .int .i64 (befG u k : Int) ∧ Hid (w = wr)) (fun _ _ sk _ => b / 16 - (intOf sk).toNat)
  case atStart => exact ⟨0, by omega, rfl, by rw [HG0.out]; rfl, hidden rfl⟩
  case round =>
    obtain ⟨k, hk, rfl, rfl, HW⟩ := hrel
    have HBr : Hid (Has wr lb 109 (blC mb (grpN u))) := hidden (by rw [← HW.out]; exact HB.out)
    have hownr : wr.ownsMap Try.prog 5 (plainElem (H := Unit) Try.prog 3) mb 1048576 D := by rw [← HW.out]; exact HOW.out
    have c0 := HBr.out.cell 0
    rw [blC_map] at c0
    have hl1 := HGl.out k
    have hl2 := HGl.out (k + 1)
    by_cases hlt : k < b / 16
    · have d0 := HBr.out.cell (1 + k)
      rw [blC_get _ _ _ (by omega)] at d0
      have HS := hidden (HGS.out k)
      obtain ⟨x, hx⟩ : ∃ x, befG u k = x := ⟨_, rfl⟩
      obtain ⟨y, hy⟩ : ∃ y, grpN u k = y := ⟨_, rfl⟩
      rw [hx, hy] at HS
      rw [HS.out] at hl2
      rw [hx] at hl1 ⊢
      rw [hy] at d0
      clear hx hy
      go_wp2
      go_roundw
      case rel => exact ⟨k + 1, by omega, by go_num, by rw [HS.out]; go_num, HW⟩
      case measure => simp [intOf]; omega
    · have hkn : k = b / 16 := by omega
      subst hkn
      rw [← HG.out] at hl1 ⊢
      have hsub : (b : Int) - (b : Int) % 16 = ((16 * (b / 16) : Nat) : Int) := by omega
      clear hl2
      go_wp2
      go_loopw [5, 8] (fun si sx wq => ∃ x : Nat, 16 * (b / 16) ≤ x ∧ x ≤ b ∧ sx = .int .u8 x ∧ si = .int .i64 (befB u x : Int) ∧ Hid (w = wq)) (fun _ sx _ => b - (intOf sx).toNat)
      case atStart => exact ⟨16 * (b / 16), Nat.le_refl _, by omega, rfl, rfl, HW⟩
      case round =>
        obtain ⟨x, hx1, hx2, rfl, rfl, HW2⟩ := hrel
        clear c0 hownr HBr
        have HBq : Hid (Has wr lb 109 (blC mb (grpN u))) := hidden (by rw [← HW2.out]; exact HB.out)
        have hownq : wr.ownsMap Try.prog 5 (plainElem (H := Unit) Try.prog 3) mb 1048576 D := by rw [← HW2.out]; exact HOW.out
        have c0 := HBq.out.cell 0
        rw [blC_map] at c0
        have hm1 := HBl.out x
        have hm2 := HBl.out (x + 1)
        by_cases hlt2 : x < b
        · have hxI : (x : Int) < b := by omega
          have hx256 : x < 256 := by omega
          have HS := hidden (HBS.out x)
          have HAT := hidden (HC.out x hx256)
          have hkey := keyB hx256
          obtain ⟨p, hp⟩ : ∃ p, befB u x = p := ⟨_, rfl⟩
          obtain ⟨q, hq⟩ : ∃ q, u.count x = q := ⟨_, rfl⟩
          rw [hp, hq] at HS
          rw [HS.out] at hm2
          rw [hq] at HAT
          rw [hp] at hm1 ⊢
          have hx8 : ((x : Int) + 1) % 256 = (x : Int) + 1 := by omega
          clear hp hq
          go_wp2_with (at_lookup; refine wpList_lookup_own_int _ rfl _ _ 71 rfl 5 3 .i64 byteKey Try.underlying71 Try.underlying3 (zeroI7 _) mb 1048576 D rfl hownq _ _ rfl hkey ?_; intro c hat hwc; obtain rfl : c = (q : Int) := (by have h1 := hat.symm.trans HAT.out; simpa using h1))
          go_roundw
          case rel =>
            repeat apply Exists.intro
            refine ⟨?_, rfl⟩
            exact ⟨x + 1, by omega, by omega, by go_num, by rw [HS.out]; go_num, HW2⟩
          case measure => simp [intOf]; omega
        · have hxb : x = b := by omega
          subst hxb
          go_wp2
          go_ret
          exact ⟨rfl, HW2.out⟩

theorem at_bef {u : List Nat} (hb : Byt u) {i : Nat} (hi : i < u.length) : ∃ g, g < 16 ∧ befG u g ≤ i ∧ i < befG u (g + 1) := by
  have h16 : i < befG u 16 := by rw [befG_all hb]; exact hi
  have key : ∀ n, i < befG u n → ∃ g, g < n ∧ befG u g ≤ i ∧ i < befG u (g + 1) := by
    intro n
    induction n with
    | zero => intro h; rw [befG_zero] at h; omega
    | succ n ih =>
      intro h
      by_cases h2 : i < befG u n
      · obtain ⟨g, hg, h3⟩ := ih h2
        exact ⟨g, by omega, h3⟩
      · exact ⟨n, by omega, by omega, h⟩
  exact key 16 h16
set_option maxHeartbeats 1000000 in
set_option maxRecDepth 100000 in
theorem at_any (lb mb i : Nat) (u : List Nat) (w : World) (h : BL w lb mb u) (hn : u.Nodup) (hb : Byt u) (hi : i < u.length) :
    Calls Try.prog 80 #[.pointer (some ⟨lb, 0, none⟩), .int .i64 i] w fun e w' => ∃ b, b ∈ u ∧ b < 256 ∧ befB u b = i ∧ e = .returned (.int .u8 (b : Int)) ∧ w = w' := by
  obtain ⟨hB, D, hown, hC⟩ := h
  have hul := nodup_256 hb hn
  have HC := hidden hC.2.2.1
  have hlb := hB.lt
  have HB := hidden hB
  have HOW := hidden hown
  have HGS := hidden (befG_succ u)
  have HBS := hidden (befB_succ u)
  have HG := hidden (befB_group u)
  have HGA := hidden (befG_all hb)
  have HG0 := hidden (befG_zero u)
  have HGl := hidden (befG_le u)
  have HCN : Hid (∀ x, u.count x ≤ 1) := hidden (fun x => List.nodup_iff_count.1 hn x)
  have HBY := hidden hb
  clear hC hB hown
  go_enter Try.func80, Try.ntmps80
  go_wp2
  go_loopw [1, 5] (fun si sg wr => ∃ g j : Nat, g ≤ 15 ∧ sg = .int .i64 g ∧ si = .int .i64 j ∧ Hid (befG u g + j = i) ∧ j ≤ 256 ∧ Hid (w = wr)) (fun _ sg _ => 16 - (intOf sg).toNat)
  case atStart => exact ⟨0, i, by omega, rfl, rfl, hidden (by rw [HG0.out]; omega), by omega, hidden rfl⟩
  case round =>
    obtain ⟨g, j, hg, rfl, rfl, HI, hj, HW⟩ := hrel
    have HBr : Hid (Has wr lb 109 (blC mb (grpN u))) := hidden (by rw [← HW.out]; exact HB.out)
    have hownr : wr.ownsMap Try.prog 5 (plainElem (H := Unit) Try.prog 3) mb 1048576 D := by rw [← HW.out]; exact HOW.out
    have d0 := HBr.out.cell (1 + g)
    rw [blC_get _ _ _ (by omega)] at d0
    have hl2 := HGl.out (g + 1)
    have HS := hidden (HGS.out g)
    have hgl : grpN u g ≤ 256 := by have := HS.out; omega
    obtain ⟨y, hy⟩ : ∃ y, grpN u g = y := ⟨_, rfl⟩
    rw [hy] at d0 HS hgl
    clear hy hl2
    by_cases hge : y ≤ j
    · have hgI : (y : Int) ≤ j := by omega
      have hg15 : g < 15 := by
        rcases Nat.lt_or_ge g 15 with h | h
        · exact h
        · have : g = 15 := by omega
          subst this
          have h1 := HGA.out
          have h2 : befG u 16 = befG u 15 + y := HS.out
          have h3 := HI.out
          omega
      have HI2 : Hid (befG u (g + 1) + (j - y) = i) := hidden (by have := HS.out; have := HI.out; omega)
      have hjy : (j : Int) - y = ((j - y : Nat) : Int) := by omega
      go_wp2
      go_roundw
      case rel => exact ⟨g + 1, j - y, by omega, by go_num, by first | rfl | rw [hjy], HI2, by omega, HW⟩
      case measure => simp [intOf]; omega
    · have hgI : ¬ (y : Int) ≤ j := by omega
      have HLT : Hid (i < befG u (g + 1)) := hidden (by have := HS.out; have := HI.out; omega)
      have h256 : ((g : Int) * 16) % 256 = (g : Int) * 16 := by omega
      have hcast : (g : Int) * 16 = ((16 * g : Nat) : Int) := by omega
      go_wp2
      clear d0
      go_loopw [1, 6] (fun si sb wq => ∃ b j : Nat, 16 * g ≤ b ∧ b < 16 * g + 16 ∧ sb = .int .u8 b ∧ si = .int .i64 j ∧ Hid (befB u b + j = i) ∧ j ≤ 256 ∧ Hid (w = wq)) (fun _ sb _ => 256 - (intOf sb).toNat)
      case atStart => exact ⟨16 * g, j, Nat.le_refl _, by omega, by go_num, rfl, hidden (by rw [HG.out]; exact HI.out), hj, HW⟩
      case round =>
        obtain ⟨b, j2, hb1, hb2, rfl, rfl, HI2, hj2, HW2⟩ := hrel
        clear hownr HBr
        have HBq : Hid (Has wr lb 109 (blC mb (grpN u))) := hidden (by rw [← HW2.out]; exact HB.out)
        have hownq : wr.ownsMap Try.prog 5 (plainElem (H := Unit) Try.prog 3) mb 1048576 D := by rw [← HW2.out]; exact HOW.out
        have c0 := HBq.out.cell 0
        rw [blC_map] at c0
        have hb256 : b < 256 := by omega
        have HAT := hidden (HC.out b hb256)
        have HS2 := hidden (HBS.out b)
        have hq1 := HCN.out b
        have HPM : Hid (0 < u.count b → b ∈ u) := hidden (fun h => List.count_pos_iff.1 h)
        have hkey := keyB hb256
        obtain ⟨q, hq⟩ : ∃ q, u.count b = q := ⟨_, rfl⟩
        rw [hq] at HAT HS2 hq1 HPM
        clear hq
        by_cases hge2 : q ≤ j2
        · have hqI : (q : Int) ≤ j2 := by omega
          have hbn : b + 1 < 16 * g + 16 := by
            rcases Nat.lt_or_ge (b + 1) (16 * g + 16) with h | h
            · exact h
            · have e : b + 1 = 16 * (g + 1) := by omega
              have h1 := HG.out (g + 1)
              rw [← e] at h1
              have := HLT.out
              have := HS2.out
              have := HI2.out
              omega
          have HI3 : Hid (befB u (b + 1) + (j2 - q) = i) := hidden (by have := HS2.out; have := HI2.out; omega)
          have hjy : (j2 : Int) - q = ((j2 - q : Nat) : Int) := by omega
          have h8 : ((b : Int) + 1) % 256 = (b : Int) + 1 := by omega
          go_wp2_with (at_lookup; refine wpList_lookup_own_int _ rfl _ _ 71 rfl 5 3 .i64 byteKey Try.underlying71 Try.underlying3 (zeroI7 _) mb 1048576 D rfl hownq _ _ rfl hkey ?_; intro c hat hwc; obtain rfl : c = (q : Int) := (by have h1 := hat.symm.trans HAT.out; simpa using h1))
          go_roundw
          case rel => exact ⟨b + 1, j2 - q, by omega, hbn, by go_num, by first | rfl | rw [hjy], HI3, by omega, HW2⟩
          case measure => simp [intOf]; omega
        · have hqI : ¬ (q : Int) ≤ j2 := by omega
          have HEND : Hid (b ∈ u ∧ befB u b = i) := hidden ⟨HPM.out (by omega), by have := HI2.out; omega⟩
          go_wp2_with (at_lookup; refine wpList_lookup_own_int _ rfl _ _ 71 rfl 5 3 .i64 byteKey Try.underlying71 Try.underlying3 (zeroI7 _) mb 1048576 D rfl hownq _ _ rfl hkey ?_; intro c hat hwc; obtain rfl : c = (q : Int) := (by have h1 := hat.symm.trans HAT.out; simpa using h1))
          go_ret
          exact ⟨b, HEND.out.1, hb256, HEND.out.2, rfl, HW2.out⟩
end Go.Proofs.Yteaohgipndmciaa
namespace Go.Proofs.Yteaohgipndmciaa
set_option linter.unusedVariables false
set_option linter.unusedSimpArgs false
open Go.RowKit Go.Maps

theorem CntAt.isMap {W : World} {b n : Nat} {f : Nat → Nat} (h : CntAt W b n f) : ∃ es c, W.heap[b]? = some (.map es c) := by
  obtain ⟨D, ⟨es, c, hh, _⟩, _⟩ := h
  exact ⟨es, c, hh⟩
theorem CntAt.keeps {W W' : World} {b n g : Nat} {f : Nat → Nat} (h : CntAt W b n f) (hk : Keeps g W W') (hne : b ≠ g) : CntAt W' b n f := by
  obtain ⟨D, ⟨es, c, hh, hr⟩, h2⟩ := h
  exact ⟨D, ⟨es, c, hk b _ hne (fun cs fr e => by cases e) hh, hr⟩, h2⟩
theorem BL.keeps {W W' : World} {lb mb g : Nat} {u : List Nat} (h : BL W lb mb u) (hk : Keeps g W W') (h1 : lb ≠ g) (h2 : mb ≠ g) : BL W' lb mb u :=
  ⟨hk.has h1 (by decide) h.1, h.2.keeps hk h2⟩
theorem Writes.two {w w' : World} {base g lb mb : Nat} {l u : List Nat} (h : Writes w base g l) (hB : BL w lb mb u) (ht : Two lb mb w w') (h1 : g ≠ lb) (h2 : g ≠ mb) : Writes w' base g l := by
  obtain ⟨v, D, hH, hR, hP, hn⟩ := h
  refine ⟨v, D, ht.has hH h1 h2, hR.keep fun q hq => ht.2.2.2.2 q (hR.lt q hq).2 ?_ ?_, hP, hn⟩
  · intro e
    exact hR.neHas hB.1 (by decide) (by rw [hq, e])
  · intro e
    obtain ⟨es, c, hm⟩ := hB.2.isMap
    exact hR.notOther (fun cs fr e => by cases e) hm (by rw [hq, e])
theorem writes_len {l : List Nat} {k m : Nat} : (l ++ nbits k m).length = l.length + m := by rw [List.length_append, nbits_len]
set_option maxHeartbeats 2000000 in
set_option maxRecDepth 100000 in
theorem implPutOrder_yes (s : ByteArray) (w : World) (hs : s.size ≤ 1048576) (hok : ordOk (bytesOf s) = true) :
    Calls Try.prog 21 #[.string s] w fun e w' => ∃ D, Packs D (putO (usedL (bytesOf s)) (bytesOf s)) ∧ e = .returned (.tuple #[.agg #[.string (strOf D), .int .i64 ((putO (usedL (bytesOf s)) (bytesOf s)).length : Int)], .bool true]) ∧ Below w.heap.size w w' := by
  have bb : Below w.heap.size w (w.alloc (.cells #[.string ⟨#[]⟩, .int .i64 0] 25)) := (Below.refl _ _).alloc (Nat.le_refl _) _
  have hR := Has.fresh w 25 #[.string ⟨#[]⟩, .int .i64 0]
  have hnd := ((ordOk_iff _).1 hok).2
  have hs256 : s.size ≤ 256 := by rw [← bytesOf_len]; exact nodup_256 (byt_bytesOf s) hnd
  have K0 := hidden (fun W => implOrderOk_any s W hs)
  rw [hok] at K0
  have K4 := hidden (fun (W : World) => writerOf_any ⟨#[]⟩ 0 W (by decide))
  have KL := hidden (fun W => listOf_any s W hs)
  have HX := hidden (drop_at s)
  have HLn := hidden (bytesOf_len s)
  have HP0 := hidden (used_perm (byt_bytesOf s) hnd)
  have HAs := hidden (usedL_asc (bytesOf s))
  have HB := hidden (byt_bytesOf s)
  have HND := hidden hnd
  obtain ⟨O, hO⟩ : ∃ O, bytesOf s = O := ⟨_, rfl⟩
  rw [hO] at KL HX HLn HP0 HAs HB HND ⊢
  obtain ⟨A, hA⟩ : ∃ A, putO (usedL O) O = A := ⟨_, rfl⟩
  have HA := hidden hA
  rw [hA]
  clear hA hnd hok hO
  go_enter Try.func21, Try.ntmps21
  go_wp2_with fail
  refine (K0.out _).mono ?_
  rintro e w1 ⟨rfl, b1⟩
  replace bb := bel_then b1 bb.size bb
  replace hR := hR.below b1 hR.lt
  have hs1 := bb.size
  have hRl1 := hR.lt
  clear b1
  go_wp2_with fail
  refine (K4.out _).mono ?_
  rintro e w2 ⟨g, rfl, hW2, hg2, b2⟩
  replace bb := bel_then b2 hs1 bb
  replace hR := hR.below b2 hR.lt
  have hs2 := bb.size
  have hs12 := b2.size
  rw [show row ⟨#[]⟩ 0 0 = [] from rfl] at hW2
  obtain ⟨base, hbase⟩ : ∃ base, w1.heap.size = base := ⟨_, rfl⟩
  rw [hbase] at hW2 hg2 hs12 hRl1 hs1
  have hgl2 := hW2.lt
  clear b2
  go_wp2_with fail
  refine (KL.out _).mono ?_
  rintro e w3 ⟨lb, rfl, hlb, hBL, b3⟩
  replace bb := bel_then b3 hs2 bb
  replace hR := hR.below b3 hR.lt
  have hW3 := hW2.below b3
  have hs3 := b3.size
  obtain ⟨mb, hmb⟩ : ∃ mb, w2.heap.size = mb := ⟨_, rfl⟩
  rw [hmb] at hBL hlb hs3 hgl2
  have hbm : base ≤ mb := by omega
  have hgm : g < mb := hgl2
  have hHb : w.heap.size < base := hRl1
  clear b3 hW2 hmb hs12 hs1 hs2
  go_wp2
  go_loopw [6, 17] (fun _ si wr => ∃ (i : Nat) (P D : List Nat), i ≤ s.size ∧ si = .int .i64 i ∧ Hid (A = D ++ putO P (O.drop i)) ∧ Hid (P.Perm (O.drop i)) ∧ Hid (P.Pairwise (· < ·)) ∧ D.length ≤ 8 * i ∧ Writes wr base g D ∧ BL wr lb mb (O.drop i) ∧ Has wr w.heap.size 25 #[.string ⟨#[]⟩, .int .i64 0] ∧ Below w.heap.size w wr ∧ base ≤ wr.heap.size) (fun _ si _ => s.size - (intOf si).toNat)
  case atStart => exact ⟨0, usedL O, [], by omega, rfl, hidden (by rw [← HA.out]; rfl), HP0, HAs, by simp, hW3, by simpa using hBL, hR, bb, by omega⟩
  case round =>
    obtain ⟨i, P, D, hi2, rfl, HD, HP, HPA, hDl, hW, hL, hR, hbl, hsz⟩ := hrel
    clear bb hBL hW3
    by_cases hlt : i < s.size
    · obtain ⟨x, hx⟩ : ∃ x, s[i].toNat = x := ⟨_, rfl⟩
      have hx256 : x < 256 := by rw [← hx]; exact UInt8.toNat_lt _
      have hdr := HX.out i hlt
      rw [hx] at hdr
      have hdn : (O.drop i).Nodup := HND.out.sublist (List.drop_sublist i O)
      have hdb : Byt (O.drop i) := fun b hb => HB.out b (List.mem_of_mem_drop hb)
      have hxd : x ∈ O.drop i := by rw [hdr]; exact List.mem_cons_self ..
      have hxP : x ∈ P := HP.out.mem_iff.2 hxd
      have hdl : (O.drop i).length ≤ 256 := nodup_256 hdb hdn
      have hk := idx_lt hxP
      have hPl := HP.out.length_eq
      have hbef : befB (O.drop i) x = P.idxOf x := by rw [idx_bef HPA.out hxP, befB_perm HP.out]
      have KI := hidden (indexOf_any lb mb x (O.drop i) wr hL hx256 hdl)
      rw [hbef] at KI
      have KB := hidden (indexBits_any lb mb (O.drop i) wr hL hdn hdb (by rw [hdr]; simp))
      rw [← hPl] at KB hdl
      have hup := need_up P.length
      have hnd8 := need_le P.length hdl
      have her : (O.drop i).erase x = O.drop (i + 1) := by rw [hdr, List.erase_cons_head]
      have KR := hidden (fun (W : World) (h : BL W lb mb (O.drop i)) => remove_any lb mb x (O.drop i) W h hdn hxd hx256 (by omega) (by omega))
      rw [her] at KR
      obtain ⟨k, hkk⟩ : ∃ k, P.idxOf x = k := ⟨_, rfl⟩
      obtain ⟨m, hmm⟩ : ∃ m, needB P.length = m := ⟨_, rfl⟩
      have hE : Hid (putO P (x :: O.drop (i + 1)) = nbits k m ++ putO (P.erase x) (O.drop (i + 1))) := hidden (by rw [putO, hkk, hmm])
      have HP2 : Hid ((P.erase x).Perm (O.drop (i + 1))) := hidden (by have := HP.out.erase x; rwa [her] at this)
      have HPA2 : Hid ((P.erase x).Pairwise (· < ·)) := hidden (HPA.out.sublist List.erase_sublist)
      rw [hkk] at KI hk
      rw [hmm] at KB hup hnd8
      have hkm : k < 2 ^ m := by omega
      have HD2 : Hid (A = (D ++ nbits k m) ++ putO (P.erase x) (O.drop (i + 1))) := hidden (by rw [HD.out, hdr, hE.out, List.append_assoc])
      have KPut := hidden (put_any g base D k m wr hW hg2 hsz (by omega) hkm (by omega))
      have HW := hidden hW
      have HL := hidden hL
      clear hkk hmm hbef hdr hdn hdb hxd hxP hdl hk hPl hup her hW hL hkm
      go_wp2_with fail
      refine KI.out.mono ?_
      rintro e w4 ⟨rfl, rfl⟩
      go_wp2_with fail
      refine KB.out.mono ?_
      rintro e w5 ⟨rfl, rfl⟩
      go_wp2_with fail
      refine KPut.out.mono ?_
      rintro e w6 ⟨rfl, hW6, b6, hK6⟩
      have hL6 := HL.out.keeps hK6 (by omega) (by omega)
      have hR6 := hR.below b6 hHb
      have hbl6 : Below w.heap.size w w6 := hbl.trans (b6.mono (by omega))
      have hs6 := b6.size
      clear hR hbl hK6 b6
      go_wp2_with fail
      refine (KR.out _ hL6).mono ?_
      rintro e w7 ⟨rfl, hL7, ht7⟩
      have hW7 := hW6.two hL6 ht7 (by omega) (by omega)
      have hR7 := ht7.has hR6 (by omega) (by omega)
      have hbl7 : Below w.heap.size w w7 := hbl6.trans ((ht7.below (B := base) (by omega) (by omega) (by omega)).mono (by omega))
      have hs7 := ht7.2.2.2.1
      clear hL6 hW6 hR6 hbl6 ht7
      go_wp2
      go_roundw
      case rel => exact ⟨i + 1, P.erase x, D ++ nbits k m, by omega, by go_num, HD2, HP2, HPA2, by rw [writes_len]; omega, hW7, hL7, hR7, hbl7, by omega⟩
      case measure => simp [intOf]; omega
    · have hie : i = s.size := by omega
      have HF : Hid (D = A) := hidden (by rw [HD.out, hie, ← HLn.out, List.drop_length, putO, List.append_nil])
      subst hie
      have KF := hidden (bits_any g base D wr hW)
      rw [HF.out] at KF
      clear hW hL
      go_wp2_with fail
      refine KF.out.mono ?_
      rintro e w7 ⟨E, hE, rfl, b7⟩
      have hbs := hbl.size
      have bb7 := bel_then b7 hbs hbl
      have hR7 := hR.below b7 hR.lt
      have e0 := hR7.cell 0
      have e1 := hR7.cell 1
      have g0 := hR7.free 0
      have g1 := hR7.free 1
      simp at e0 e1
      have hs7 := bb7.size
      clear b7 hR hR7
      go_wp2
      refine bodyPost_ret (v := .tuple #[.agg #[.string (strOf E), .int .i64 (A.length : Int)], .bool true]) (by simp [results, Try.results21, go_sem, e0, e1, g0, g1]) rfl ⟨E, hE, rfl, ?_⟩
      repeat (first | exact Below.refl _ _ | assumption | refine Below.alloc ?_ (by (try simp); (try omega)) _ | refine Below.setCell ?_ (by (try simp); (try omega)) _ | refine Below.drew ?_ | refine bel_then (by assumption) (by (try simp); (try omega)) ?_)
theorem implPutOrder_no (s : ByteArray) (w : World) (hs : s.size ≤ 1048576) (hok : ordOk (bytesOf s) = false) :
    Calls Try.prog 21 #[.string s] w fun e w' => e = .returned (.tuple #[.agg #[.string ⟨#[]⟩, .int .i64 0], .bool false]) ∧ Below w.heap.size w w' := by
  have bb : Below w.heap.size w (w.alloc (.cells #[.string ⟨#[]⟩, .int .i64 0] 25)) := (Below.refl _ _).alloc (Nat.le_refl _) _
  have hR := Has.fresh w 25 #[.string ⟨#[]⟩, .int .i64 0]
  have K0 := hidden (fun W => implOrderOk_any s W hs)
  rw [hok] at K0
  go_enter Try.func21, Try.ntmps21
  go_wp2_with fail
  refine (K0.out _).mono ?_
  rintro e w2 ⟨rfl, b2⟩
  replace bb := bel_then b2 bb.size bb
  replace hR := hR.below b2 hR.lt
  have hs2 := bb.size
  have e0 := hR.cell 0
  have e1 := hR.cell 1
  have g0 := hR.free 0
  have g1 := hR.free 1
  simp at e0 e1
  clear b2 hR
  go_wp2
  refine bodyPost_ret (v := .tuple #[.agg #[.string ⟨#[]⟩, .int .i64 0], .bool false]) (by simp [results, Try.results21, go_sem, e0, e1, g0, g1]) rfl ⟨rfl, ?_⟩
  repeat (first | exact Below.refl _ _ | assumption | refine Below.alloc ?_ (by (try simp); (try omega)) _ | refine Below.setCell ?_ (by (try simp); (try omega)) _ | refine Below.drew ?_ | refine bel_then (by assumption) (by (try simp); (try omega)) ?_)
end Go.Proofs.Yteaohgipndmciaa
