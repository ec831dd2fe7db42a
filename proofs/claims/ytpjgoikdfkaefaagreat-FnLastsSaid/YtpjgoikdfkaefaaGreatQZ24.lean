/- Merged: I10A, I10B, I10C, I10D, I10U. -/
import Derived.Test.YtpjgoikdfkaefaaGreatQZ11
import Derived.Test.YtpjgoikdfkaefaaGreatQZ6
import Derived.Test.YtpjgoikdfkaefaaGreatQZ7
import Derived.Test.YtpjgoikdfkaefaaGreatQZ18
import Derived.Test.YtpjgoikdfkaefaaGreatQZ15
import Derived.Test.YtpjgoikdfkaefaaGreatQZ21
namespace Go.Proofs.YtpjgoikdfkaefaaGreat
set_option linter.unusedVariables false
set_option linter.unusedSimpArgs false
open Go.RowKit

theorem Fs.ofOwn {w : World} {base g n cap : Nat} {f : Nat → Nat} (h : w.ownsRow base 3 1 (.slice (some ⟨g, 0, none⟩) n cap) n (nats n f)) : Fs w g n cap f := by
  obtain ⟨h1, h2⟩ := h
  rcases h2 with ⟨h2, _⟩ | ⟨g', cap', cur, hv, hb, hg, hn, hm, hc, ht⟩
  · cases h2
  · injection hv with e1 e2 e3
    injection e1 with e1
    injection e1 with e1
    subst e1 e3
    refine ⟨hn, cur, hg, by rw [hc, Nat.mul_one], fun j hj => ?_⟩
    have h3 : (nats n f)[j]? = some (.int .i64 (f j : Int)) := nats_get n f j hj
    rw [← ht, Nat.mul_one, List.getElem?_take_of_lt hj] at h3
    rw [← Array.getElem?_toList]
    exact h3
theorem Fs.own {w : World} {base g n cap : Nat} {f : Nat → Nat} (h : Fs w g n cap f) (hb : base ≤ g) (hm : cap ≤ maxLen) : w.ownsRow base 3 1 (.slice (some ⟨g, 0, none⟩) n cap) n (nats n f) := by
  obtain ⟨h1, cur, h2, h3, h4⟩ := h
  refine ⟨by rw [nats_len, Nat.mul_one], .inr ⟨g, cap, cur, rfl, hb, h2, h1, hm, by rw [h3, Nat.mul_one], ?_⟩⟩
  apply List.ext_getElem?
  intro j
  rw [Nat.mul_one]
  rcases Nat.lt_or_ge j n with hj | hj
  · rw [List.getElem?_take_of_lt hj, Array.getElem?_toList, h4 j hj, nats_get n f j hj]
  · rw [List.getElem?_eq_none (by simp; omega), List.getElem?_eq_none (by rw [nats_len]; exact hj)]
theorem nats_lF (n : Nat) (f : Nat → Nat) : nats n f = natsL (lF n f) := by
  unfold nats natsL lF
  rw [List.map_map]
  rfl
theorem byte_get10 (s : ByteArray) (k : Nat) (h : k < s.size) : (bytesOf s).getD k 0 = s[k].toNat := by
  rw [bytesOf_get]; unfold byteAt; simp [h]; rfl
set_option maxHeartbeats 1000000 in
theorem isBlock_any (s : ByteArray) (w : World) (hs : s.size ≤ 1048576) : Calls Tryz.prog 13 #[.string s] w fun e w' => e = .returned (.bool (decide (0 < s.size ∧ s.size ≤ 600))) ∧ w = w' := by
  go_enter Tryz.func13, Tryz.ntmps13
  by_cases h1 : (1 : Int) ≤ (s.size : Int)
  · by_cases h2 : (s.size : Int) ≤ 600
    · go_wp2
      go_ret
      exact ⟨ret_bool (by symm; simp; omega), rfl⟩
    · go_wp2
      go_ret
      exact ⟨ret_bool (by symm; simp; omega), rfl⟩
  · go_wp2
    go_ret
    exact ⟨ret_bool (by symm; simp; omega), rfl⟩
set_option maxHeartbeats 2000000 in
set_option maxRecDepth 100000 in
theorem rotCmp_any (s : ByteArray) (tb sb x y : Nat) (w : World) (h6 : s.size ≤ 600) (ht : w.cell? ⟨tb, 0, none⟩ = some (.string (s ++ s))) (hb : w.cell? ⟨sb, 0, none⟩ = some (.string s)) (hx : x < s.size) (hy : y < s.size) :
    Calls Tryz.prog 47 #[.int .i64 (x : Int), .int .i64 (y : Int), .pointer (some ⟨tb, 0, none⟩), .pointer (some ⟨sb, 0, none⟩)] w fun e w' => e = .returned (.int .i64 (cfR s x y)) ∧ ∃ q, w' = w.drewN q := by
  have hl : (s ++ s).size = s.size + s.size := by simp
  have hsl : ∀ k, k < s.size → ∃ X : ByteArray, X.data.toList = rotU s k ∧ ∀ W : World, (Instr.slice 9 (.string (s ++ s)) (some (.int .i64 (k : Int))) (some (.int .i64 ((k : Int) + (s.size : Int)))) none).run Tryz.prog W = .ok (.string X) W :=
    fun k hk => ⟨(s ++ s).extract (k : Int).toNat ((k : Int) + (s.size : Int)).toNat, by rw [show ((k : Int) + (s.size : Int)).toNat = k + s.size by omega, Int.toNat_natCast]; rfl,
      fun W => run_slice_string (P := Tryz.prog) W 9 (s ++ s) .i64 .i64 (k : Int) ((k : Int) + (s.size : Int)) Tryz.underlying9 (by omega) (by omega) (by omega)⟩
  obtain ⟨X, hX, hX2⟩ := hsl x hx
  obtain ⟨Y, hY, hY2⟩ := hsl y hy
  have KC := hidden (fun W => compare10_any X Y W)
  rw [hX, hY] at KC
  have HC : Hid (cfR s x y = if Lib.compareBytes (rotU s x) (rotU s y) = 0 then (y : Int) - (x : Int) else Lib.compareBytes (rotU s x) (rotU s y)) := hidden rfl
  obtain ⟨c, hc⟩ : ∃ c, Lib.compareBytes (rotU s x) (rotU s y) = c := ⟨_, rfl⟩
  rw [hc] at KC HC
  obtain ⟨T, hT⟩ : ∃ T, s ++ s = T := ⟨_, rfl⟩
  rw [hT] at ht hX2 hY2
  clear hc hl hsl hX hY hT
  go_enter Tryz.func47, Tryz.ntmps47
  go_wp2
  go_big_quiet ((go_at_call 48; first | exact quiet_l (KC.out _) | exact quiet_add_l (KC.out _)))
  by_cases h0 : c = 0
  · subst h0
    have HC2 : Hid (cfR s x y = (y : Int) - (x : Int)) := hidden (by have h := HC.out; rwa [if_pos rfl] at h)
    have hw : IntKind.i64.wrap ((y : Int) - (x : Int)) = (y : Int) - (x : Int) := by rw [IntKind.wrap_i64]; omega
    go_wp2
    go_ret
    exact ⟨ret_int HC2.out.symm, _, rfl⟩
  · have HC2 : Hid (cfR s x y = c) := hidden (by have h := HC.out; rwa [if_neg h0] at h)
    go_wp2
    go_ret
    exact ⟨ret_int HC2.out.symm, _, rfl⟩
set_option maxHeartbeats 2000000 in
set_option maxRecDepth 100000 in
theorem lfCmp_any (s : ByteArray) (sb x y : Nat) (w : World) (h6 : s.size ≤ 600) (hb : w.cell? ⟨sb, 0, none⟩ = some (.string s)) (hx : x < s.size) (hy : y < s.size) :
    Calls Tryz.prog 34 #[.int .i64 (x : Int), .int .i64 (y : Int), .pointer (some ⟨sb, 0, none⟩)] w fun e w' => e = .returned (.int .i64 (cfL (bytesOf s) x y)) ∧ ∃ q, w' = w.drewN q := by
  have HX := hidden (byte_get10 s x hx)
  have HY := hidden (byte_get10 s y hy)
  have hx255 : s[x].toNat < 256 := UInt8.toNat_lt _
  have hy255 : s[y].toNat < 256 := UInt8.toNat_lt _
  go_enter Tryz.func34, Tryz.ntmps34
  go_wp2
  go_big_quiet (fail)
  go_wp2
  go_ret
  refine ⟨ret_int ?_, _, rfl⟩
  unfold cfL
  rw [HX.out, HY.out]
set_option maxHeartbeats 2000000 in
set_option maxRecDepth 100000 in
theorem sortedIndices_any (gf : Nat) (lb : Array Value) (cf : Nat → Nat → Int) (R : Nat → Nat → Prop) (N : Nat) (w : World)
    (eg : ∀ (args : Array Value) (W : World), (callFunc gf args).run Tryz.prog W = .ok (.enter gf args) W) (C : Cmp cf R N) (hN : N ≤ 600)
    (hC : ∀ W, Below w.heap.size w W → ∀ x y : Nat, x < N → y < N → Calls Tryz.prog gf (#[.int .i64 (x : Int), .int .i64 (y : Int)] ++ lb) W fun e w' => e = .returned (.int .i64 (cf x y)) ∧ ∃ q, w' = W.drewN q) :
    Calls Tryz.prog 31 #[.int .i64 (N : Int), .func (.func gf) #[] lb] w fun e w' =>
      ∃ g f, e = .returned (.slice (some ⟨g, 0, none⟩) N N) ∧ w.heap.size ≤ g ∧ Fs w' g N N f ∧ So R f 0 N ∧ Trn 0 N idF f ∧ Below w.heap.size w w' := by
  obtain ⟨j0, ji, jz0, jz1, jz2⟩ := info_parts Tryz.infoInt
  have HC := hidden hC
  clear hC
  go_enter Tryz.func31, Tryz.ntmps31
  go_wp2_with (at_make; refine wpList_make_full _ rfl _ _ 33 rfl w.heap.size 3 j0 (.int .i64 0) 1 Tryz.underlying33 ji jz0 jz1 .i64 .i64 _ _ N rfl rfl rfl rfl ?cb1 ?cb2 ?cb3 ?_)
  case cb1 => rw [jz2]; omega
  case cb2 => unfold maxLen; omega
  case cb3 => exact Nat.le_refl _
  intro w2 hown hgrow
  have hb2 := bel_made hgrow
  rw [made_nats] at hown
  clear hgrow
  go_wp2
  go_loopw [6, 11] (fun _ sk wr => ∃ (k : Nat), k ≤ N ∧ sk = .int .i64 k ∧ wr.ownsRow w.heap.size 3 1 (.slice (some ⟨w.heap.size, 0, none⟩) N N) N (nats N (fun j => if j < k then j else 0)) ∧ Below w.heap.size w wr) (fun _ sk _ => N - (intOf sk).toNat)
  case atStart => exact ⟨0, by omega, rfl, by simpa using hown, hb2⟩
  case round =>
    clear hown hb2
    obtain ⟨k, hk, rfl, hown, hbl⟩ := hrel
    by_cases hlt : k < N
    · have d0 := hown.cellAt k (by omega)
      rw [nats_get _ _ _ hlt] at d0
      have f0 := hown.frozenAt k
      have hownN := (hown.stored k (.int .i64 (k : Int))).1
      rw [nats_set] at hownN
      have e : nats N (fun t => if t = k then k else if t < k then t else 0) = nats N (fun j => if j < k + 1 then j else 0) := nats_congr fun j _ => by
        by_cases h1 : j = k
        · subst h1; rw [if_pos rfl, if_pos (by omega)]
        · by_cases h2 : j < k
          · rw [if_neg h1, if_pos h2, if_pos (by omega)]
          · rw [if_neg h1, if_neg h2, if_neg (by omega)]
      rw [e] at hownN
      have hblN := hbl.setCell (p := ⟨w.heap.size, k, none⟩) (Nat.le_refl _) (.int .i64 (k : Int))
      clear e hown hbl
      go_wp2
      go_roundw
      case rel => exact ⟨k + 1, by omega, by go_num, hownN, hblN⟩
      case measure => simp [intOf]; omega
    · obtain rfl : k = N := by omega
      have hF : Fs wr w.heap.size k k idF := by
        have e : nats k (fun j => if j < k then j else 0) = nats k idF := nats_congr fun j hj => by rw [if_pos hj]; rfl
        rw [e] at hown
        exact Fs.ofOwn hown
      have K := hidden (sortStable_any gf lb cf R k w.heap.size k wr eg C (by omega) hF (fun W hW x y hx hy => HC.out W (hbl.trans (hW.below (Nat.le_refl _) hbl.size)) x y hx hy))
      clear hown hF
      go_wp2_with fail
      refine K.out.mono ?_
      rintro ed w3 ⟨rfl, f2, h3, s3, t3, o3⟩
      have B3 := hbl.trans (o3.below (Nat.le_refl _) hbl.size)
      have H3 := hidden h3
      have S3 := hidden s3
      have T3 := hidden t3
      clear h3 s3 t3 K
      go_wp2
      go_ret
      exact ⟨_, f2, rfl, Nat.le_refl _, H3.out, S3.out, T3.out, B3⟩
set_option maxHeartbeats 2000000 in
set_option maxRecDepth 100000 in
theorem placesOf_any (N g cap : Nat) (f : Nat → Nat) (w : World) (hN : N ≤ 600) (hF : Fs w g N cap f) (hlt : ∀ k, k < N → f k < N) (hinj : ∀ i j, f i = f j → i = j) :
    Calls Tryz.prog 33 #[.slice (some ⟨g, 0, none⟩) N cap] w fun e w' =>
      ∃ g2 p, e = .returned (.slice (some ⟨g2, 0, none⟩) N N) ∧ w'.ownsRow w.heap.size 3 1 (.slice (some ⟨g2, 0, none⟩) N N) N (nats N p) ∧ (∀ k, k < N → p (f k) = k) ∧ Below w.heap.size w w' := by
  obtain ⟨j0, ji, jz0, jz1, jz2⟩ := info_parts Tryz.infoInt
  have HF := hidden hF
  have HL := hidden hlt
  have HI := hidden hinj
  have hgl := hF.lt
  clear hF hlt hinj
  go_enter Tryz.func33, Tryz.ntmps33
  go_wp2_with (at_make; refine wpList_make_full _ rfl _ _ 33 rfl w.heap.size 3 j0 (.int .i64 0) 1 Tryz.underlying33 ji jz0 jz1 .i64 .i64 _ _ N rfl rfl rfl rfl ?cb1 ?cb2 ?cb3 ?_)
  case cb1 => rw [jz2]; omega
  case cb2 => unfold maxLen; omega
  case cb3 => exact Nat.le_refl _
  intro w2 hown hgrow
  have hb2 := bel_made hgrow
  rw [made_nats] at hown
  clear hgrow
  go_wp2
  go_loopw [4, 5, 11] (fun _ _ sk wr => ∃ (k : Nat) (p : Nat → Nat), k ≤ N ∧ sk = .int .i64 k ∧ Hid (∀ j, j < k → p (f j) = j) ∧ wr.ownsRow w.heap.size 3 1 (.slice (some ⟨w.heap.size, 0, none⟩) N N) N (nats N p) ∧ Below w.heap.size w wr) (fun _ _ sk _ => N - (intOf sk).toNat)
  case atStart => exact ⟨0, fun _ => 0, by omega, rfl, hidden (fun j hj => by omega), hown, hb2⟩
  case round =>
    clear hown hb2
    obtain ⟨k, p, hk, rfl, HP, hown, hbl⟩ := hrel
    by_cases hlt : k < N
    · have ck := (hbl.cell (p := ⟨g, k, none⟩) hgl).trans (HF.out.cell hlt)
      have hfk := HL.out k hlt
      have HFK : Hid (∀ j, j < k → f j ≠ f k) := hidden (fun j hj e => by have := HI.out j k e; omega)
      obtain ⟨x, hx⟩ : ∃ x, f k = x := ⟨_, rfl⟩
      rw [hx] at ck hfk HFK
      have HX := hidden hx
      have d0 := hown.cellAt x (by omega)
      rw [nats_get _ _ _ hfk] at d0
      have f0 := hown.frozenAt x
      have hownN := (hown.stored x (.int .i64 (k : Int))).1
      rw [nats_set] at hownN
      have HP2 : Hid (∀ j, j < k + 1 → (fun t => if t = x then k else p t) (f j) = j) := hidden (fun j hj => by
        show (if f j = x then k else p (f j)) = j
        rcases Nat.lt_or_ge j k with h | h
        · rw [if_neg (HFK.out j h), HP.out j h]
        · obtain rfl : j = k := by omega
          rw [if_pos HX.out])
      have hblN := hbl.setCell (p := ⟨w.heap.size, x, none⟩) (Nat.le_refl _) (.int .i64 (k : Int))
      clear hx hown hbl
      go_wp2
      go_roundw
      case rel => exact ⟨k + 1, _, by omega, by go_num, HP2, hownN, hblN⟩
      case measure => simp [intOf]; omega
    · obtain rfl : k = N := by omega
      go_wp2
      go_ret
      exact ⟨_, p, rfl, hown, HP.out, hbl⟩
end Go.Proofs.YtpjgoikdfkaefaaGreat
namespace Go.Proofs.YtpjgoikdfkaefaaGreat
set_option linter.unusedVariables false
set_option linter.unusedSimpArgs false
open Go.RowKit

set_option maxHeartbeats 2000000 in
set_option maxRecDepth 100000 in
theorem rotationOrder_any (s : ByteArray) (w : World) (hs : s.size ≤ 600) :
    Calls Tryz.prog 32 #[.string s] w fun e w' => ∃ tb sb, e = .returned (.func (.func 47) #[] #[.pointer (some ⟨tb, 0, none⟩), .pointer (some ⟨sb, 0, none⟩)]) ∧
      w'.cell? ⟨tb, 0, none⟩ = some (.string (s ++ s)) ∧ w'.cell? ⟨sb, 0, none⟩ = some (.string s) ∧ tb < w'.heap.size ∧ sb < w'.heap.size ∧ Below w.heap.size w w' := by
  have hl : (s ++ s).size = s.size + s.size := by simp
  go_enter Tryz.func32, Tryz.ntmps32
  go_wp2
  go_ret
  exact ⟨w.heap.size + 1, w.heap.size, rfl, by simp, by simp, by simp, by simp; omega, ⟨rfl, rfl, rfl, by simp; omega, fun i hi => (Below.heap_alloc _ _ i (by simp; omega)).trans (Below.heap_alloc w _ i hi)⟩⟩
set_option maxHeartbeats 2000000 in
set_option maxRecDepth 100000 in
theorem rotations_in (s : ByteArray) (w : World) (h1 : 0 < s.size) (h2 : s.size ≤ 600) :
    Calls Tryz.prog 14 #[.string s] w fun e w' => ∃ g f, e = .returned (.slice (some ⟨g, 0, none⟩) s.size s.size) ∧ w.heap.size ≤ g ∧ Fs w' g s.size s.size f ∧ lF s.size f = rotO (bytesOf s) ∧ Below w.heap.size w w' := by
  have KO := hidden (fun W => isBlock_any s W (by omega))
  rw [decide_eq_true ⟨h1, h2⟩] at KO
  go_enter Tryz.func14, Tryz.ntmps14
  go_wp2_with fail
  refine (KO.out _).mono ?_
  rintro e w1 ⟨rfl, rfl⟩
  go_wp2_with fail
  refine (rotationOrder_any s _ h2).mono ?_
  rintro e w1 ⟨tb, sb, rfl, c1, c2, l1, l2, b1⟩
  have K := hidden (sortedIndices_any 47 #[.pointer (some ⟨tb, 0, none⟩), .pointer (some ⟨sb, 0, none⟩)] (cfR s) (rlt (bytesOf s)) s.size w1
    (enters_of Tryz.func47 (by kernel_rfl) rfl) (cfR_cmp s) h2
    (fun W hW x y hx hy => rotCmp_any s tb sb x y W h2 ((hW.cell (p := ⟨tb, 0, none⟩) l1).trans c1) ((hW.cell (p := ⟨sb, 0, none⟩) l2).trans c2) hx hy))
  go_wp2_with fail
  refine K.out.mono ?_
  rintro e w2 ⟨g, f, rfl, hg, hF, hS, hT, b2⟩
  have HF := hidden hF
  have HS := hidden hS
  have HT := hidden hT
  have B2 := b1.trans (b2.mono b1.size)
  have hgw : w.heap.size ≤ g := by have := b1.size; omega
  clear hF hS hT K
  go_wp2
  go_ret
  refine ⟨g, f, rfl, hgw, HF.out, ?_, B2⟩
  have e := bytesOf_len s
  rw [← e]
  exact sort_rot (by rw [e]; exact HT.out) (by rw [e]; exact HS.out)
set_option maxHeartbeats 2000000 in
set_option maxRecDepth 100000 in
theorem implRotations_own (s : ByteArray) (w : World) (hs : s.size ≤ 1048576) :
    Calls Tryz.prog 14 #[.string s] w fun e w' => ∃ v, e = .returned v ∧ w'.ownsRow w.heap.size 3 1 v (rotZ s).length (intsV (rotZ s)) ∧ Below w.heap.size w w' := by
  by_cases hok : 0 < s.size ∧ s.size ≤ 600
  · have hZ : rotZ s = ints (rotO (bytesOf s)) := by unfold rotZ; rw [if_pos hok]
    have hl : (rotO (bytesOf s)).length = s.size := by rw [rotO_len, bytesOf_len]
    rw [hZ, intsV_ints, ints_len, hl]
    refine (rotations_in s w hok.1 hok.2).mono ?_
    rintro e w' ⟨g, f, rfl, hg, hF, hL, hb⟩
    refine ⟨_, rfl, ?_, hb⟩
    rw [← hL, ← nats_lF]
    exact hF.own hg (by unfold maxLen; omega)
  · have hZ : rotZ s = [] := by unfold rotZ; rw [if_neg hok]
    have KO := hidden (fun W => isBlock_any s W hs)
    rw [hZ]
    rw [decide_eq_false hok] at KO
    clear hok hZ
    go_enter Tryz.func14, Tryz.ntmps14
    go_wp2_with fail
    refine (KO.out _).mono ?_
    rintro e w1 ⟨rfl, rfl⟩
    go_wp2
    go_ret
    exact ⟨_, rfl, World.ownsRow_nil _ _ _ _, Below.refl _ _⟩
set_option maxHeartbeats 1000000 in
set_option maxRecDepth 100000 in
/-- Where the number x stands. -/
theorem indexF_any (g n k x : Nat) (f : Nat → Nat) (w : World) (hF : Fs w g n n f) (hn : n ≤ 600) (hk : k < n) (hx : f k = x) (hne : ∀ j, j < k → f j ≠ x) :
    Calls Tryz.prog 15 #[.slice (some ⟨g, 0, none⟩) n n, .int .i64 (x : Int)] w fun e w' => e = .returned (.int .i64 (k : Int)) ∧ w = w' := by
  have HC : Hid (∀ j, j < n → w.cell? ⟨g, j, none⟩ = some (.int .i64 (f j : Int))) := hidden (fun j hj => hF.cell hj)
  have HX := hidden hx
  have HN := hidden hne
  clear hF hx hne
  go_enter Tryz.func15, Tryz.ntmps15
  go_wp2
  go_loopw [5, 8] (fun _ sj wr => ∃ j : Nat, j ≤ k ∧ sj = .int .i64 j ∧ Hid (w = wr)) (fun _ sj _ => k - (intOf sj).toNat)
  case atStart => exact ⟨0, by omega, rfl, hidden rfl⟩
  case round =>
    obtain ⟨j, hj, rfl, HW⟩ := hrel
    have d0 := HC.out j (by omega)
    rw [HW.out] at d0
    have hjn : (j : Int) < (n : Int) := by omega
    by_cases hlt : j < k
    · have hne := HN.out j hlt
      obtain ⟨y, hy⟩ : ∃ y, f j = y := ⟨_, rfl⟩
      rw [hy] at d0 hne
      have hbe : ((x : Int) == (y : Int)) = false := by rw [beq_eq_false_iff_ne]; omega
      have hbi : ¬ (x : Int) = (y : Int) := by omega
      clear hy
      go_wp2
      go_roundw
      case rel => exact ⟨j + 1, by omega, by go_num, HW⟩
      case measure => simp [intOf]; omega
    · obtain rfl : j = k := by omega
      rw [HX.out] at d0
      go_wp2
      go_ret
      exact ⟨rfl, HW.out⟩
end Go.Proofs.YtpjgoikdfkaefaaGreat
namespace Go.Proofs.YtpjgoikdfkaefaaGreat
set_option linter.unusedVariables false
set_option linter.unusedSimpArgs false
open Go.RowKit

set_option maxHeartbeats 2000000 in
set_option maxRecDepth 100000 in
theorem implLast_any (s : ByteArray) (w : World) (hs : s.size ≤ 1048576) :
    Calls Tryz.prog 5 #[.string s] w fun e w' => e = .returned (.tuple #[.string (lstZ s), .int .i64 (fstZ s)]) ∧ Below w.heap.size w w' := by
  obtain ⟨i0, hi, hz0, hz1, hz2⟩ := info_parts Tryz.info5
  have KO := hidden (fun W => isBlock_any s W hs)
  by_cases hok : 0 < s.size ∧ s.size ≤ 600
  · have hl : (rotO (bytesOf s)).length = s.size := by rw [rotO_len, bytesOf_len]
    have HR1 : Hid (lstZ s = strOf (lastL (bytesOf s))) := hidden (by unfold lstZ; rw [if_pos hok])
    have HR2 : Hid (fstZ s = (fstN (bytesOf s) : Int)) := hidden (by unfold fstZ; rw [if_pos hok])
    rw [decide_eq_true hok] at KO
    obtain ⟨h1, h2⟩ := hok
    have KR := hidden (fun W => rotations_in s W h1 h2)
    have HSR := hidden (rotO_srt (bytesOf s))
    have HLT : Hid (∀ k, k < s.size → (rotO (bytesOf s)).getD k 0 < s.size) := hidden (fun k hk => by
      have := rotO_lt (bytesOf s) _ (getD_mem7 _ k (by rw [hl]; exact hk))
      rwa [bytesOf_len] at this)
    have HLA := hidden (fun k r q (a : k < s.size) b c d => last_at s k r q a b c d)
    have HLL : Hid ((lastL (bytesOf s)).length = s.size) := hidden (by rw [lastL_len, bytesOf_len])
    have HIX : Hid (fstN (bytesOf s) < s.size ∧ (rotO (bytesOf s)).getD (fstN (bytesOf s)) 0 = 0 ∧ ∀ j, j < fstN (bytesOf s) → (rotO (bytesOf s)).getD j 0 ≠ 0) := hidden (by
      have hm : 0 ∈ rotO (bytesOf s) := HSR.out.1.mem_iff.2 (List.mem_range.2 (by rw [bytesOf_len]; exact h1))
      have := List.idxOf_lt_length_of_mem hm
      rw [hl] at this
      exact ⟨this, idx_at _ hm, fun j hj => idx_first _ _ j hj⟩)
    clear hl
    go_enter Tryz.func5, Tryz.ntmps5
    go_wp2_with fail
    refine (KO.out _).mono ?_
    rintro e w1 ⟨rfl, rfl⟩
    go_wp2_with fail
    refine (KR.out _).mono ?_
    rintro e w1 ⟨gr, fr, rfl, hgr, hFr, hLr, b1⟩
    have hs1 := b1.size
    have hgl := hFr.lt
    have HF := hidden hFr
    have HGD : Hid (∀ k, k < s.size → fr k = (rotO (bytesOf s)).getD k 0) := hidden (fun k hk => by rw [← hLr, lF_get _ _ _ hk])
    clear hFr hLr KO KR
    go_wp2_with (at_make; refine wpList_make_full _ rfl _ _ 22 rfl w1.heap.size 5 i0 (.int .u8 0) 1 Tryz.underlying22 hi hz0 hz1 .i64 .i64 _ _ s.size rfl rfl rfl rfl ?cc1 ?cc2 ?cc3 ?_)
    case cc1 => rw [hz2]; omega
    case cc2 => unfold maxLen; omega
    case cc3 => exact Nat.le_refl _
    intro w2 hown hgrow
    rw [made_u8s, ← HLL.out, ← tkz_zero, HLL.out] at hown
    have hbl := bel_made hgrow
    have hs2 := hbl.size
    clear hgrow
    obtain ⟨g, hg⟩ : ∃ g, w1.heap.size = g := ⟨_, rfl⟩
    rw [hg] at hown hbl hs2 ⊢
    have hgw : w.heap.size ≤ g := by omega
    have ckw : gr ≠ g := by omega
    have ckw2 : g ≠ gr := by omega
    replace b1 : Below w.heap.size w w1 := b1
    go_wp2
    go_loopw [6, 7, 18] (fun _ _ sk wr => ∃ (k : Nat), k ≤ s.size ∧ sk = .int .i64 k ∧ wr.ownsRow g 5 1 (.slice (some ⟨g, 0, none⟩) s.size s.size) s.size (u8s (tkz (lastL (bytesOf s)) k)) ∧ Below g w1 wr) (fun _ _ sk _ => s.size - (intOf sk).toNat)
    case atStart => exact ⟨0, Nat.zero_le _, rfl, hown, hbl⟩
    case round =>
      clear hown hbl
      obtain ⟨k, hk, rfl, hown, hbl⟩ := hrel
      by_cases hlt : k < s.size
      · have ck := (hbl.cell (p := ⟨gr, k, none⟩) (by show gr < g; omega)).trans (HF.out.cell hlt)
        rw [HGD.out k hlt] at ck
        obtain ⟨r, hr⟩ : ∃ r, (rotO (bytesOf s)).getD k 0 = r := ⟨_, rfl⟩
        have hrs := HLT.out k hlt
        obtain ⟨q, hq⟩ : ∃ q, (r + s.size - 1) % s.size = q := ⟨_, rfl⟩
        have hq2 : q < s.size := by rw [← hq]; exact Nat.mod_lt _ (by omega)
        have hqi : ((r : Int) + (s.size : Int) - 1) % (s.size : Int) = (q : Int) := by
          rw [← hq, show (r : Int) + (s.size : Int) - 1 = ((r + s.size - 1 : Nat) : Int) by omega]; simp
        have hnn : 0 ≤ (r : Int) + (s.size : Int) - 1 := by omega
        have hqt : ((r : Int) + (s.size : Int) - 1).tmod (s.size : Int) = (q : Int) := by rw [Int.tmod_eq_emod_of_nonneg hnn]; exact hqi
        have HV := hidden (HLA.out k r q hlt hr hq hq2)
        rw [hr] at ck hrs
        have hZL : k < (tkz (lastL (bytesOf s)) k).length := by rw [tkz_len _ _ (by rw [HLL.out]; exact hk), HLL.out]; exact hlt
        have d0 := hown.cellAt k (by omega)
        rw [u8s_get _ k hZL] at d0
        have f0 := hown.frozenAt k
        have HST : Hid ((tkz (lastL (bytesOf s)) k).set k s[q].toNat = tkz (lastL (bytesOf s)) (k + 1)) := hidden (by rw [← HV.out]; exact tkz_set _ k (by rw [HLL.out]; exact hlt))
        obtain ⟨x0, hx0⟩ : ∃ x, (tkz (lastL (bytesOf s)) k).getD k 0 = x := ⟨_, rfl⟩
        rw [hx0] at d0
        have hownN := (hown.stored k (.int .u8 (s[q].toNat : Int))).1
        rw [← u8s_set, HST.out] at hownN
        have hblN := hbl.setCell (p := ⟨g, k, none⟩) (Nat.le_refl _) (.int .u8 (s[q].toNat : Int))
        clear hx0 hown hbl hZL hr hq
        go_wp2
        go_roundw
        case rel => exact ⟨k + 1, by omega, by go_num, hownN, hblN⟩
        case measure => simp [intOf]; omega
      · have hke : k = s.size := by omega
        subst hke
        have hTZ : tkz (lastL (bytesOf s)) s.size = lastL (bytesOf s) := by have := tkz_all (lastL (bytesOf s)); rwa [HLL.out] at this
        rw [hTZ] at hown
        have hrun : ∀ n, (convert 22 9 (.slice (some ⟨g, 0, none⟩) s.size s.size)).run Tryz.prog (wr.drewN n) = .ok (.string (strOf (lastL (bytesOf s)))) (wr.drewN n) := fun n => run_str (w := wr.drewN n) hown
        have hrun0 := run_str hown
        have hFr : Fs wr gr s.size s.size fr := by
          obtain ⟨e0, cur, e1, e2, e3⟩ := HF.out
          exact ⟨e0, cur, e1.below hbl (by omega), e2, e3⟩
        have KX := hidden (fun n => indexF_any gr s.size (fstN (bytesOf s)) 0 fr (wr.drewN n) (hFr.drewN n) h2 HIX.out.1 (by rw [HGD.out _ HIX.out.1]; exact HIX.out.2.1) (fun j hj => by rw [HGD.out _ (by have := HIX.out.1; omega)]; exact HIX.out.2.2 j hj))
        have BB := b1.trans (hbl.mono (by omega))
        clear hTZ hown hbl hFr
        go_wp2
        go_quiet ((go_at_call 15; first | exact quiet_l (KX.out _) | exact quiet_add_l (KX.out _)))
        go_wp2
        exact bodyPost_ret (v := .tuple #[.string (strOf (lastL (bytesOf s))), .int .i64 (fstN (bytesOf s))]) (by simp [results, Tryz.results5, go_sem]) rfl ⟨by rw [HR1.out, HR2.out], bel_drewN BB _⟩
  · have HR1 : Hid (lstZ s = ⟨#[]⟩) := hidden (by unfold lstZ; rw [if_neg hok])
    have HR2 : Hid (fstZ s = -1) := hidden (by unfold fstZ; rw [if_neg hok])
    rw [HR1.out, HR2.out]
    rw [decide_eq_false hok] at KO
    clear hok
    go_enter Tryz.func5, Tryz.ntmps5
    go_wp2_with fail
    refine (KO.out _).mono ?_
    rintro e w1 ⟨rfl, rfl⟩
    go_wp2
    exact bodyPost_ret (v := .tuple #[.string ⟨#[]⟩, .int .i64 (-1)]) (by simp [results, Tryz.results5, go_sem]) rfl ⟨rfl, Below.refl _ _⟩
end Go.Proofs.YtpjgoikdfkaefaaGreat
namespace Go.Proofs.YtpjgoikdfkaefaaGreat
set_option linter.unusedVariables false
set_option linter.unusedSimpArgs false
open Go.RowKit

set_option maxHeartbeats 2000000 in
set_option maxRecDepth 100000 in
theorem implLf_any (s : ByteArray) (w : World) (hs : s.size ≤ 1048576) :
    Calls Tryz.prog 16 #[.string s] w fun e w' => ∃ v, e = .returned v ∧ w'.ownsRow w.heap.size 3 1 v (lfZ s).length (intsV (lfZ s)) ∧ Below w.heap.size w w' := by
  have KO := hidden (fun W => isBlock_any s W hs)
  by_cases hok : 0 < s.size ∧ s.size ≤ 600
  · have hZ : lfZ s = ints (lfL (bytesOf s)) := by unfold lfZ; rw [if_pos hok]
    have hl : (lfL (bytesOf s)).length = s.size := by unfold lfL; rw [List.length_map, List.length_range, bytesOf_len]
    rw [hZ, ints_len, hl, intsV_ints]
    rw [decide_eq_true hok] at KO
    obtain ⟨h1, h2⟩ := hok
    have HCM : Hid (Cmp (cfL (bytesOf s)) (bltR (bytesOf s)) s.size) := hidden (by have := cfL_cmp (bytesOf s); rwa [bytesOf_len] at this)
    clear hZ hl
    go_enter Tryz.func16, Tryz.ntmps16
    have K := hidden (fun (W : World) (hW : ∀ W2, Below W.heap.size W W2 → W2.cell? ⟨w.heap.size, 0, none⟩ = some (.string s)) => sortedIndices_any 34 #[.pointer (some ⟨w.heap.size, 0, none⟩)] (cfL (bytesOf s)) (bltR (bytesOf s)) s.size W
      (enters_of Tryz.func34 (by kernel_rfl) rfl) HCM.out h2
      (fun W2 hW2 x y hx hy => lfCmp_any s w.heap.size x y W2 h2 (hW W2 hW2) hx hy))
    go_wp2_with fail
    refine (KO.out _).mono ?_
    rintro e w1 ⟨rfl, rfl⟩
    go_wp2_with fail
    refine (K.out _ (fun W2 hW2 => (hW2.cell (p := ⟨w.heap.size, 0, none⟩) (by simp)).trans (by simp))).mono ?_
    rintro e w2 ⟨g, f, rfl, hg, hF, hS, hT, b2⟩
    have hlt := trn_lt hT
    have hinj := trn_inj hT
    have HP := hidden (fun (p : Nat → Nat) (hp : ∀ k, k < s.size → p (f k) = k) => lf_all (S := bytesOf s) (f := f) (g := p) (by rw [bytesOf_len]; exact hT) (by rw [bytesOf_len]; exact hS) (by rw [bytesOf_len]; exact hp))
    have KP := hidden (placesOf_any s.size g s.size f w2 h2 hF hlt hinj)
    have B1 : Below w.heap.size w w2 := ⟨b2.os, b2.tape, b2.output, by have := b2.size; simp at this; omega, fun i hi => (b2.block i (by simp; omega)).trans (Below.heap_alloc w _ i hi)⟩
    clear hlt hinj hF hS hT b2 K
    go_wp2_with fail
    refine KP.out.mono ?_
    rintro e w3 ⟨g2, p, rfl, hown, hp, b3⟩
    have hNA : nats s.size p = natsL (lfL (bytesOf s)) := by
      have h := HP.out p hp
      rw [bytesOf_len] at h
      rw [nats_congr h]
      unfold nats natsL lfL
      rw [List.map_map, bytesOf_len]
      rfl
    rw [hNA] at hown
    have B3 := B1.trans (b3.mono B1.size)
    have hown2 := Joins.ownsRow_le hown B1.size
    clear hNA hown hp b3 KP HP
    go_wp2
    go_ret
    exact ⟨_, rfl, hown2, B3⟩
  · have hZ : lfZ s = [] := by unfold lfZ; rw [if_neg hok]
    rw [hZ]
    rw [decide_eq_false hok] at KO
    clear hok hZ
    go_enter Tryz.func16, Tryz.ntmps16
    go_wp2_with fail
    refine (KO.out _).mono ?_
    rintro e w1 ⟨rfl, rfl⟩
    go_wp2
    go_ret
    exact ⟨_, rfl, World.ownsRow_nil _ _ _ _, ⟨rfl, rfl, rfl, by simp, fun i hi => Below.heap_alloc w _ i hi⟩⟩
set_option maxHeartbeats 1000000 in
set_option maxRecDepth 100000 in
theorem implPeriod_any (s : ByteArray) (m : Int) (w : World) (hs : s.size ≤ 1048576) (hm : w.cell? ⟨0, 0, none⟩ = some (.int .i64 m)) :
    Calls Tryz.prog 27 #[.string s] w fun e w' => e = .returned (.int .i64 (perZ s)) ∧ Below w.heap.size w w' := by
  have KO := hidden (fun W => isBlock_any s W hs)
  by_cases hok : 0 < s.size ∧ s.size ≤ 600
  · rw [decide_eq_true hok] at KO
    obtain ⟨h1, h2⟩ := hok
    obtain ⟨p, hp⟩ := per_ex (bytesOf s) (by rw [bytesOf_len]; exact h1)
    have HZ : Hid (perZ s = (p : Int)) := hidden (by unfold perZ; rw [if_pos ⟨h1, h2⟩, per_is hp])
    have hp1 := hp.1
    have hp2 : p ≤ s.size := by have := hp.2.1; rwa [bytesOf_len] at this
    have hl : (s ++ s).size = s.size + s.size := by simp
    have KI := hidden (index10_any ((s ++ s).extract 1 (s.size + s.size)) s m w (by simp; omega) hm)
    rw [index_per s p hp] at KI
    have e1 : ((p - 1 : Nat) : Int) = (p : Int) - 1 := by omega
    rw [e1] at KI
    have e2 : (p : Int) - 1 + 1 = (p : Int) := by omega
    clear hp
    go_enter Tryz.func27, Tryz.ntmps27
    go_wp2_with fail
    refine (KO.out _).mono ?_
    rintro e w1 ⟨rfl, rfl⟩
    go_wp2_with fail
    refine KI.out.mono ?_
    rintro e w2 ⟨rfl, rfl⟩
    go_wp2
    go_ret
    exact ⟨ret_int HZ.out.symm, Below.refl _ _⟩
  · have HZ : Hid (perZ s = -1) := hidden (by unfold perZ; rw [if_neg hok])
    rw [decide_eq_false hok] at KO
    clear hok
    go_enter Tryz.func27, Tryz.ntmps27
    go_wp2_with fail
    refine (KO.out _).mono ?_
    rintro e w1 ⟨rfl, rfl⟩
    go_wp2
    go_ret
    exact ⟨ret_int HZ.out.symm, Below.refl _ _⟩
end Go.Proofs.YtpjgoikdfkaefaaGreat
namespace Go.Proofs.YtpjgoikdfkaefaaGreat
set_option linter.unusedVariables false
set_option linter.unusedSimpArgs false
open Go.RowKit

set_option maxHeartbeats 2000000 in
set_option maxRecDepth 100000 in
theorem implUnrotate_in (s : ByteArray) (f : Nat) (w : World) (hs : s.size ≤ 1048576) (h1 : 0 < s.size) (h2 : s.size ≤ 600) (hf : f < s.size) :
    Calls Tryz.prog 6 #[.string s, .int .i64 f] w fun e w' => e = .returned (.tuple #[.string (unS s f), .bool (unB s f)]) ∧ Below w.heap.size w w' := by
  obtain ⟨i0, hi, hz0, hz1, hz2⟩ := info_parts Tryz.info5
  have KO := hidden (fun W => isBlock_any s W hs)
  rw [decide_eq_true ⟨h1, h2⟩] at KO
  have hZ : lfZ s = ints (lfL (bytesOf s)) := by unfold lfZ; rw [if_pos ⟨h1, h2⟩]
  have hl : (lfL (bytesOf s)).length = s.size := by unfold lfL; rw [List.length_map, List.length_range, bytesOf_len]
  have KF := hidden (fun W => implLf_any s W hs)
  rw [hZ, ints_len, hl] at KF
  have HCL : Hid ((canL (bytesOf s) f).length = s.size) := hidden (by rw [canL_len, bytesOf_len])
  have hcs : (unC s f).size = s.size := by unfold unC; rw [strOf_size, Int.toNat_natCast, HCL.out]
  have KLa := hidden (fun W => implLast_any (unC s f) W (by rw [hcs]; exact hs))
  have HAT := hidden (fun k => atN_lt (S := bytesOf s) (f := f) (by rw [bytesOf_len]; exact hf) k)
  have HLG := hidden (fun a (h : a < s.size) => lfL_get (bytesOf s) a (by rw [bytesOf_len]; exact h))
  have HCG := hidden (fun r (h : r < s.size) => canL_get (bytesOf s) f r (by rw [bytesOf_len]; exact h))
  have HBY := hidden (byte_get s)
  have HUC : Hid (strOf (canL (bytesOf s) f) = unC s f) := hidden (by unfold unC; rw [Int.toNat_natCast])
  have HUB : Hid (unB s f = decide (lstZ (unC s f) = s ∧ fstZ (unC s f) = (f : Int))) := hidden (by
    unfold unB
    congr 1
    apply propext
    constructor
    · exact fun h => h.2.2.2.2
    · exact fun h => ⟨h1, h2, by omega, by omega, h⟩)
  have hf1 : ¬ (f : Int) < 0 := by omega
  have hf2 : ¬ (s.size : Int) ≤ (f : Int) := by omega
  clear hZ hl hcs
  go_enter Tryz.func6, Tryz.ntmps6
  go_wp2_with fail
  refine (KO.out _).mono ?_
  rintro e w1 ⟨rfl, rfl⟩
  go_wp2_with fail
  refine (KF.out _).mono ?_
  rintro e w1 ⟨v, rfl, hownF, b1⟩
  have hs1 := b1.size
  obtain ⟨gl, cl, rfl⟩ := Joins.ownsRow_form hownF (by omega)
  have hIF := hidden (Ints.ofOwn hownF (by omega) (ints_range10 (n := s.size + 1) (fun x hx => by
    unfold lfL at hx
    rw [List.mem_map] at hx
    obtain ⟨a, ha, rfl⟩ := hx
    have := lfN_lt (List.mem_range.1 ha)
    rw [bytesOf_len] at this
    omega) (by omega))).2
  clear hownF KO KF
  go_wp2_with (at_make; refine wpList_make_full _ rfl _ _ 22 rfl w1.heap.size 5 i0 (.int .u8 0) 1 Tryz.underlying22 hi hz0 hz1 .i64 .i64 _ _ s.size rfl rfl rfl rfl ?cc1 ?cc2 ?cc3 ?_)
  case cc1 => rw [hz2]; omega
  case cc2 => unfold maxLen; omega
  case cc3 => exact Nat.le_refl _
  intro w2 hown hgrow
  rw [made_u8s, ← HCL.out, ← drz_all, HCL.out] at hown
  have hbl := bel_made hgrow
  have hs2 := hbl.size
  clear hgrow
  obtain ⟨g, hg⟩ : ∃ g, w1.heap.size = g := ⟨_, rfl⟩
  rw [hg] at hown hbl hs2 hIF hs1 ⊢
  go_wp2
  go_loopw [8, 9] (fun sa sk wr => ∃ r : Nat, r ≤ s.size ∧ sk = .int .i64 ((r : Int) - 1) ∧ sa = .int .i64 ((atN (bytesOf s) f (s.size - r) : Nat) : Int) ∧ wr.ownsRow g 5 1 (.slice (some ⟨g, 0, none⟩) s.size s.size) s.size (u8s (drz (canL (bytesOf s) f) r)) ∧ Below g w1 wr) (fun _ sk _ => (intOf sk + 1).toNat)
  case atStart => exact ⟨s.size, Nat.le_refl _, by go_num, by rw [Nat.sub_self]; rfl, hown, hbl⟩
  case round =>
    clear hown hbl
    obtain ⟨r, hr, rfl, rfl, hown, hbl⟩ := hrel
    by_cases hr0 : r = 0
    · subst hr0
      rw [drz_zero] at hown
      have hrun := run_str hown
      rw [HUC.out] at hrun
      have BB := b1.trans (hbl.mono (by omega))
      clear hown hbl
      go_wp2_with fail
      refine (KLa.out _).mono ?_
      rintro e w3 ⟨rfl, b3⟩
      have B3 := BB.trans (b3.mono BB.size)
      by_cases c1 : lstZ (unC s f) = s
      · by_cases c2 : fstZ (unC s f) = (f : Int)
        · have HT : Hid (unB s f = true) := hidden (by rw [HUB.out, decide_eq_true ⟨c1, c2⟩])
          have HS : Hid (unS s f = unC s f) := hidden (by unfold unS; rw [if_pos HT.out])
          rw [c1, c2]
          have n1 : (s.toList != s.toList) = false := by simp
          have n2 : ((f : Int) != (f : Int)) = false := by simp
          clear c1 c2
          go_wp2
          exact bodyPost_ret (v := .tuple #[.string (unC s f), .bool true]) (by simp [results, Tryz.results6, go_sem]) rfl ⟨by rw [HT.out, HS.out], B3⟩
        · have HT : Hid (unB s f = false) := hidden (by rw [HUB.out, decide_eq_false (fun h => c2 h.2)])
          have HS : Hid (unS s f = ⟨#[]⟩) := hidden (by unfold unS; rw [HT.out]; rfl)
          rw [c1]
          obtain ⟨x, hx⟩ : ∃ x, fstZ (unC s f) = x := ⟨_, rfl⟩
          rw [hx] at c2 ⊢
          have n1 : (s.toList != s.toList) = false := by simp
          have n2 : (x != (f : Int)) = true := by simp [c2]
          clear c1 c2 hx
          go_wp2
          exact bodyPost_ret (v := .tuple #[.string ⟨#[]⟩, .bool false]) (by simp [results, Tryz.results6, go_sem]) rfl ⟨by rw [HT.out, HS.out], B3⟩
      · have HT : Hid (unB s f = false) := hidden (by rw [HUB.out, decide_eq_false (fun h => c1 h.1)])
        have HS : Hid (unS s f = ⟨#[]⟩) := hidden (by unfold unS; rw [HT.out]; rfl)
        have n0 : ((lstZ (unC s f)).toList == s.toList) = false := str_beq_ne c1
        obtain ⟨y, hy⟩ : ∃ y, lstZ (unC s f) = y := ⟨_, rfl⟩
        rw [hy] at n0 ⊢
        have n1 : (y.toList != s.toList) = true := by simp only [bne, n0, Bool.not_false]
        clear c1 hy
        go_wp2
        exact bodyPost_ret (v := .tuple #[.string ⟨#[]⟩, .bool false]) (by simp [results, Tryz.results6, go_sem]) rfl ⟨by rw [HT.out, HS.out], B3⟩
    · obtain ⟨q, rfl⟩ : ∃ q, r = q + 1 := ⟨r - 1, by omega⟩
      have hq0 : 0 ≤ (q : Int) := by omega
      have eq1 : ((q + 1 : Nat) : Int) - 1 = (q : Int) := by omega
      have hlA := HAT.out (s.size - (q + 1))
      rw [bytesOf_len] at hlA
      have HV := HCG.out q (by omega)
      rw [bytesOf_len, show s.size - 1 - q = s.size - (q + 1) by omega] at HV
      have HNX : Hid (atN (bytesOf s) f (s.size - q) = lfN (bytesOf s) (atN (bytesOf s) f (s.size - (q + 1)))) := hidden (by rw [show s.size - q = s.size - (q + 1) + 1 by omega]; rfl)
      obtain ⟨a, ha⟩ : ∃ a, atN (bytesOf s) f (s.size - (q + 1)) = a := ⟨_, rfl⟩
      rw [ha] at hlA HV HNX
      rw [HBY.out a hlA] at HV
      obtain ⟨bb, off, e, hb, hc⟩ := (hIF.out.below hbl).2.2 (by rw [ints_len]; unfold lfL; rw [List.length_map, List.length_range, bytesOf_len]; exact h1)
      have ca := hc a (by rw [ints_len]; unfold lfL; rw [List.length_map, List.length_range, bytesOf_len]; exact hlA)
      rw [ints_get, HLG.out a hlA, ← HNX.out] at ca
      simp only [Option.some.injEq, Addr.mk.injEq] at e
      obtain ⟨rfl, rfl, _⟩ := e
      rw [Nat.zero_add] at ca
      have hZL : q < (drz (canL (bytesOf s) f) (q + 1)).length := by rw [drz_len _ _ (by rw [HCL.out]; exact hr), HCL.out]; omega
      have d0 := hown.cellAt q (by omega)
      rw [u8s_get _ q hZL] at d0
      have f0 := hown.frozenAt q
      have hownN := (hown.stored q (.int .u8 (s[a].toNat : Int))).1
      rw [← u8s_set, ← HV, drz_set _ q (by rw [HCL.out]; omega)] at hownN
      have hblN := hbl.setCell (p := ⟨g, q, none⟩) (Nat.le_refl _) (.int .u8 (s[a].toNat : Int))
      obtain ⟨nx, hnx⟩ : ∃ x, atN (bytesOf s) f (s.size - q) = x := ⟨_, rfl⟩
      rw [hnx] at ca
      have HNX2 := hidden hnx
      have ckw : gl ≠ g := by omega
      have ckw2 : g ≠ gl := by omega
      rw [ha]
      clear hc ha hown hbl hnx HNX hZL
      rw [eq1]
      have HVV := hidden HV
      clear HV
      go_wp2
      go_roundw
      case rel => exact ⟨q, by omega, by go_num, by rw [HNX2.out], by rw [← HVV.out]; exact hownN, hblN⟩
      case measure => simp [intOf]
set_option maxHeartbeats 1000000 in
set_option maxRecDepth 100000 in
theorem implUnrotate_any (s : ByteArray) (f : Int) (w : World) (hs : s.size ≤ 1048576) (f1 : -9223372036854775808 ≤ f) (f2 : f ≤ 9223372036854775807) :
    Calls Tryz.prog 6 #[.string s, .int .i64 f] w fun e w' => e = .returned (.tuple #[.string (unS s f), .bool (unB s f)]) ∧ Below w.heap.size w w' := by
  have KO := hidden (fun W => isBlock_any s W hs)
  by_cases hok : 0 < s.size ∧ s.size ≤ 600
  · by_cases hf : 0 ≤ f ∧ f < s.size
    · obtain ⟨q, rfl⟩ : ∃ q : Nat, f = q := ⟨f.toNat, by omega⟩
      exact implUnrotate_in s q w hs hok.1 hok.2 (by omega)
    · have HT : Hid (unB s f = false) := hidden (by unfold unB; exact decide_eq_false (fun h => hf ⟨h.2.2.1, h.2.2.2.1⟩))
      have HS : Hid (unS s f = ⟨#[]⟩) := hidden (by unfold unS; rw [HT.out]; rfl)
      rw [HT.out, HS.out]
      rw [decide_eq_true hok] at KO
      by_cases h0 : f < 0
      · clear hf hok
        go_enter Tryz.func6, Tryz.ntmps6
        go_wp2_with fail
        refine (KO.out _).mono ?_
        rintro e w1 ⟨rfl, rfl⟩
        go_wp2
        exact bodyPost_ret (v := .tuple #[.string ⟨#[]⟩, .bool false]) (by simp [results, Tryz.results6, go_sem]) rfl ⟨rfl, Below.refl _ _⟩
      · have hge : (s.size : Int) ≤ f := by omega
        clear hf hok
        go_enter Tryz.func6, Tryz.ntmps6
        go_wp2_with fail
        refine (KO.out _).mono ?_
        rintro e w1 ⟨rfl, rfl⟩
        go_wp2
        exact bodyPost_ret (v := .tuple #[.string ⟨#[]⟩, .bool false]) (by simp [results, Tryz.results6, go_sem]) rfl ⟨rfl, Below.refl _ _⟩
  · have HT : Hid (unB s f = false) := hidden (by unfold unB; exact decide_eq_false (fun h => hok ⟨h.1, h.2.1⟩))
    have HS : Hid (unS s f = ⟨#[]⟩) := hidden (by unfold unS; rw [HT.out]; rfl)
    rw [HT.out, HS.out]
    rw [decide_eq_false hok] at KO
    clear hok
    go_enter Tryz.func6, Tryz.ntmps6
    go_wp2_with fail
    refine (KO.out _).mono ?_
    rintro e w1 ⟨rfl, rfl⟩
    go_wp2
    exact bodyPost_ret (v := .tuple #[.string ⟨#[]⟩, .bool false]) (by simp [results, Tryz.results6, go_sem]) rfl ⟨rfl, Below.refl _ _⟩
end Go.Proofs.YtpjgoikdfkaefaaGreat
