/- Merged: I12F. -/
import Derived.Test.YtaaahmfkdiogkaaQM26
import Derived.Test.YtaaahmfkdiogkaaQM20
import Derived.Test.YtaaahmfkdiogkaaQM31
import Derived.Test.YtaaahmfkdiogkaaQM22
import Derived.Test.YtaaahmfkdiogkaaQM32
import Derived.Test.YtaaahmfkdiogkaaQM4
import Derived.RegionTactic
import Derived.ChangeAlike
namespace Go.Proofs.Ytaaahmfkdiogkaa
set_option linter.unusedVariables false
set_option linter.unusedSimpArgs false
open Go.RowKit

set_option maxHeartbeats 2000000 in
set_option maxRecDepth 100000 in
theorem unary_any (s : ByteArray) (p b k : Nat) (T : TypeId) (w : World) (hs : s.size ≤ 1048576) (hp : p ≤ 8 * s.size) (hk : k ≤ 4) (hb : Has w b T #[.string s, .int .i64 p]) :
    Calls Try.prog 76 #[.pointer (some ⟨b, 0, none⟩), .int .i64 k] w fun e w' => ((∃ n, UnaAt s p k n ∧ e = .returned (.tuple #[.int .i64 n, .bool true]) ∧ Has w' b T #[.string s, .int .i64 ((p + n + 1 : Nat) : Int)]) ∨
      ((∀ n, ¬ UnaAt s p k n) ∧ e = .returned (.tuple #[.int .i64 0, .bool false]))) ∧ Only b w w' := by
  have KY := hidden (fun (W : World) (q n : Nat) (hn : n ≤ 32) (hl : q + n ≤ 8 * s.size) (h : Has W b T #[.string s, .int .i64 q]) => takeIf_yes s q n b T W hs hn hl h)
  have KN := hidden (fun (W : World) (q n : Nat) (hn : n ≤ 32) (hp : q ≤ 8 * s.size) (hl : 8 * s.size < q + n) (h : Has W b T #[.string s, .int .i64 q]) => takeIf_no s q n b T W hs hn hp hl h)
  have HB := hidden hb
  clear hb
  go_enter Try.func76, Try.ntmps76
  go_wp2
  go_loopw [6, 7, 8, 10] (fun _ _ _ si wr => ∃ j : Nat, j ≤ k ∧ si = .int .i64 j ∧ p + j ≤ 8 * s.size ∧ Hid (∀ i, i < j → bit s (p + i) = 1) ∧ Hid (Has wr b T #[.string s, .int .i64 ((p + j : Nat) : Int)]) ∧ Only b w wr) (fun _ _ _ si _ => k - (intOf si).toNat)
  case atStart => exact ⟨0, by omega, rfl, hp, hidden (fun i hi => by omega), HB, Only.refl _ _⟩
  case round =>
    obtain ⟨j, hj, rfl, hroom, HZ, HBj, hO⟩ := hrel
    have hb2 := bit_lt s (p + j)
    by_cases hlt : j < k
    · by_cases hr1 : p + j + 1 ≤ 8 * s.size
      · have K2 := hidden (KY.out wr (p + j) 1 (by omega) hr1 HBj.out)
        rw [show num (row s (p + j) 1) = bit s (p + j) by simp [row, num]] at K2
        by_cases hb0 : bit s (p + j) = 0
        · have HU : Hid (UnaAt s p k j) := hidden ⟨hlt, hr1, HZ.out, hb0⟩
          rw [hb0] at K2
          go_wp2_with fail
          refine K2.out.mono ?_
          rintro e w2 ⟨rfl, hB2, hO2⟩
          have hOO := hO.trans_ hO2
          clear hO hO2
          go_wp2
          exact bodyPost_ret (v := .tuple #[.int .i64 (j : Int), .bool true]) (by simp [results, Try.results76, go_sem]) rfl ⟨.inl ⟨j, HU.out, rfl, hB2⟩, hOO⟩
        · have hb1 : bit s (p + j) = 1 := by omega
          have HZ2 : Hid (∀ i, i < j + 1 → bit s (p + i) = 1) := hidden (fun i hi => by
            rcases Nat.lt_or_ge i j with h | h
            · exact HZ.out i h
            · obtain rfl : i = j := by omega
              exact hb1)
          rw [hb1] at K2
          clear hb0 hb1 hb2
          go_wp2_with fail
          refine K2.out.mono ?_
          rintro e w2 ⟨rfl, hB2, hO2⟩
          have hOO := hO.trans_ hO2
          have HB2 := hidden hB2
          clear hO hO2 hB2
          go_wp2
          go_roundw
          case rel => exact ⟨j + 1, by omega, by go_num, by omega, HZ2, HB2, hOO⟩
          case measure => simp [intOf]; omega
      · have K2 := hidden (KN.out wr (p + j) 1 (by omega) hroom (by omega) HBj.out)
        have HNO : Hid (∀ n, ¬ UnaAt s p k n) := hidden (fun n hn => by
          rcases Nat.lt_or_ge n j with h | h
          · have := HZ.out n h; rw [hn.2.2.2] at this; omega
          · have := hn.2.1; omega)
        go_wp2_with fail
        refine K2.out.mono ?_
        rintro e w2 ⟨m, rfl, hB2, hO2⟩
        have hOO := hO.trans_ hO2
        clear hO hO2 hB2
        go_wp2
        exact bodyPost_ret (v := .tuple #[.int .i64 0, .bool false]) (by simp [results, Try.results76, go_sem]) rfl ⟨.inr ⟨HNO.out, rfl⟩, hOO⟩
    · have HNO : Hid (∀ n, ¬ UnaAt s p k n) := hidden (fun n hn => by
        have := HZ.out n (by have := hn.1; omega)
        rw [hn.2.2.2] at this; omega)
      go_wp2
      exact bodyPost_ret (v := .tuple #[.int .i64 0, .bool false]) (by simp [results, Try.results76, go_sem]) rfl ⟨.inr ⟨HNO.out, rfl⟩, hO⟩
theorem fill_nat (D : List Nat) (n x : Nat) {i : Nat} (h : D.length = i) (h2 : i < n) : (ints D ++ List.replicate (n - i) 0).set i (x : Int) = ints (D ++ [x]) ++ List.replicate (n - (i + 1)) 0 := by
  have h3 := fill_set (ints D) n (x : Int) (by rw [ints_len]; omega)
  rw [ints_len, h] at h3
  rw [h3]
  unfold ints
  rw [List.map_append]
  rfl
set_option maxHeartbeats 4000000 in
set_option maxRecDepth 100000 in
theorem implGetSels_any (s : ByteArray) (at0 n k : Nat) (w : World) (hs : s.size ≤ 1048576) (ha : at0 ≤ 8 * s.size) (hn2 : n ≤ 600) (hk1 : 1 ≤ k) (hk : k ≤ 4) :
    Calls Try.prog 35 #[.agg #[.string s, .int .i64 at0], .int .i64 n, .int .i64 k] w (GS12 s at0 n k w) := by
  obtain ⟨i0, hi, hz0, hz1, hz2⟩ := info_parts Try.infoInt
  have KT := hidden (fun W => tableCountOk_any (k : Int) W)
  have hkk : (1 : Int) ≤ (k : Int) ∧ (k : Int) ≤ 4 := by omega
  rw [decide_eq_true hkk] at KT
  have K2 := hidden (fun W => implRdOk_yes s at0 W hs ha)
  have K4 := hidden (fun (W : World) (c g : Nat) (hc : c ≤ 8 * s.size) (hR : Has W g 96 #[.string s, .int .i64 c]) => unary_any s c g k 96 W hs hc hk hR)
  have HSTOP := hidden (fun (c d : Nat) (D E : List Nat) (h1 : Unas s k at0 D c) (h3 : ∀ n, ¬ UnaAt s c k n) (h2 : Unas s k at0 E d) => h1.stop h3 h2)
  have HMEM := hidden (fun (D : List Nat) (c : Nat) (h1 : Unas s k at0 D c) => h1.end_le ha)
  have HLT := hidden (fun (D : List Nat) (c : Nat) (h1 : Unas s k at0 D c) => h1.lt)
  have KU := hidden (fun (a : Option Addr) (cap B : Nat) (z : List Int) (W : World) (hz : Ints W B a z) (hB : B ≤ W.heap.size) (hl : z.length ≤ 1048576) => implUnMtf_any a cap B z k W hz hB hl (by omega) (by omega))
  have HUL := hidden (fun (D : List Nat) (c : Nat) (h1 : Unas s k at0 D c) (hD : D.length ≤ 600) => unas_len12 h1 hD hk1 hk)
  have hR := (Has.fresh w 48 #[.string s, .int .i64 at0]).alloc (.cells #[.string ⟨#[]⟩, .int .i64 0] 48)
  have bb : Below w.heap.size w ((w.alloc (.cells #[.string s, .int .i64 at0] 48)).alloc (.cells #[.string ⟨#[]⟩, .int .i64 0] 48)) := ((Below.refl _ _).alloc (Nat.le_refl _) _).alloc (by simp) _
  have hS := Has.freshAt (w := w.alloc (.cells #[.string s, .int .i64 at0] 48)) (g := w.heap.size + 1) (by simp) 48 #[.string ⟨#[]⟩, .int .i64 0]
  have hnI : ¬ (n : Int) < 0 := by omega
  have hnJ : ¬ (600 : Int) < (n : Int) := by omega
  clear hkk
  go_enter Try.func35, Try.ntmps35
  have c0 := hR.cell 0
  have c1 := hR.cell 1
  simp at c0 c1
  have hs1 := bb.size
  go_wp2_with fail
  refine (K2.out _).mono ?_
  rintro e w2 ⟨rfl, b2⟩
  replace bb := bel_then b2 hs1 bb
  replace hR := hR.below b2 hR.lt
  replace hS := hS.below b2 hS.lt
  have hs2 := bb.size
  clear c0 c1 b2
  go_wp2_with fail
  refine (KT.out _).mono ?_
  rintro e w3 ⟨rfl, hw3⟩
  subst hw3
  have hRl := hR.lt
  have hSl := hS.lt
  have c0 := hR.cell 0
  have c1 := hR.cell 1
  simp at c0 c1
  have hG := Has.fresh w2 96 #[.string s, .int .i64 at0]
  have hS4 := hS.alloc (.cells #[.string s, .int .i64 at0] 96)
  have bb4 : Below w.heap.size w (w2.alloc (.cells #[.string s, .int .i64 at0] 96)) := bb.alloc hs2 _
  clear hR hS
  obtain ⟨g, hg⟩ : ∃ g, w2.heap.size = g := ⟨_, rfl⟩
  have hT5 := Has.freshAt (w := w2.alloc (.cells #[.string s, .int .i64 at0] 96)) (g := g + 1) (by simp [hg]) 3 (iC (List.replicate n 0))
  obtain ⟨w5, hw5⟩ : ∃ w5, (w2.alloc (.cells #[.string s, .int .i64 at0] 96)).alloc (.cells (iC (List.replicate n 0)) 3) = w5 := ⟨_, rfl⟩
  have hG5 := hG.alloc (.cells (iC (List.replicate n 0)) 3)
  have hS5 := hS4.alloc (.cells (iC (List.replicate n 0)) 3)
  have bb5 := bb4.alloc (by have := bb4.size; omega) (.cells (iC (List.replicate n 0)) 3)
  have hmk : (Instr.makeSlice 24 (.int .i64 (n : Int)) (.int .i64 (n : Int))).run Try.prog (w2.alloc (.cells #[.string s, .int .i64 at0] 96)) = .ok (.slice (some ⟨g + 1, 0, none⟩) n n) w5 := by
    rw [mk_ints n (by omega), ← hw5]
    simp [hg]
  have hs5 : w5.heap.size = g + 2 := by rw [← hw5]; simp [hg]
  rw [hw5] at hT5 hG5 hS5 bb5
  rw [hg] at hG5 hRl hSl
  clear hG hS4 bb4 hw5 bb hs1
  have HS0 : Hid (iC (List.replicate n 0) = iC (ints [] ++ List.replicate (n - 0) 0)) := hidden (by simp [ints])
  rw [HS0.out] at hT5
  have HFS := hidden (fun (D : List Nat) (i x : Nat) (h1 : D.length = i) (h2 : i < n) => fill_nat D n x h1 h2)
  go_wp2
  go_loopw [11, 12, 35] (fun _ _ si wr => ∃ (i c : Nat) (D : List Nat), i ≤ n ∧ si = .int .i64 i ∧ Hid (D.length = i) ∧ Hid (Unas s k at0 D c) ∧ Hid (Has wr g 96 #[.string s, .int .i64 (c : Int)]) ∧ Hid (Has wr (w.heap.size + 1) 48 #[.string ⟨#[]⟩, .int .i64 0]) ∧ Hid (Has wr (g + 1) 3 (iC (ints D ++ List.replicate (n - i) 0))) ∧ Below w.heap.size w wr ∧ g + 2 ≤ wr.heap.size) (fun _ _ si _ => n - (intOf si).toNat)
  case atStart => exact ⟨0, at0, [], by omega, rfl, hidden rfl, hidden rfl, hidden hG5, hidden hS5, hidden hT5, bb5, by omega⟩
  case round =>
    clear hG5 hS5 hT5 bb5 hmk
    obtain ⟨i, c, D, hi2, rfl, HL, HU, HG, HS, HT, hbl, hgs⟩ := hrel
    by_cases hlt : i < n
    · have hcle := HMEM.out D c HU.out
      have K5 := hidden (K4.out _ c g hcle HG.out)
      clear hcle
      go_wp2_with fail
      refine K5.out.mono ?_
      rintro e w6 ⟨hcase, hO6⟩
      have hsz6 := hO6.size
      have hS6 := hO6.has HS.out (by omega)
      have hT6 := hO6.has HT.out (by omega)
      have hbl6 : Below w.heap.size w w6 := only_then hO6 (by omega) hbl.size hbl
      have d0 := hT6.cell i
      have f0 := hT6.free i
      rw [iC_get _ _ (by rw [List.length_append, ints_len, List.length_replicate, HL.out]; omega)] at d0
      rcases hcase with ⟨x, hx, rfl, hG6⟩ | ⟨hno, rfl⟩
      · have HX := hidden hx
        have hG7 := hidden (hG6.storeAway (p := ⟨g + 1, i, none⟩) (by simp) (.int .i64 (x : Int)))
        have hS7 := hidden (hS6.storeAway (p := ⟨g + 1, i, none⟩) (by simp; omega) (.int .i64 (x : Int)))
        have hT7 := hT6.store i (.int .i64 (x : Int))
        rw [iC_set, HFS.out D i x HL.out hlt] at hT7
        have HT7 := hidden hT7
        have hbl7 := hbl6.setCell (p := ⟨g + 1, i, none⟩) (by simp; omega) (.int .i64 (x : Int))
        have hU2 := HU.out.snoc hx
        have HU2 := hidden hU2
        clear hx hG6 hS6 hT6 hT7 hbl6 hO6 hU2
        go_wp2
        go_roundw
        case rel => exact ⟨i + 1, c + x + 1, D ++ [x], by omega, by go_num, hidden (by rw [List.length_append, HL.out]; rfl), HU2, hG7, hS7, HT7, hbl7, by simp [World.setCell]; omega⟩
        case measure => simp [intOf]; omega
      · have HNO : Hid (∀ E d, E.length = n → ¬ Unas s k at0 E d) := hidden (fun E d hE h => by
          have := HSTOP.out c d D E HU.out hno h
          have := HL.out
          omega)
        have e0 := hS6.cell 0
        have e1 := hS6.cell 1
        have g0 := hS6.free 0
        have g1 := hS6.free 1
        simp at e0 e1
        have hs6 := hbl6.size
        clear hno hS6 hT6 hO6
        go_wp2
        refine bodyPost_ret (v := .tuple #[.slice none 0 0, .agg #[.string ⟨#[]⟩, .int .i64 0], .bool false]) (by simp [results, Try.results35, go_sem, e0, e1, g0, g1]) rfl ⟨.inr ⟨HNO.out, rfl⟩, ?_⟩
        repeat (first | exact Below.refl _ _ | assumption | refine Below.alloc ?_ (by (try simp); (try omega)) _ | refine Below.setCell ?_ (by (try simp); (try omega)) _ | refine Below.drew ?_ | refine bel_then (by assumption) (by (try simp); (try omega)) ?_)
    · obtain rfl : i = n := by omega
      have hT := HT.out
      rw [Nat.sub_self, List.replicate_zero, List.append_nil] at hT
      have hDk := HLT.out D c HU.out
      have hI := Ints.ofHas hT (by rw [ints_len, HL.out]; omega) (fun x hx => by
        unfold ints at hx
        obtain ⟨y, hy, rfl⟩ := List.mem_map.1 hx
        have := hDk y hy
        omega)
      have KUW := hidden (fun W (hW : Below wr.heap.size wr W) => KU.out (some ⟨g + 1, 0, none⟩) i (g + 2) (ints D) W (hI.below (hW.mono hgs)) (by have := hW.size; omega) (by rw [ints_len, HL.out]; omega))
      rw [ints_len, HL.out, HUL.out D c HU.out (by rw [HL.out]; omega), HL.out] at KUW
      have d0 := HG.out.cell 0
      have d1 := HG.out.cell 1
      have e0 := HS.out.cell 0
      have e1 := HS.out.cell 1
      have f0 := HS.out.free 0
      have f1 := HS.out.free 1
      simp at d0 d1 e0 e1
      have hsb := hbl.size
      have q1 : w.heap.size + 1 < wr.heap.size := by omega
      have q2 : g < wr.heap.size := by omega
      clear hT hI hDk KU KT K2 K4
      go_wp2
      go_region_with (go_at_call 77; refine (KUW.out _ (by repeat (first | exact Below.refl _ _ | apply Below.drew))).mono ?_; rintro e w7 ⟨v, rfl, o7, b7⟩; have d0' := (b7.cell (p := ⟨g, 0, none⟩) q2).trans d0; have d1' := (b7.cell (p := ⟨g, 1, none⟩) q2).trans d1; have e0' := (b7.cell (p := ⟨w.heap.size + 1, 0, none⟩) q1).trans e0; have e1' := (b7.cell (p := ⟨w.heap.size + 1, 1, none⟩) q1).trans e1; have f0' := (b7.frozen (p := ⟨w.heap.size + 1, 0, none⟩) q1).trans f0; have f1' := (b7.frozen (p := ⟨w.heap.size + 1, 1, none⟩) q1).trans f1)
      all_goals (try go_wp2)
      all_goals
        refine bodyPost_ret (v := .tuple #[v, .agg #[.string s, .int .i64 (c : Int)], .bool true]) (by simp [results, Try.results35, go_sem, d0, d1, e0, e1, f0, f1, d0', d1', e0', e1', f0', f1']) rfl ⟨.inl ⟨D, c, v, HL.out, HU.out, rfl, ?_⟩, ?_⟩
        · refine own_base10 (base := wr.heap.size) ?_ hsb
          repeat (first | exact o7 | refine own_away ?_ (by (try simp); omega) _ | exact (own_away (own_away o7 (p := ⟨w.heap.size + 1, 0, none⟩) (by (try simp); omega) _) (p := ⟨w.heap.size + 1, 1, none⟩) (by (try simp); omega) _).drew)
        · repeat (first | exact Below.refl _ _ | assumption | refine Below.alloc ?_ (by (try simp); (try omega)) _ | refine Below.setCell ?_ (by (try simp); (try omega)) _ | refine Below.drew ?_ | refine bel_then b7 (by (try simp); (try omega)) ?_)
set_option maxHeartbeats 2000000 in
set_option maxRecDepth 100000 in
theorem implGetSels_no (s : ByteArray) (at0 n k : Int) (w : World) (hs : s.size ≤ 1048576) (b1 : -9223372036854775808 ≤ at0) (b2 : at0 ≤ 9223372036854775807) (b3 : -9223372036854775808 ≤ n) (b4 : n ≤ 9223372036854775807)
    (b5 : -9223372036854775808 ≤ k) (b6 : k ≤ 9223372036854775807)
    (h : ¬ (0 ≤ at0 ∧ at0 ≤ 8 * s.size ∧ 0 ≤ n ∧ n ≤ 600 ∧ 1 ≤ k ∧ k ≤ 4)) :
    Calls Try.prog 35 #[.agg #[.string s, .int .i64 at0], .int .i64 n, .int .i64 k] w fun e w' => e = .returned (.tuple #[.slice none 0 0, .agg #[.string ⟨#[]⟩, .int .i64 0], .bool false]) ∧ Below w.heap.size w w' := by
  have hR := (Has.fresh w 48 #[.string s, .int .i64 at0]).alloc (.cells #[.string ⟨#[]⟩, .int .i64 0] 48)
  have bb : Below w.heap.size w ((w.alloc (.cells #[.string s, .int .i64 at0] 48)).alloc (.cells #[.string ⟨#[]⟩, .int .i64 0] 48)) := ((Below.refl _ _).alloc (Nat.le_refl _) _).alloc (by simp) _
  have hS := Has.freshAt (w := w.alloc (.cells #[.string s, .int .i64 at0] 48)) (g := w.heap.size + 1) (by simp) 48 #[.string ⟨#[]⟩, .int .i64 0]
  have c0 := hR.cell 0
  have c1 := hR.cell 1
  simp at c0 c1
  by_cases hat : 0 ≤ at0 ∧ at0 ≤ 8 * s.size
  · obtain ⟨q, rfl⟩ : ∃ q : Nat, at0 = q := ⟨at0.toNat, by omega⟩
    have hq : q ≤ 8 * s.size := by omega
    have hn : n < 0 ∨ (¬ n < 0 ∧ 600 < n) ∨ (¬ n < 0 ∧ ¬ 600 < n ∧ ¬ (1 ≤ k ∧ k ≤ 4)) := by omega
    have KT := hidden (fun W => tableCountOk_any k W)
    have K2 := hidden (fun W => implRdOk_yes s q W hs hq)
    clear h hat hR
    rcases hn with hn | ⟨hn, hn2⟩ | ⟨hn, hn2, hn3⟩
    · go_enter Try.func35, Try.ntmps35
      go_wp2_with fail
      refine (K2.out _).mono ?_
      rintro e w2 ⟨rfl, b2⟩
      replace bb := bel_then b2 bb.size bb
      replace hS := hS.below b2 hS.lt
      have hs2 := bb.size
      have e0 := hS.cell 0
      have e1 := hS.cell 1
      have g0 := hS.free 0
      have g1 := hS.free 1
      simp at e0 e1
      clear b2 hS
      go_wp2
      refine bodyPost_ret (v := .tuple #[.slice none 0 0, .agg #[.string ⟨#[]⟩, .int .i64 0], .bool false]) (by simp [results, Try.results35, go_sem, e0, e1, g0, g1]) rfl ⟨rfl, ?_⟩
      repeat (first | exact Below.refl _ _ | assumption | refine Below.alloc ?_ (by (try simp); (try omega)) _ | refine Below.setCell ?_ (by (try simp); (try omega)) _ | refine Below.drew ?_ | refine bel_then (by assumption) (by (try simp); (try omega)) ?_)
    · go_enter Try.func35, Try.ntmps35
      go_wp2_with fail
      refine (K2.out _).mono ?_
      rintro e w2 ⟨rfl, b2⟩
      replace bb := bel_then b2 bb.size bb
      replace hS := hS.below b2 hS.lt
      have hs2 := bb.size
      have e0 := hS.cell 0
      have e1 := hS.cell 1
      have g0 := hS.free 0
      have g1 := hS.free 1
      simp at e0 e1
      clear b2 hS
      go_wp2
      refine bodyPost_ret (v := .tuple #[.slice none 0 0, .agg #[.string ⟨#[]⟩, .int .i64 0], .bool false]) (by simp [results, Try.results35, go_sem, e0, e1, g0, g1]) rfl ⟨rfl, ?_⟩
      repeat (first | exact Below.refl _ _ | assumption | refine Below.alloc ?_ (by (try simp); (try omega)) _ | refine Below.setCell ?_ (by (try simp); (try omega)) _ | refine Below.drew ?_ | refine bel_then (by assumption) (by (try simp); (try omega)) ?_)
    · rw [decide_eq_false hn3] at KT
      clear hn3
      go_enter Try.func35, Try.ntmps35
      go_wp2_with fail
      refine (K2.out _).mono ?_
      rintro e w2 ⟨rfl, b2⟩
      replace bb := bel_then b2 bb.size bb
      replace hS := hS.below b2 hS.lt
      have hs2 := bb.size
      clear b2
      go_wp2_with fail
      refine (KT.out _).mono ?_
      rintro e w3 ⟨rfl, hw3⟩
      subst hw3
      have e0 := hS.cell 0
      have e1 := hS.cell 1
      have g0 := hS.free 0
      have g1 := hS.free 1
      simp at e0 e1
      clear hS
      go_wp2
      refine bodyPost_ret (v := .tuple #[.slice none 0 0, .agg #[.string ⟨#[]⟩, .int .i64 0], .bool false]) (by simp [results, Try.results35, go_sem, e0, e1, g0, g1]) rfl ⟨rfl, ?_⟩
      repeat (first | exact Below.refl _ _ | assumption | refine Below.alloc ?_ (by (try simp); (try omega)) _ | refine Below.setCell ?_ (by (try simp); (try omega)) _ | refine Below.drew ?_ | refine bel_then (by assumption) (by (try simp); (try omega)) ?_)
  · have K2 := hidden (fun W => implRdOk_no s at0 W hs b1 b2 hat)
    clear h hat hR
    go_enter Try.func35, Try.ntmps35
    go_wp2_with fail
    refine (K2.out _).mono ?_
    rintro e w2 ⟨rfl, b2⟩
    replace bb := bel_then b2 bb.size bb
    replace hS := hS.below b2 hS.lt
    have hs2 := bb.size
    have e0 := hS.cell 0
    have e1 := hS.cell 1
    have g0 := hS.free 0
    have g1 := hS.free 1
    simp at e0 e1
    clear b2 hS
    go_wp2
    refine bodyPost_ret (v := .tuple #[.slice none 0 0, .agg #[.string ⟨#[]⟩, .int .i64 0], .bool false]) (by simp [results, Try.results35, go_sem, e0, e1, g0, g1]) rfl ⟨rfl, ?_⟩
    repeat (first | exact Below.refl _ _ | assumption | refine Below.alloc ?_ (by (try simp); (try omega)) _ | refine Below.setCell ?_ (by (try simp); (try omega)) _ | refine Below.drew ?_ | refine bel_then (by assumption) (by (try simp); (try omega)) ?_)
end Go.Proofs.Ytaaahmfkdiogkaa
