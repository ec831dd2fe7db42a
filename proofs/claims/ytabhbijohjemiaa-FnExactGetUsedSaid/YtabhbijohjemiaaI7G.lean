/- Chapter 7, the program: the places that a mask shows; GetUsed. -/
import Derived.Test.YtabhbijohjemiaaC7G
import Derived.Test.YtabhbijohjemiaaC1Get2
import Derived.Test.YtabhbijohjemiaaNats
import Derived.Lib.SmallJoins
namespace Go.Proofs.Ytabhbijohjemiaa
set_option linter.unusedVariables false
set_option linter.unusedSimpArgs false
open Go.RowKit

theorem maskBit_any (p : Nat) (w : World) (hp : p < 16) :
    Calls Try.prog 52 #[.int .i64 p] w fun e w' => e = .returned (.int .i64 ((2 ^ (15 - p) : Nat) : Int)) ∧ w' = w := by
  have hpI : (p : Int) < 16 := by omega
  have h2 : 2 ^ (15 - p) ≤ 2 ^ 15 := Nat.pow_le_pow_right (by omega) (by omega)
  obtain ⟨q, hq⟩ : ∃ q, 2 ^ (15 - p) = q := ⟨_, rfl⟩
  have hwd : Value.int .i64 (wrap64 (2 ^ (15 - p))) = Value.int .i64 (q : Int) := by
    rw [show ((2 : Int) ^ (15 - p)) = ((2 ^ (15 - p) : Nat) : Int) by simp, hq, wrap64_n _ (by omega)]
  rw [hq]
  clear hq h2
  go_enter Try.func52, Try.ntmps52
  go_wp2
  go_ret
  exact ⟨congrArg Ending.returned hwd, rfl⟩

theorem and_mask (m k : Nat) (hm : m < 65536) (hk : k ≤ 15) : bits BinOp.and IntKind.i64 (m : Int) ((2 ^ k : Nat) : Int) = ((m / 2 ^ k % 2 * 2 ^ k : Nat) : Int) := by
  have h2 : 2 ^ k ≤ 2 ^ 15 := Nat.pow_le_pow_right (by omega) hk
  rw [i64_and_nat m (2 ^ k) (by omega) (by omega)]
  congr 1
  have ht := Nat.testBit_eq_decide_div_mod_eq (x := m) (i := k)
  rcases (by omega : m / 2 ^ k % 2 = 0 ∨ m / 2 ^ k % 2 = 1) with h | h
  · rw [h, Nat.zero_mul]
    rw [h] at ht
    apply Nat.eq_of_testBit_eq
    intro j
    rw [Nat.testBit_and, Nat.testBit_two_pow, Nat.zero_testBit]
    by_cases e : k = j
    · subst e; rw [ht]; rfl
    · simp [e]
  · rw [h, Nat.one_mul]
    rw [h] at ht
    apply Nat.eq_of_testBit_eq
    intro j
    rw [Nat.testBit_and, Nat.testBit_two_pow]
    by_cases e : k = j
    · subst e; rw [ht]; rfl
    · simp [e]
theorem natsL_snoc7 (D : List Nat) (x : Nat) : natsL (D ++ [x]) = natsL D ++ [.int .i64 (x : Int)] := by simp [natsL]
set_option maxHeartbeats 1000000 in
set_option maxRecDepth 100000 in
theorem getPlaces_yes (s : ByteArray) (a m : Nat) (w : World) (hs : s.size ≤ 1048576) (ha : a + 16 ≤ 8 * s.size) (hm : num (row s a 16) = m) (h0 : m ≠ 0) :
    Calls Try.prog 60 #[.agg #[.string s, .int .i64 a]] w fun e w' => ∃ v, e = .returned (.tuple #[v, .agg #[.string s, .int .i64 ((a + 16 : Nat) : Int)], .bool true]) ∧ w'.ownsRow w.heap.size 3 1 v (places m).length (natsL (places m)) ∧ Below w.heap.size w w' := by
  obtain ⟨i0, hi, hz0, hz1, hz2⟩ := info_parts Try.infoInt
  have hm16 : m < 65536 := by rw [← hm]; exact num_row_lt s a 16
  have K1 := hidden (fun W : World => implGet_yes s a 16 W hs (by omega) ha)
  rw [hm] at K1
  obtain ⟨c, hc⟩ : ∃ c, a + 16 = c := ⟨_, rfl⟩
  have HC := hidden hc
  rw [hc] at K1 ⊢
  have KM := hidden (fun (W : World) p hp => maskBit_any p W hp)
  have bb : Below w.heap.size w ((w.alloc (.cells #[.string s, .int .i64 a] 30)).alloc (.cells #[.string ⟨#[]⟩, .int .i64 0] 30)) := ((Below.refl _ _).alloc (Nat.le_refl _) _).alloc (by simp) _
  have hR := (Has.fresh w 30 #[.string s, .int .i64 a]).alloc (.cells #[.string ⟨#[]⟩, .int .i64 0] 30)
  have hS := Has.freshAt (w := w.alloc (.cells #[.string s, .int .i64 a] 30)) (g := w.heap.size + 1) (by simp) 30 #[.string ⟨#[]⟩, .int .i64 0]
  have hmz : ((m : Int) == 0) = false := by rw [beq_eq_false_iff_ne]; omega
  have hmn : ¬ (m : Int) = 0 := by omega
  clear hm h0
  go_enter Try.func60, Try.ntmps60
  go_wp2_with fail
  refine (K1.out _).mono ?_
  rintro e w2 ⟨rfl, b2⟩
  replace bb := bel_then b2 bb.size bb
  replace hR := hR.below b2 hR.lt
  replace hS := hS.below b2 hS.lt
  have hs2 := bb.size
  have hRl := hR.lt
  have hSl := hS.lt
  have r0 := hR.cell 0
  have r1 := hR.cell 1
  have q0 := hR.free 0
  have q1 := hR.free 1
  simp at r0 r1
  have hR2 := (hR.store 0 (.string s)).store 1 (.int .i64 (c : Int))
  have hS2 := (hS.storeAway (p := ⟨w.heap.size, 0, none⟩) (by simp) (.string s)).storeAway (p := ⟨w.heap.size, 1, none⟩) (by simp) (.int .i64 (c : Int))
  have bb2 := (bb.setCell (p := ⟨w.heap.size, 0, none⟩) (Nat.le_refl _) (.string s)).setCell (p := ⟨w.heap.size, 1, none⟩) (Nat.le_refl _) (.int .i64 (c : Int))
  simp at hR2
  clear b2 hR hS bb hc
  go_wp2
  go_loopw [7, 8, 22] (fun v _ sp wr => ∃ p : Nat, p ≤ 16 ∧ sp = .int .i64 p ∧ wr.ownsRow w2.heap.size 3 1 v (placesTo m p).length (natsL (placesTo m p)) ∧ Has wr w.heap.size 30 #[.string s, .int .i64 (c : Int)] ∧ Has wr (w.heap.size + 1) 30 #[.string ⟨#[]⟩, .int .i64 0] ∧ Below w.heap.size w wr ∧ w2.heap.size ≤ wr.heap.size) (fun _ _ sp _ => 16 - (intOf sp).toNat)
  case atStart => exact ⟨0, by omega, rfl, World.ownsRow_nil _ _ _ _, hR2, hS2, bb2, by simp⟩
  case round =>
    obtain ⟨p, hp, rfl, hown, hR, hS, hbl, hsz⟩ := hrel
    clear hR2 hS2 bb2 r0 r1 q0 q1
    by_cases hlt : p < 16
    · have hand := and_mask m (15 - p) hm16 (by omega)
      have KP := hidden (KM.out wr p hlt)
      have HPT := hidden (placesTo_succ m p)
      have hpl := placesTo_len m p
      obtain ⟨y, hy⟩ : ∃ y, m / 2 ^ (15 - p) % 2 = y := ⟨_, rfl⟩
      have hy2 : y < 2 := by omega
      obtain ⟨q, hq⟩ : ∃ q, 2 ^ (15 - p) = q := ⟨_, rfl⟩
      have hq0 : 0 < q := by rw [← hq]; exact Nat.two_pow_pos _
      rw [hy] at hand HPT
      rw [hq] at hand KP
      clear hy hq
      by_cases hy1 : y = 1
      · subst hy1
        have HN : Hid (placesTo m (p + 1) = placesTo m p ++ [p]) := hidden (by rw [HPT.out, if_pos rfl])
        rw [Nat.one_mul] at hand
        have hqz : ((q : Int) == 0) = false := by rw [beq_eq_false_iff_ne]; omega
        have hqn : ¬ (q : Int) = 0 := by omega
        go_wp2_with fail
        refine KP.out.mono ?_
        rintro e w3 ⟨rfl, rfl⟩
        go_wp2_with (at_builtin; refine wpList_append_own _ rfl _ _ 39 rfl w2.heap.size 3 i0 (.int .i64 0) 1 8 Try.underlying39 hi hz0 hz1 hz2 rfl (by decide) _ _ _ rfl (hown.alloc _) ⟨w3.heap.size, 0, none⟩ 1 1 [.int .i64 (p : Int)] rfl rfl ?c1 ?c2 ?c3 ?c4 ?c5 ?_)
        case c1 => exact cell_one_new _ _ _
        case c2 => exact fun u hu => by simp at hu; subst hu; rfl
        case c3 => unfold maxLen; omega
        case c4 => omega
        case c5 => first | omega | (simp; omega)
        intro v5 w5 hown5 hgrow _
        have hlo := fun g hg => (hown.lt g hg).1
        have hR5 := (hR.alloc (.cells #[.int .i64 (p : Int)] 3)).grown hgrow (fun e => by have := hlo _ e.symm; omega)
        have hS5 := (hS.alloc (.cells #[.int .i64 (p : Int)] 3)).grown hgrow (fun e => by have := hlo _ e.symm; omega)
        have hb5 : Below w.heap.size w w5 := (hbl.alloc hbl.size _).grown hgrow (by simp; omega) (fun g hg => by have := hlo g hg; omega)
        have hs5 : w2.heap.size ≤ w5.heap.size := by have := hgrow.size; simp at this; omega
        rw [← natsL_snoc7, ← HN.out] at hown5
        have HO5 : Hid (w5.ownsRow w2.heap.size 3 1 v5 (placesTo m (p + 1)).length (natsL (placesTo m (p + 1)))) := hidden (by rw [show (placesTo m (p + 1)).length = (placesTo m p).length + 1 by rw [HN.out]; simp]; exact hown5)
        clear hown hown5 hgrow hlo hR hS hbl
        go_wp2
        go_roundw
        case rel => exact ⟨p + 1, by omega, by go_num, HO5.out, hR5, hS5, hb5, hs5⟩
        case measure => simp [intOf]; omega
      · have hy0 : y = 0 := by omega
        subst hy0
        have HN : Hid (placesTo m (p + 1) = placesTo m p) := hidden (by rw [HPT.out, if_neg (by omega)])
        rw [Nat.zero_mul] at hand
        go_wp2_with fail
        refine KP.out.mono ?_
        rintro e w3 ⟨rfl, rfl⟩
        go_wp2
        go_roundw
        case rel => exact ⟨p + 1, by omega, by go_num, by rw [HN.out]; exact hown, hR, hS, hbl, hsz⟩
        case measure => simp [intOf]; omega
    · have hp16 : p = 16 := by omega
      subst hp16
      have HPE : Hid (placesTo m 16 = places m) := hidden rfl
      rw [HPE.out] at hown
      have d0 := hR.cell 0
      have d1 := hR.cell 1
      have e0 := hS.cell 0
      have e1 := hS.cell 1
      have g0 := hS.free 0
      have g1 := hS.free 1
      simp at d0 d1 e0 e1
      have hRl := hR.lt
      have hSl := hS.lt
      have HO := hidden hown
      have hlo := fun g hg => (hown.lt g hg).1
      have hbs := hbl.size
      clear hR hS hown
      go_wp2
      (try go_region)
      all_goals (try go_wp2)
      all_goals
        refine bodyPost_ret (v := .tuple #[u7, .agg #[.string s, .int .i64 (c : Int)], .bool true]) (by simp [results, Try.results60, go_sem, d0, d1, e0, e1, g0, g1]) rfl ⟨u7, rfl, ?_, ?_⟩
      · refine Joins.ownsRow_le (?_ : World.ownsRow _ w2.heap.size _ _ _ _ _) hs2
        exact own_away (own_away HO.out (p := ⟨w.heap.size + 1, 0, none⟩) (by simp; omega) _) (p := ⟨w.heap.size + 1, 1, none⟩) (by simp; omega) _
      · repeat (first | exact Below.refl _ _ | assumption | refine Below.alloc ?_ (by (try simp); (try omega)) _ | refine Below.setCell ?_ (by (try simp); (try omega)) _ | refine Below.drew ?_ | refine bel_then (by assumption) (by (try simp); (try omega)) ?_)
set_option maxHeartbeats 1000000 in
set_option maxRecDepth 100000 in
theorem getPlaces_no (s : ByteArray) (a : Int) (w : World) (hs : s.size ≤ 1048576) (b1 : -9223372036854775808 ≤ a) (b2 : a ≤ 9223372036854775807) (h : ¬ (0 ≤ a ∧ a + 16 ≤ 8 * s.size ∧ num (row s a.toNat 16) ≠ 0)) :
    Calls Try.prog 60 #[.agg #[.string s, .int .i64 a]] w fun e w' => e = .returned (.tuple #[.slice none 0 0, .agg #[.string ⟨#[]⟩, .int .i64 0], .bool false]) ∧ Below w.heap.size w w' := by
  have bb : Below w.heap.size w ((w.alloc (.cells #[.string s, .int .i64 a] 30)).alloc (.cells #[.string ⟨#[]⟩, .int .i64 0] 30)) := ((Below.refl _ _).alloc (Nat.le_refl _) _).alloc (by simp) _
  have hR := (Has.fresh w 30 #[.string s, .int .i64 a]).alloc (.cells #[.string ⟨#[]⟩, .int .i64 0] 30)
  have hS := Has.freshAt (w := w.alloc (.cells #[.string s, .int .i64 a] 30)) (g := w.heap.size + 1) (by simp) 30 #[.string ⟨#[]⟩, .int .i64 0]
  by_cases hr : 0 ≤ a ∧ a + 16 ≤ 8 * s.size
  · obtain ⟨q, rfl⟩ : ∃ q : Nat, a = q := ⟨a.toNat, by omega⟩
    have hz : num (row s q 16) = 0 := by
      apply Decidable.byContradiction
      intro hc
      exact h ⟨hr.1, hr.2, by rw [Int.toNat_natCast]; exact hc⟩
    have K1 := hidden (fun W : World => implGet_yes s q 16 W hs (by omega) (by omega))
    rw [hz] at K1
    obtain ⟨c, hc⟩ : ∃ c, q + 16 = c := ⟨_, rfl⟩
    rw [hc] at K1
    clear hz h hr b1 b2 hc
    go_enter Try.func60, Try.ntmps60
    go_wp2_with fail
    refine (K1.out _).mono ?_
    rintro e w2 ⟨rfl, b2⟩
    replace bb := bel_then b2 bb.size bb
    replace hR := hR.below b2 hR.lt
    replace hS := hS.below b2 hS.lt
    have hs2 := bb.size
    have hRl := hR.lt
    have hSl := hS.lt
    have r0 := hR.cell 0
    have r1 := hR.cell 1
    have q0 := hR.free 0
    have q1 := hR.free 1
    have e0 := hS.cell 0
    have e1 := hS.cell 1
    have g0 := hS.free 0
    have g1 := hS.free 1
    simp at r0 r1 e0 e1
    clear b2 hR hS
    go_wp2
    refine bodyPost_ret (v := .tuple #[.slice none 0 0, .agg #[.string ⟨#[]⟩, .int .i64 0], .bool false]) (by simp [results, Try.results60, go_sem, e0, e1, g0, g1]) rfl ⟨rfl, ?_⟩
    repeat (first | exact Below.refl _ _ | assumption | refine Below.alloc ?_ (by (try simp); (try omega)) _ | refine Below.setCell ?_ (by (try simp); (try omega)) _ | refine Below.drew ?_ | refine bel_then (by assumption) (by (try simp); (try omega)) ?_)
  · have K1 := hidden (fun W : World => implGet_no s a 16 W hs b1 b2 (fun h => hr ⟨h.1, h.2.2.2⟩))
    clear h hr
    go_enter Try.func60, Try.ntmps60
    go_wp2_with fail
    refine (K1.out _).mono ?_
    rintro e w2 ⟨rfl, b2⟩
    replace bb := bel_then b2 bb.size bb
    replace hR := hR.below b2 hR.lt
    replace hS := hS.below b2 hS.lt
    have hs2 := bb.size
    have hRl := hR.lt
    have hSl := hS.lt
    have r0 := hR.cell 0
    have r1 := hR.cell 1
    have q0 := hR.free 0
    have q1 := hR.free 1
    have e0 := hS.cell 0
    have e1 := hS.cell 1
    have g0 := hS.free 0
    have g1 := hS.free 1
    simp at r0 r1 e0 e1
    clear b2 hR hS
    go_wp2
    refine bodyPost_ret (v := .tuple #[.slice none 0 0, .agg #[.string ⟨#[]⟩, .int .i64 0], .bool false]) (by simp [results, Try.results60, go_sem, e0, e1, g0, g1]) rfl ⟨rfl, ?_⟩
    repeat (first | exact Below.refl _ _ | assumption | refine Below.alloc ?_ (by (try simp); (try omega)) _ | refine Below.setCell ?_ (by (try simp); (try omega)) _ | refine Below.drew ?_ | refine bel_then (by assumption) (by (try simp); (try omega)) ?_)
end Go.Proofs.Ytabhbijohjemiaa
