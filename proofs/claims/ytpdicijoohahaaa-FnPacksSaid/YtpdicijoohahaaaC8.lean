/- Chapter 8: RanksOk, and the rows of move-to-front (the model). -/
import Derived.Test.YtpdicijoohahaaaRec
import Derived.Test.YtpdicijoohahaaaC7J
import Derived.Test.YtpdicijoohahaaaNats
import Derived.Lib.SmallJoins
namespace Go.Proofs.Ytpdicijoohahaaa
set_option linter.unusedVariables false
set_option linter.unusedSimpArgs false
open Go.RowKit

set_option maxHeartbeats 1000000 in
set_option maxRecDepth 100000 in
theorem specRanksOk_any (a : Option Addr) (cap B : Nat) (z : List Int) (n : Int) (w : World) (hz : Ints w B a z) (hl : z.length ≤ 1048576) (n1 : -9223372036854775808 ≤ n) (n2 : n ≤ 9223372036854775807) :
    Calls Try.prog 29 #[.slice a z.length cap, .int .i64 n] w fun e w' => e = .returned (.bool (rOk z n)) ∧ w = w' := by
  have HIT := hidden (rOk_iff z n)
  obtain ⟨m, hm⟩ : ∃ m, z.length = m := ⟨_, rfl⟩
  have HN := hidden hm
  have HZ := hidden hz
  rw [hm] at hl ⊢
  clear hm hz
  by_cases h1 : n < 1
  · have HF : Hid (rOk z n = false) := hidden (bool_false (fun h => by have := HIT.out.1 h; omega))
    go_enter Try.func29, Try.ntmps29
    go_wp2
    go_ret
    exact ⟨ret_bool HF.out.symm, rfl⟩
  · by_cases h2 : (256 : Int) < n
    · have HF : Hid (rOk z n = false) := hidden (bool_false (fun h => by have := HIT.out.1 h; omega))
      go_enter Try.func29, Try.ntmps29
      go_wp2
      go_ret
      exact ⟨ret_bool HF.out.symm, rfl⟩
    · by_cases h3 : (600 : Int) < m
      · have HF : Hid (rOk z n = false) := hidden (bool_false (fun h => by have := (HIT.out.1 h).2.2.1; rw [HN.out] at this; omega))
        go_enter Try.func29, Try.ntmps29
        go_wp2
        go_ret
        exact ⟨ret_bool HF.out.symm, rfl⟩
      · go_enter Try.func29, Try.ntmps29
        go_wp2
        go_loopw [5] (fun sk wr => ∃ k : Nat, k ≤ m ∧ sk = .int .i64 k ∧ Hid (∀ j, j < k → 0 ≤ z.getD j 0 ∧ z.getD j 0 < n) ∧ w = wr) (fun sk _ => m - (intOf sk).toNat)
        case atStart => exact ⟨0, by omega, rfl, hidden (fun j hj => by omega), by first | trivial | rfl⟩
        case round =>
          obtain ⟨k, hk, rfl, HA, rfl⟩ := hrel
          by_cases hlt : k < m
          · obtain ⟨b, off, rfl, hb, hc⟩ := HZ.out.2.2 (by rw [HN.out]; omega)
            have ck := hc k (by rw [HN.out]; exact hlt)
            have HMK : Hid (z.getD k 0 ∈ z) := hidden (getD_mem (by rw [HN.out]; exact hlt))
            obtain ⟨x, hx⟩ : ∃ x, z.getD k 0 = x := ⟨_, rfl⟩
            rw [hx] at ck HMK
            have HX := hidden hx
            clear hx hc
            by_cases hx0 : x < 0
            · have HF : Hid (rOk z n = false) := hidden (bool_false (fun h => by have := (HIT.out.1 h).2.2.2 x HMK.out; omega))
              go_wp2
              go_ret
              exact ⟨ret_bool HF.out.symm, rfl⟩
            · by_cases hxn : n ≤ x
              · have HF : Hid (rOk z n = false) := hidden (bool_false (fun h => by have := (HIT.out.1 h).2.2.2 x HMK.out; omega))
                go_wp2
                go_ret
                exact ⟨ret_bool HF.out.symm, rfl⟩
              · have HA2 : Hid (∀ j, j < k + 1 → 0 ≤ z.getD j 0 ∧ z.getD j 0 < n) := hidden (fun j hj => by
                  rcases Nat.lt_or_ge j k with h | h
                  · exact HA.out j h
                  · rw [show j = k by omega, HX.out]; omega)
                go_wp2
                go_roundw
                case rel => exact ⟨k + 1, by omega, by go_num, HA2, by first | trivial | rfl⟩
                case measure => simp [intOf]; omega
          · have hkm : k = m := by omega
            subst hkm
            have HT : Hid (rOk z n = true) := hidden (HIT.out.2 ⟨by omega, by omega, by rw [HN.out]; omega, fun x hx => by
              obtain ⟨j, hj, rfl⟩ := mem_getD hx
              exact HA.out j (by rw [← HN.out]; exact hj)⟩)
            go_wp2
            go_ret
            exact ⟨ret_bool HT.out.symm, rfl⟩
theorem ret_i8 {a b : Int} (h : a = b) : Ending.returned (.int .i64 a) = .returned (.int .i64 b) := by rw [h]
theorem own_cap7 {w : World} {base g n c S : Nat} {e : TypeId} {xs : List Value} (h : w.ownsRow base e S (.slice (some ⟨g, 0, none⟩) n c) n xs) : n ≤ c := by
  rcases h.2 with ⟨h', _⟩ | ⟨g', cap', cur, h', _, _, hnc, _⟩
  · simp at h'
  · simp only [Value.slice.injEq] at h'
    omega
theorem add_at7 (g i j : Nat) : (⟨g, i, none⟩ : Addr).add j = ⟨g, i + j, none⟩ := by unfold Addr.add; split <;> simp_all
theorem own_bel7 {w w' : World} {base n S B : Nat} {e : TypeId} {v : Value} {xs : List Value} (h : w.ownsRow base e S v n xs) (hB : base ≤ B) (hb : Below w.heap.size w w') : w'.ownsRow base e S v n xs := own_bel h hb
theorem bel_made {w w1 : World} (hg : w.grownBy w1 none) : Below w.heap.size w w1 := ⟨hg.os, hg.tape, hg.output, hg.size, fun i hi => hg.block i hi (by simp)⟩
set_option maxHeartbeats 1000000 in
set_option maxRecDepth 100000 in
theorem l8row_any (n : Nat) (w : World) (hn : n ≤ 256) :
    Calls Try.prog 61 #[.int .i64 n] w fun e w' => ∃ g, e = .returned (.slice (some ⟨g, 0, none⟩) n n) ∧ w'.ownsRow w.heap.size 3 1 (.slice (some ⟨g, 0, none⟩) n n) n (natsL (List.range n)) ∧ Below w.heap.size w w' := by
  obtain ⟨i0, hi, hz0, hz1, hz2⟩ := info_parts Try.infoInt
  go_enter Try.func61, Try.ntmps61
  go_wp2_with (at_make; refine wpList_make_full _ rfl _ _ 22 rfl w.heap.size 3 i0 (.int .i64 0) 1 Try.underlying22 hi hz0 hz1 .i64 .i64 _ _ n rfl rfl rfl rfl ?cb1 ?cb2 ?cb3 ?_)
  case cb1 => rw [hz2]; omega
  case cb2 => unfold maxLen; omega
  case cb3 => exact Nat.le_refl _
  intro w2 hown hgrow
  have hbl := bel_made hgrow
  rw [made_nats] at hown
  clear hgrow
  go_wp2
  go_loopw [4] (fun sk wr => ∃ (k : Nat) (f : Nat → Nat), k ≤ n ∧ sk = .int .i64 k ∧ Hid (∀ j, j < k → f j = j) ∧ wr.ownsRow w.heap.size 3 1 (.slice (some ⟨w.heap.size, 0, none⟩) n n) n (nats n f) ∧ Below w.heap.size w wr) (fun sk _ => n - (intOf sk).toNat)
  case atStart => exact ⟨0, fun _ => 0, by omega, rfl, hidden (fun j hj => by omega), hown, hbl⟩
  case round =>
    obtain ⟨k, f, hk, rfl, HF, hownF, hblF⟩ := hrel
    clear hown hbl
    by_cases hlt : k < n
    · have d0 := hownF.cellAt k (by omega)
      rw [nats_get _ _ _ hlt] at d0
      have f0 := hownF.frozenAt k
      have HF2 : Hid (∀ j, j < k + 1 → (if j = k then k else f j) = j) := hidden (fun j hj => by
        split
        · omega
        · exact HF.out j (by omega))
      go_wp2
      go_roundw
      case rel => exact ⟨k + 1, fun t => if t = k then k else f t, by omega, by go_num, HF2, by rw [← nats_set]; exact (hownF.stored k _).1, hblF.setCell (by simp) _⟩
      case measure => simp [intOf]; omega
    · have hkn : k = n := by omega
      subst hkn
      have HE : Hid (nats k f = natsL (List.range k)) := hidden (by
        rw [natsL_nats, List.length_range]
        exact nats_congr fun s hs => by rw [HF.out s hs]; simp [List.getD_eq_getElem?_getD, hs])
      rw [HE.out] at hownF
      go_wp2
      go_ret
      exact ⟨_, rfl, hownF, hblF⟩
set_option maxHeartbeats 1000000 in
set_option maxRecDepth 100000 in
theorem l8place_any (base g c x n : Nat) (r : List Nat) (w : World) (hown : w.ownsRow base 3 1 (.slice (some ⟨g, 0, none⟩) n c) n (natsL r)) (hr : r.length = n) (hn : n ≤ 256) (hx : x < 256) :
    Calls Try.prog 62 #[.slice (some ⟨g, 0, none⟩) n c, .int .i64 x] w fun e w' => e = .returned (.int .i64 (placeI r x)) ∧ w = w' := by
  have HR := hidden hr
  have HOW := hidden hown
  clear hr hown
  go_enter Try.func62, Try.ntmps62
  go_wp2
  go_loopw [5] (fun sk wr => ∃ k : Nat, k ≤ n ∧ sk = .int .i64 k ∧ Hid (∀ j, j < k → r.getD j 0 ≠ x) ∧ Hid (w = wr)) (fun sk _ => n - (intOf sk).toNat)
  case atStart => exact ⟨0, by omega, rfl, hidden (fun j hj => by omega), hidden rfl⟩
  case round =>
    obtain ⟨k, hk, rfl, HA, HW⟩ := hrel
    have hownR : wr.ownsRow base 3 1 (.slice (some ⟨g, 0, none⟩) n c) n (natsL r) := by rw [← HW.out]; exact HOW.out
    by_cases hlt : k < n
    · have d0 := hownR.cellAt k (by omega)
      rw [natsL_nats, HR.out, nats_get _ _ _ hlt] at d0
      obtain ⟨y, hy⟩ : ∃ y, r.getD k 0 = y := ⟨_, rfl⟩
      rw [hy] at d0
      have HY := hidden hy
      clear hy
      by_cases he : y = x
      · subst he
        have HP : Hid (placeI r y = k) := hidden (place_at (by rw [HR.out]; exact hlt) HY.out HA.out)
        go_wp2
        go_ret
        exact ⟨ret_i8 HP.out.symm, HW.out⟩
      · have hne : ¬ (y : Int) = x := by omega
        have hbe : ((y : Int) == (x : Int)) = false := by rw [beq_eq_false_iff_ne]; exact hne
        have HA2 : Hid (∀ j, j < k + 1 → r.getD j 0 ≠ x) := hidden (fun j hj => by
          rcases Nat.lt_or_ge j k with h | h
          · exact HA.out j h
          · rw [show j = k by omega, HY.out]; exact he)
        go_wp2
        go_roundw
        case rel => exact ⟨k + 1, by omega, by go_num, HA2, HW⟩
        case measure => simp [intOf]; omega
    · have hkn : k = n := by omega
      subst hkn
      have HP : Hid (placeI r x = -1) := hidden (place_no (fun j hj => HA.out j (by rw [← HR.out]; exact hj)))
      go_wp2
      go_ret
      exact ⟨ret_i8 HP.out.symm, HW.out⟩
set_option maxHeartbeats 1000000 in
set_option maxRecDepth 100000 in
theorem l8front_any (base g c k n : Nat) (r : List Nat) (w : World) (hown : w.ownsRow base 3 1 (.slice (some ⟨g, 0, none⟩) n c) n (natsL r)) (hb : base ≤ w.heap.size) (hr : r.length = n) (hk : k < n) (hn : n ≤ 256) :
    Calls Try.prog 63 #[.slice (some ⟨g, 0, none⟩) n c, .int .i64 k] w fun e w' => ∃ g2 c2, e = .returned (.slice (some ⟨g2, 0, none⟩) n c2) ∧ w'.ownsRow w.heap.size 3 1 (.slice (some ⟨g2, 0, none⟩) n c2) n (natsL (frontL r k)) ∧ Below w.heap.size w w' := by
  obtain ⟨i0, hi, hz0, hz1, hz2⟩ := info_parts Try.infoInt
  have HR := hidden hr
  have HOW := hidden hown
  have hgw := (hown.lt g rfl).2
  have hcap : n ≤ c := own_cap7 hown
  have d0 := hown.cellAt k (by omega)
  rw [natsL_nats, hr, nats_get _ _ _ hk] at d0
  obtain ⟨y, hy⟩ : ∃ y, r.getD k 0 = y := ⟨_, rfl⟩
  rw [hy] at d0
  have HFL : Hid (frontL r k = [y] ++ r.take k ++ r.drop (k + 1)) := hidden (by unfold frontL; rw [eraseIdx_td, hy]; rfl)
  have HTL : Hid ((r.take k).length = k) := hidden (by rw [List.length_take]; omega)
  have HDL : Hid ((r.drop (k + 1)).length = n - (k + 1)) := hidden (by rw [List.length_drop, hr])
  clear hr hown hy
  go_enter Try.func63, Try.ntmps63
  have hlit := World.ownsRow_lit (base := w.heap.size) (e := 3) (size := 1) w #[.int .i64 (y : Int)] 1 (Nat.le_refl _) (by unfold maxLen; omega) (by simp)
  have hb0 : Below w.heap.size w (w.alloc (.cells #[.int .i64 (y : Int)] 3)) := (Below.refl _ _).alloc (Nat.le_refl _) _
  have hb0s : w.heap.size < (w.alloc (.cells #[.int .i64 (y : Int)] 3)).heap.size := by simp
  go_wp2_with (at_builtin; refine wpList_append_own_at _ rfl _ _ 22 rfl w.heap.size 3 i0 (.int .i64 0) 1 8 Try.underlying22 hi hz0 hz1 hz2 rfl (by decide) _ _ _ rfl hlit ⟨g, 0, none⟩ k c (natsL (r.take k)) rfl ?d0 ?d1 ?d2 ?d3 ?d4 ?d5 ?_)
  case d0 => rw [natsL_len, HTL.out]
  case d1 => exact fun j u hu => by have := natsL_take HOW.out k j u hu; rwa [add_at7, Nat.zero_add] at this
  case d2 => exact natsL_one _
  case d3 => unfold maxLen; omega
  case d4 => omega
  intro v3 w3 hown3 hgrow _ _
  have hb3 : Below w.heap.size w w3 := hb0.grown hgrow (by simp) (fun q hq => by simp [Value.ownBlock] at hq; omega)
  have hs3 := hb3.size
  have HO3 := hidden (own_bel7 HOW.out hb hb3)
  have HE : Hid (natsL (frontL r k) = (.int .i64 (y : Int) :: natsL (r.take k)) ++ natsL (r.drop (k + 1))) := hidden (by rw [HFL.out]; simp [natsL])
  obtain ⟨X, hX⟩ : ∃ X, (.int .i64 (y : Int) :: natsL (r.take k)) = X := ⟨_, rfl⟩
  rw [hX] at hown3 HE
  have hk1 : (k : Int) + 1 ≤ (c : Int) := by omega
  have hk2 : (0 : Int) ≤ (k : Int) + 1 := by omega
  have hnc : (n : Int) ≤ (c : Int) := by omega
  have hk3 : (k : Int) + 1 ≤ (n : Int) := by omega
  clear hgrow hlit hb0 hb0s hX d0
  by_cases hcap : c = k + 1
  · have hnk : n = k + 1 := by omega
    subst hcap
    have HN0 : Hid (r.drop (k + 1) = []) := hidden (List.drop_eq_nil_of_le (by rw [HR.out]; omega))
    go_wp2_with (at_builtin; refine wpList_append_own_at _ rfl _ _ 22 rfl w.heap.size 3 i0 (.int .i64 0) 1 8 Try.underlying22 hi hz0 hz1 hz2 rfl (by decide) _ _ _ rfl hown3 ⟨g, 0, none⟩ 0 _ ([] : List Value) rfl ?e0 ?e1 ?e2 ?e3 ?e4 ?e5 ?_)
    case e0 => first | rfl | simp
    case e1 => intro j u hu; simp at hu
    case e2 => intro u hu; simp at hu
    case e3 => unfold maxLen; omega
    case e4 => omega
    case e5 => first | exact hs3 | omega
    intro v4 w4 hown4 hgrow4 _ _
    have hb4 : Below w.heap.size w w4 := hb3.grown hgrow4 hs3 (fun q hq => (hown3.lt q hq).1)
    have HF : Hid (w4.ownsRow w.heap.size 3 1 v4 n (natsL (frontL r k))) := hidden (by
      rw [HE.out, HN0.out, hnk]
      simpa [natsL, Nat.add_comm] using hown4)
    clear hown4 hgrow4 hown3
    obtain ⟨g4, c4, rfl⟩ := Joins.ownsRow_form HF.out (by omega)
    go_wp2
    go_ret
    exact ⟨g4, c4, rfl, HF.out, hb4⟩
  · have hlt : k + 1 < c := by omega
    go_wp2_with (at_builtin; refine wpList_append_own_at _ rfl _ _ 22 rfl w.heap.size 3 i0 (.int .i64 0) 1 8 Try.underlying22 hi hz0 hz1 hz2 rfl (by decide) _ _ _ rfl hown3 ⟨g, k + 1, none⟩ (n - (k + 1)) _ (natsL (r.drop (k + 1))) rfl ?f0 ?f1 ?f2 ?f3 ?f4 ?f5 ?_)
    case f0 => first | (rw [natsL_len, HDL.out, Nat.mul_one]) | (rw [natsL_len, HDL.out])
    case f1 => first | exact natsL_drop HO3.out (k + 1) | exact fun j u hu => by have := natsL_drop HO3.out (k + 1) j u hu; rwa [add_at7] at this
    case f2 => exact natsL_one _
    case f3 => unfold maxLen; omega
    case f4 => omega
    case f5 => first | exact hs3 | omega
    intro v4 w4 hown4 hgrow4 _ _
    have hb4 : Below w.heap.size w w4 := hb3.grown hgrow4 hs3 (fun q hq => (hown3.lt q hq).1)
    have HF : Hid (w4.ownsRow w.heap.size 3 1 v4 n (natsL (frontL r k))) := hidden (by
      rw [HE.out]
      have := hown4
      rwa [show 1 + k + (n - (k + 1)) = n by omega] at this)
    clear hown4 hgrow4 hown3
    obtain ⟨g4, c4, rfl⟩ := Joins.ownsRow_form HF.out (by omega)
    go_wp2
    go_ret
    exact ⟨g4, c4, rfl, HF.out, hb4⟩
end Go.Proofs.Ytpdicijoohahaaa
