/- Chapter 7: a set is read (the model). -/
import Derived.Test.YtabhbijohjemiaaC7D
import Derived.Test.YtabhbijohjemiaaC6G
import Derived.Test.YtabhbijohjemiaaDrPick
namespace Go.Proofs.Ytabhbijohjemiaa
set_option linter.unusedVariables false
set_option linter.unusedSimpArgs false
open Go.RowKit

theorem wide_bit (m k : Nat) (hm : m < 65536) : bits BinOp.and IntKind.i64 ((m : Int) / 2 ^ k) 1 = ((m / 2 ^ k % 2 : Nat) : Int) := by
  have h0 : m / 2 ^ k ≤ m := Nat.div_le_self _ _
  have := i64_and_nat (m / 2 ^ k) 1 (by omega) (by omega)
  rw [nat_mask1] at this
  rw [show ((m : Int) / 2 ^ k) = ((m / 2 ^ k : Nat) : Int) by simp, show (1 : Int) = ((1 : Nat) : Int) by rfl, this]
/-- What reading a set answers, the reader being in block b. -/
def L7UPost (s : ByteArray) (at0 b : Nat) (T : TypeId) (w : World) (e : Ending) (w' : World) : Prop :=
  ((∃ (u : List Nat) (q : Nat), getU s at0 = some (u, q) ∧ e = .returned (.string (strOf u)) ∧ Has w' b T #[.string s, .int .i64 (q : Int)]) ∨
   (getU s at0 = none ∧ e = .returned (.string ⟨#[]⟩))) ∧ Only b w w'
set_option maxHeartbeats 1000000 in
set_option maxRecDepth 100000 in
theorem l7get_any (s : ByteArray) (at0 b : Nat) (T : TypeId) (w : World) (hs : s.size ≤ 1048576) (ha : at0 ≤ 8 * s.size) (hb : Has w b T #[.string s, .int .i64 at0]) :
    Calls Try.prog 81 #[.pointer (some ⟨b, 0, none⟩)] w (L7UPost s at0 b T w) := by
  obtain ⟨i0, hi, hz0, hz1, hz2⟩ := info_parts Try.info5
  have hbl := hb.lt
  have KY := hidden (fun (W : World) (p : Nat) (h : p + 16 ≤ 8 * s.size) (hB : Has W b T #[.string s, .int .i64 (p : Int)]) => l1get_yes s p 16 b T W hs (by omega) h hB)
  have KN := hidden (fun (W : World) (p : Nat) (hp : p ≤ 8 * s.size) (h : 8 * s.size < p + 16) (hB : Has W b T #[.string s, .int .i64 (p : Int)]) => l1get_none s p 16 b T W hs (by omega) hp (by omega) hB)
  have HB := hidden hb
  clear hb
  by_cases hroom : at0 + 16 ≤ 8 * s.size
  · have hm := num_row_lt s at0 16
    have K0 := hidden (KY.out w at0 hroom HB.out)
    have HU : Hid (num (row s at0 16) ≠ 0 → getU s at0 = getG s (places (num (row s at0 16))) (at0 + 16)) := hidden (fun h => by unfold getU; rw [if_pos ⟨hroom, h⟩])
    have HU0 : Hid (num (row s at0 16) = 0 → getU s at0 = none) := hidden (fun h => by unfold getU; rw [if_neg (by omega)])
    obtain ⟨m, hmm⟩ : ∃ m, num (row s at0 16) = m := ⟨_, rfl⟩
    rw [hmm] at hm K0 HU HU0
    have HM0 : Hid (m = 0 → places m = []) := hidden (fun h => by subst h; decide)
    have hm16 : m < 65536 := hm
    clear hmm hm
    go_enter Try.func81, Try.ntmps81
    go_wp2_with fail
    refine K0.out.mono ?_
    rintro e w1 ⟨rfl, hB1, hO1⟩
    have hs1 := hO1.size
    obtain ⟨G, hG⟩ : ∃ G, getG s (places m) (at0 + 16) = G := ⟨_, rfl⟩
    have HG := hidden hG
    rw [hG] at HU
    clear hG
    go_wp2
    go_loopw [3, 5, 6, 7] (fun v sg _ _ wr => ∃ (g a : Nat) (D : List Nat), g ≤ 16 ∧ sg = .int .i64 g ∧ a ≤ 8 * s.size ∧ Hid (G = (getG s (placesFrom m g) a).map (fun r => (D ++ r.1, r.2))) ∧ D.length ≤ 16 * g ∧ wr.ownsRow w.heap.size 5 1 v D.length (u8s D) ∧ Has wr b T #[.string s, .int .i64 (a : Int)] ∧ Only b w wr) (fun _ sg _ _ _ => 16 - (intOf sg).toNat)
    case atStart => exact ⟨0, at0 + 16, [], by omega, rfl, by omega, hidden (by rw [placesFrom_zero, HG.out, map_app_nil]), by simp, World.ownsRow_nil _ _ _ _, hB1, hO1⟩
    case round =>
      obtain ⟨g, a, D, hg, rfl, haa, HD, hDl, hown, hB, hO⟩ := hrel
      have hsz := hO.size
      by_cases hlt : g < 16
      · have hgI : (g : Int) < 16 := by omega
        have hbit := wide_bit m (15 - g) hm16
        have HPS := hidden (placesFrom_step m g hlt)
        obtain ⟨y, hy⟩ : ∃ y, m / 2 ^ (15 - g) % 2 = y := ⟨_, rfl⟩
        have hy2 : y < 2 := by omega
        rw [hy] at hbit HPS
        clear hy hlt
        by_cases hy1 : y = 1
        · subst hy1
          have HPS2 : Hid (placesFrom m g = g :: placesFrom m (g + 1)) := hidden (by rw [HPS.out, if_pos rfl])
          by_cases hr2 : a + 16 ≤ 8 * s.size
          · have hx := num_row_lt s a 16
            have K2 := hidden (KY.out wr a hr2 hB)
            have HGY := hidden (fun h => getG_yes (s := s) (gs := placesFrom m (g + 1)) (g := g) hr2 h)
            have HGN := hidden (fun h => getG_no (s := s) (gs := placesFrom m (g + 1)) (g := g) (a := a) h)
            obtain ⟨x, hxx⟩ : ∃ x, num (row s a 16) = x := ⟨_, rfl⟩
            rw [hxx] at hx K2 HGY HGN
            have hx16 : x < 65536 := hx
            clear hxx hx
            go_wp2_with fail
            refine K2.out.mono ?_
            rintro e w2 ⟨rfl, hB2, hO2⟩
            have hO3 : Only b w w2 := World.grownBy.trans hO hO2
            have hown2 := own_only hown hO2 (by omega)
            have hs2 := hO3.size
            clear hO hO2 hown hB K2
            by_cases hx0 : x = 0
            · subst hx0
              have HNO : Hid (G = none) := hidden (by rw [HD.out, HPS2.out, HGN.out (fun h => h.2 rfl)]; rfl)
              go_wp2
              go_ret
              refine ⟨.inr ⟨?_, rfl⟩, hO3⟩
              by_cases h0 : m = 0
              · exact HU0.out h0
              · rw [HU.out h0, HNO.out]
            · have hxI : ¬ (x : Int) ≤ 0 := by omega
              have HGY2 := hidden (HGY.out hx0)
              have HEQ : Hid (G = (getG s (placesFrom m (g + 1)) (a + 16)).map (fun r => ((D ++ (places x).map (fun p => 16 * g + p)) ++ r.1, r.2))) := hidden (by rw [HD.out, HPS2.out, HGY2.out, map_map_app])
              clear HD HGY HGN HGY2
              go_wp2
              go_loopw [3, 7] (fun v sp wq => ∃ p : Nat, p ≤ 16 ∧ sp = .int .i64 p ∧ wq.ownsRow w.heap.size 5 1 v (D ++ (placesTo x p).map (fun p => 16 * g + p)).length (u8s (D ++ (placesTo x p).map (fun p => 16 * g + p))) ∧ Has wq b T #[.string s, .int .i64 ((a + 16 : Nat) : Int)] ∧ Only b w wq) (fun _ sp _ => 16 - (intOf sp).toNat)
              case atStart => exact ⟨0, by omega, rfl, by simpa [placesTo] using hown2, hB2, hO3⟩
              case round =>
                obtain ⟨p, hp, rfl, hown4, hB4, hO4⟩ := hrel
                have hsz4 := hO4.size
                by_cases hlt2 : p < 16
                · have hpI : (p : Int) < 16 := by omega
                  have hbit2 := wide_bit x (15 - p) hx16
                  have HPT := hidden (placesTo_succ x p)
                  have hpl := placesTo_len x p
                  obtain ⟨z, hz⟩ : ∃ z, x / 2 ^ (15 - p) % 2 = z := ⟨_, rfl⟩
                  have hzl : z < 2 := by omega
                  rw [hz] at hbit2 HPT
                  have HTL : Hid ((D ++ (placesTo x p).map (fun p => 16 * g + p)).length ≤ 512) := hidden (by simp; omega)
                  obtain ⟨L, hL⟩ : ∃ L, D ++ (placesTo x p).map (fun p => 16 * g + p) = L := ⟨_, rfl⟩
                  have HL := hidden hL
                  rw [hL] at hown4 HTL
                  have hTL := HTL.out
                  clear hz hlt2 hpl hL
                  by_cases hzz : z = 1
                  · subst hzz
                    have HNX : Hid (D ++ (placesTo x (p + 1)).map (fun p => 16 * g + p) = L ++ [16 * g + p]) := hidden (by rw [HPT.out, if_pos rfl, List.map_append, ← List.append_assoc, HL.out]; rfl)
                    have h8 : (16 * (g : Int) + (p : Int)) % 256 = 16 * (g : Int) + (p : Int) := by omega
                    go_wp2_with (at_builtin; refine wpList_append_own _ rfl _ _ 22 rfl w.heap.size 5 i0 (.int .u8 0) 1 1 Try.underlying22 hi hz0 hz1 hz2 rfl (by decide) _ _ _ rfl (hown4.alloc _) ⟨wr.heap.size, 0, none⟩ 1 1 [.int .u8 (16 * (g : Int) + (p : Int))] rfl rfl ?c1 ?c2 ?c3 ?c4 ?c5 ?_)
                    case c2 => first | rfl | exact fun u hu => by simp at hu; subst hu; rfl
                    case c3 => unfold maxLen; omega
                    case c4 => omega
                    case c5 => first | omega | (simp; omega)
                    intro v5 w5 hown5 hgrow _
                    have hr : ∀ q, Value.ownBlock (_ : Value) = some q → w.heap.size ≤ q := fun q hq => (hown4.lt q hq).1
                    have hO5 : Only b w w5 := (hO4.alloc _).grownNew hgrow hr
                    have hB5 := (hB4.alloc (.cells #[.int .u8 (16 * (g : Int) + (p : Int))] 5)).grown hgrow (own_ne hown4 (by omega))
                    have HO5 : Hid (w5.ownsRow w.heap.size 5 1 v5 (D ++ (placesTo x (p + 1)).map (fun p => 16 * g + p)).length (u8s (D ++ (placesTo x (p + 1)).map (fun p => 16 * g + p)))) := hidden (by
                      rw [HNX.out, u8s_snoc, List.length_append]
                      have := hown5
                      rw [show (16 * (g : Int) + (p : Int)) = ((16 * g + p : Nat) : Int) by omega] at this
                      exact this)
                    clear hown4 hown5 hgrow hr hO4 hB4
                    go_wp2
                    go_roundw
                    case rel => exact ⟨p + 1, by omega, by go_num, HO5.out, hB5, hO5⟩
                    case measure => simp [intOf]; omega
                  · have hz0' : z = 0 := by omega
                    subst hz0'
                    have HNX : Hid (D ++ (placesTo x (p + 1)).map (fun p => 16 * g + p) = L) := hidden (by rw [HPT.out, if_neg (by omega), HL.out])
                    go_wp2
                    go_roundw
                    case rel => exact ⟨p + 1, by omega, by go_num, by rw [HNX.out]; exact hown4, hB4, hO4⟩
                    case measure => simp [intOf]; omega
                · have hp16 : p = 16 := by omega
                  subst hp16
                  have HTE : Hid (placesTo x 16 = places x) := hidden rfl
                  rw [HTE.out] at hown4
                  have HLE : Hid ((D ++ (places x).map (fun p => 16 * g + p)).length ≤ 16 * (g + 1)) := hidden (by
                    have := placesTo_len x 16
                    rw [HTE.out] at this
                    simp; omega)
                  go_wp2
                  go_roundw
                  case rel => exact ⟨g + 1, a + 16, _, by omega, by go_num, hr2, HEQ, HLE.out, hown4, hB4, hO4⟩
                  case measure => simp [intOf]; omega
          · have K2 := hidden (KN.out wr a haa (by omega) hB)
            have HNO : Hid (G = none) := hidden (by rw [HD.out, HPS2.out, getG_no (fun h => hr2 h.1)]; rfl)
            clear hr2
            go_wp2_with fail
            refine K2.out.mono ?_
            rintro e w2 ⟨rfl, q, rfl⟩
            go_wp2
            go_ret
            refine ⟨.inr ⟨?_, rfl⟩, hO.drewN q⟩
            by_cases h0 : m = 0
            · exact HU0.out h0
            · rw [HU.out h0, HNO.out]
        · have hy0 : y = 0 := by omega
          subst hy0
          have HPS2 : Hid (placesFrom m g = placesFrom m (g + 1)) := hidden (by rw [HPS.out, if_neg (by omega)])
          go_wp2
          exact ⟨⟨g + 1, a, D, by omega, by go_num, haa, hidden (by rw [HD.out, HPS2.out]), by omega, hown, hB, hO⟩, by simp [intOf]; omega⟩
      · have hg16 : g = 16 := by omega
        subst hg16
        have HGE : Hid (G = some (D, a)) := hidden (by rw [HD.out, placesFrom_end]; simp [getG])
        have HD0 : Hid (m = 0 → D = []) := hidden (fun h => by
          have h1 := HG.out
          rw [HM0.out h, HGE.out] at h1
          simp only [getG, Option.some.injEq, Prod.mk.injEq] at h1
          exact h1.1.symm)
        have hrun := run_str hown
        go_wp2
        go_ret
        by_cases h0 : m = 0
        · rw [HD0.out h0]
          exact ⟨.inr ⟨HU0.out h0, rfl⟩, hO⟩
        · exact ⟨.inl ⟨D, a, by rw [HU.out h0, HGE.out], rfl, hB⟩, hO⟩
  · have K0 := hidden (KN.out w at0 ha (by omega) HB.out)
    have HU0 : Hid (getU s at0 = none) := hidden (by unfold getU; rw [if_neg (by omega)])
    clear hroom
    go_enter Try.func81, Try.ntmps81
    go_wp2_with fail
    refine K0.out.mono ?_
    rintro e w1 ⟨rfl, q, rfl⟩
    have hrun := run_string_nil7
    go_wp2
    go_loopw [3, 5, 6, 7] (fun v sg _ _ wr => v = .slice none 0 0 ∧ sg = .int .i64 0 ∧ Only b w wr) (fun _ _ _ _ _ => 0)
    case atStart => exact ⟨rfl, rfl, (Only.refl _ _).drewN q⟩
    case round =>
      obtain ⟨rfl, rfl, hO⟩ := hrel
      go_wp2
      go_ret
      exact ⟨.inr ⟨HU0.out, rfl⟩, hO⟩
end Go.Proofs.Ytabhbijohjemiaa
