/- Chapter 8: inversion frequencies (the model). -/
import Derived.Test.YteaohgipndmciaaC8M
import Derived.Test.YteaohgipndmciaaIvp
namespace Go.Proofs.Yteaohgipndmciaa
set_option linter.unusedVariables false
set_option linter.unusedSimpArgs false
open Go.RowKit

set_option maxHeartbeats 2000000 in
set_option maxRecDepth 100000 in
theorem specInv_yes (a : Option Addr) (cap B m : Nat) (L : List Nat) (w : World) (hz : Ints w B a (ints L)) (hB : B ≤ w.heap.size) (hok : rOk (ints L) m = true) (hm1 : 1 ≤ m) (hm2 : m ≤ 256) (hL6 : L.length ≤ 600) (hLm : ∀ x ∈ L, x < m) :
    Calls Try.prog 47 #[.slice a L.length cap, .int .i64 m] w fun e w' => ∃ v1 v2, e = .returned (.tuple #[v1, v2]) ∧ w'.ownsRow w.heap.size 3 1 v1 m (natsL ((List.range m).map fun x => L.count x)) ∧ w'.ownsRow w.heap.size 3 1 v2 (gapsTo L (m - 1)).length (natsL (gapsTo L (m - 1))) ∧ Hid (∀ g, v1.ownBlock = some g → v2.ownBlock ≠ some g) ∧ Below w.heap.size w w' := by
  obtain ⟨i0, hi, hz0, hz1, hz2⟩ := info_parts Try.infoInt
  have KR := hidden (specRanksOk_any a cap B (ints L) m w hz (by rw [ints_len]; omega) (by omega) (by omega))
  rw [hok, ints_len] at KR
  have HZ := hidden hz
  have HLM := hidden hLm
  have HGL : Hid (∀ k, k ≤ m → (gapsTo L k).length ≤ 600) := hidden (fun k hk => Nat.le_trans (gapsTo_le hLm hk) hL6)
  obtain ⟨n, hn⟩ : ∃ n, L.length = n := ⟨_, rfl⟩
  have HN := hidden hn
  rw [hn] at KR hL6 ⊢
  have hmI : (m : Int) - 1 = ((m - 1 : Nat) : Int) := by omega
  have HMI := hidden hmI
  clear hz hn hok hLm hmI
  go_enter Try.func47, Try.ntmps47
  go_wp2_with fail
  refine KR.out.mono ?_
  rintro e w0 ⟨rfl, rfl⟩
  go_wp2_with (at_make; refine wpList_make_full _ rfl _ _ 39 rfl w.heap.size 3 i0 (.int .i64 0) 1 Try.underlying39 hi hz0 hz1 .i64 .i64 _ _ m rfl rfl rfl rfl ?cb1 ?cb2 ?cb3 ?_)
  case cb1 => rw [hz2]; omega
  case cb2 => unfold maxLen; omega
  case cb3 => exact Nat.le_refl _
  intro w1 hownC hgrow1
  have b1 := bel_made hgrow1
  have s1 := b1.size
  rw [made_nats] at hownC
  have hgc := (hownC.lt w.heap.size rfl).2
  obtain ⟨M, hM⟩ : ∃ M, w1.heap.size = M := ⟨_, rfl⟩
  have HM : Hid (w1.heap.size = M) := hidden hM
  have hs1M : M ≤ w1.heap.size := by omega
  rw [hM] at hgc
  have HC0 : Hid (nats m (fun _ => 0) = nats m (fun y => if y < 0 then L.count y else 0)) := hidden (nats_congr fun s _ => by rw [if_neg (by omega)])
  rw [HC0.out] at hownC
  have HG0 : Hid (gapsTo L (min 0 (m - 1)) = []) := hidden (by rw [Nat.zero_min]; rfl)
  have hownG : w1.ownsRow M 3 1 (.slice none 0 0) (gapsTo L (min 0 (m - 1))).length (natsL (gapsTo L (min 0 (m - 1)))) := by rw [HG0.out]; exact World.ownsRow_nil _ _ _ _
  clear hgrow1 hM HC0
  go_wp2
  go_loopw [7, 8, 9, 10] (fun vg sx _ _ wr => ∃ x : Nat, x ≤ m ∧ sx = .int .i64 x ∧ wr.ownsRow w.heap.size 3 1 (.slice (some ⟨w.heap.size, 0, none⟩) m m) m (nats m (fun y => if y < x then L.count y else 0)) ∧ wr.ownsRow M 3 1 vg (gapsTo L (min x (m - 1))).length (natsL (gapsTo L (min x (m - 1)))) ∧ Below w.heap.size w wr ∧ M ≤ wr.heap.size) (fun _ sx _ _ _ => m - (intOf sx).toNat)
  case atStart => exact ⟨0, by omega, rfl, hownC, hownG, b1, hs1M⟩
  case round =>
    obtain ⟨x, hx, rfl, hC, hG, hbl, hMr⟩ := hrel
    clear hownC hownG b1 hs1M
    by_cases hlt : x < m
    · have hxI : (x : Int) < m := by omega
      have HCx := hidden hC
      have HF0 : Hid (∀ y, (if y < x then L.count y else 0) = if y < x then L.count y else if y = x then (L.take 0).count x else 0) := hidden (fun y => by
        by_cases h1 : y < x
        · rw [if_pos h1, if_pos h1]
        · rw [if_neg h1, if_neg h1]; simp)
      have HGx : Hid ((x < m - 1 → gapsTo L (x + 1) = gapsTo L (min x (m - 1)) ++ gapsF x 0 (L.drop 0)) ∧ (¬ x < m - 1 → gapsTo L (min x (m - 1)) = gapsTo L (m - 1))) := hidden ⟨fun h => by
        rw [Nat.min_eq_left (by omega), gapsTo_succ]; rfl, fun h => by rw [Nat.min_eq_right (by omega)]⟩
      obtain ⟨G0, hG0⟩ : ∃ G0, gapsTo L (min x (m - 1)) = G0 := ⟨_, rfl⟩
      rw [hG0] at hG HGx
      clear hG0
      go_wp2
      go_loopw [7, 9, 10] (fun vg sg si wx => ∃ (i g : Nat) (G : List Nat) (f : Nat → Nat), i ≤ n ∧ si = .int .i64 i ∧ sg = .int .i64 g ∧ Hid (g ≤ i) ∧ Hid (∀ y, f y = if y < x then L.count y else if y = x then (L.take i).count x else 0) ∧ Hid ((x < m - 1 → gapsTo L (x + 1) = G ++ gapsF x g (L.drop i)) ∧ (¬ x < m - 1 → G = gapsTo L (m - 1))) ∧ wx.ownsRow w.heap.size 3 1 (.slice (some ⟨w.heap.size, 0, none⟩) m m) m (nats m f) ∧ wx.ownsRow M 3 1 vg G.length (natsL G) ∧ Below w.heap.size w wx ∧ M ≤ wx.heap.size) (fun _ _ si _ => n - (intOf si).toNat)
      case atStart => exact ⟨0, 0, G0, _, by omega, rfl, rfl, hidden (Nat.le_refl _), HF0, HGx, hC, hG, hbl, hMr⟩
      case round =>
        obtain ⟨i, g, G, f, hin, rfl, rfl, HGI, HF, HGG, hCi, hGi, hbi, hMi⟩ := hrel
        clear hC hG hbl hMr
        have hsz := hbi.size
        by_cases hlt2 : i < n
        · obtain ⟨b, off, rfl, hb, hc⟩ := (HZ.out.below (hbi.mono hB)).2.2 (by rw [ints_len, HN.out]; omega)
          have ck := ints_cell (B := B) hc i (by rw [HN.out]; exact hlt2)
          have HDR := hidden (drop_cons L i (by rw [HN.out]; exact hlt2))
          have HCT := hidden (count_take8 L i x (by rw [HN.out]; exact hlt2))
          obtain ⟨y, hy⟩ : ∃ y, L.getD i 0 = y := ⟨_, rfl⟩
          rw [hy] at ck HDR HCT
          have hgi := HGI.out
          have hi2I : (i : Int) < n := by omega
          clear hy hc
          by_cases hgt : x < y
          · have hgtI : (x : Int) < y := by omega
            have hneI : ¬ (y : Int) = x := by omega
            have hbe : ((y : Int) == (x : Int)) = false := by rw [beq_eq_false_iff_ne]; exact hneI
            have HF2 : Hid (∀ z, f z = if z < x then L.count z else if z = x then (L.take (i + 1)).count x else 0) := hidden (fun z => by rw [HF.out z, HCT.out, if_neg (show ¬ y = x by omega), Nat.add_zero])
            have HG2 : Hid ((x < m - 1 → gapsTo L (x + 1) = G ++ gapsF x (g + 1) (L.drop (i + 1))) ∧ (¬ x < m - 1 → G = gapsTo L (m - 1))) := hidden ⟨fun h => by rw [HGG.out.1 h, HDR.out, gapsF_gt _ hgt], HGG.out.2⟩
            go_wp2
            go_roundw
            case rel => exact ⟨i + 1, g + 1, G, f, by omega, by go_num, by go_num, hidden (by omega), HF2, HG2, hCi, hGi, hbi, hMi⟩
            case measure => simp [intOf]; omega
          · have hgtI : ¬ (x : Int) < y := by omega
            by_cases he : y = x
            · subst he
              have hbe : ((y : Int) == (y : Int)) = true := by simp
              have hcI := HF.out y
              rw [if_neg (by omega), if_pos rfl] at hcI
              have hcle : f y ≤ i := by rw [hcI]; exact Nat.le_trans List.count_le_length (by rw [List.length_take]; omega)
              have d0 := hCi.cellAt y (by omega)
              rw [nats_get _ _ _ hlt] at d0
              have f0 := hCi.frozenAt y
              have HF2 : Hid (∀ z, (if z = y then f y + 1 else f z) = if z < y then L.count z else if z = y then (L.take (i + 1)).count y else 0) := hidden (fun z => by
                by_cases e : z = y
                · subst e; rw [if_pos rfl, if_neg (by omega), if_pos rfl, HCT.out, if_pos rfl, hcI]
                · rw [if_neg e, HF.out z]; simp [e])
              obtain ⟨c, hcc⟩ : ∃ c, f y = c := ⟨_, rfl⟩
              have HCC := hidden hcc
              rw [hcc] at d0 hcle HF2
              have hC2 := (hCi.stored y (.int .i64 ((c + 1 : Nat) : Int))).1
              rw [nats_set] at hC2
              have hG2 := own_away hGi (p := ⟨w.heap.size, y, none⟩) hgc (.int .i64 ((c + 1 : Nat) : Int))
              have hb2 := hbi.setCell (p := ⟨w.heap.size, y, none⟩) (Nat.le_refl _) (.int .i64 ((c + 1 : Nat) : Int))
              have hcE : ((c + 1 : Nat) : Int) = (c : Int) + 1 := by omega
              rw [hcE] at hC2 hG2 hb2
              have hM2 : M ≤ (wr.setCell ⟨w.heap.size, y, none⟩ (.int .i64 ((c : Int) + 1))).heap.size := by simpa using hMi
              have HGE : Hid (gapsF y g (L.drop i) = g :: gapsF y 0 (L.drop (i + 1))) := hidden (by rw [HDR.out, gapsF_eq])
              by_cases hlast : y < m - 1
              · have hlastI : (y : Int) < (m : Int) - 1 := by omega
                have HGl : Hid (G.length + 1 ≤ 600) := hidden (by
                  have h1 := HGL.out (y + 1) (by omega)
                  rw [HGG.out.1 hlast, HGE.out] at h1
                  simp only [List.length_append, List.length_cons] at h1
                  omega)
                have hGl := HGl.out
                have HG2 : Hid ((y < m - 1 → gapsTo L (y + 1) = (G ++ [g]) ++ gapsF y 0 (L.drop (i + 1))) ∧ (¬ y < m - 1 → G ++ [g] = gapsTo L (m - 1))) := hidden ⟨fun h => by rw [HGG.out.1 h, HGE.out]; simp, fun h => absurd hlast h⟩
                have HGlen : Hid ((G ++ [g]).length = G.length + 1) := hidden (by simp)
                obtain ⟨q, hq⟩ : ∃ q, G.length = q := ⟨_, rfl⟩
                rw [hq] at hG2 hGl HGlen
                have HC2 := hidden hC2
                clear hCi hGi hbi hcI hcc hq hC2
                go_wp2_with (at_builtin; refine wpList_append_own _ rfl _ _ 39 rfl M 3 i0 (.int .i64 0) 1 8 Try.underlying39 hi hz0 hz1 hz2 rfl (by decide) _ _ _ rfl (hG2.alloc _) ⟨wr.heap.size, 0, none⟩ 1 1 [.int .i64 (g : Int)] rfl rfl ?c1 ?c2 ?c3 ?c4 ?c5 ?_)
                case c2 => first | rfl | exact fun u hu => by simp at hu; subst hu; rfl
                case c3 => unfold maxLen; omega
                case c4 => omega
                case c5 => first | exact hMi | omega | (simp; omega)
                intro v5 w5 hown5 hgrow _
                have hb5 := bel_app hb2 (by simpa using hsz) (Joins.ownsRow_le hG2 (by omega)) hgrow
                have hC5 := (HC2.out.alloc (.cells #[.int .i64 (g : Int)] 3)).kept hgrow (.inr (own_neq hG2 hgc))
                have hM5 : M ≤ w5.heap.size := Nat.le_trans hM2 (Nat.le_trans (Nat.le_of_lt (by simp)) hgrow.size)
                rw [← natsL_snoc8] at hown5
                have HO5 : Hid (w5.ownsRow M 3 1 v5 (G ++ [g]).length (natsL (G ++ [g]))) := hidden (by rw [HGlen.out]; exact hown5)
                clear hown5 hgrow hG2 hb2
                go_wp2
                go_roundw
                case rel => exact ⟨i + 1, 0, G ++ [g], _, by omega, by go_num, rfl, hidden (by omega), HF2, HG2, hC5, HO5.out, hb5, hM5⟩
                case measure => simp [intOf]; omega
              · have hlastI : ¬ (y : Int) < (m : Int) - 1 := by omega
                have HG2 : Hid ((y < m - 1 → gapsTo L (y + 1) = G ++ gapsF y 0 (L.drop (i + 1))) ∧ (¬ y < m - 1 → G = gapsTo L (m - 1))) := hidden ⟨fun h => absurd h hlast, HGG.out.2⟩
                clear hCi hGi hbi hMi hcI hcc
                go_wp2
                go_roundw
                case rel => exact ⟨i + 1, 0, G, _, by omega, by go_num, rfl, hidden (by omega), HF2, HG2, hC2, hG2, hb2, hM2⟩
                case measure => simp [intOf]; omega
            · have hneI : ¬ (y : Int) = x := by omega
              have hbe : ((y : Int) == (x : Int)) = false := by rw [beq_eq_false_iff_ne]; exact hneI
              have HF2 : Hid (∀ z, f z = if z < x then L.count z else if z = x then (L.take (i + 1)).count x else 0) := hidden (fun z => by rw [HF.out z, HCT.out, if_neg he, Nat.add_zero])
              have HG2 : Hid ((x < m - 1 → gapsTo L (x + 1) = G ++ gapsF x g (L.drop (i + 1))) ∧ (¬ x < m - 1 → G = gapsTo L (m - 1))) := hidden ⟨fun h => by rw [HGG.out.1 h, HDR.out, gapsF_lt _ (by omega)], HGG.out.2⟩
              go_wp2
              go_roundw
              case rel => exact ⟨i + 1, g, G, f, by omega, by go_num, rfl, hidden (by omega), HF2, HG2, hCi, hGi, hbi, hMi⟩
              case measure => simp [intOf]; omega
        · have hi2I : ¬ (i : Int) < n := by omega
          have hie : i = n := by omega
          subst hie
          have HE : Hid (nats m f = nats m (fun y => if y < x + 1 then L.count y else 0)) := hidden (nats_congr fun s _ => by
            rw [HF.out s, ← HN.out, List.take_length]
            by_cases h1 : s < x
            · rw [if_pos h1, if_pos (by omega)]
            · by_cases h2 : s = x
              · subst h2; rw [if_neg h1, if_pos rfl, if_pos (by omega)]
              · rw [if_neg h1, if_neg h2, if_neg (by omega)])
          have HGE : Hid (gapsTo L (min (x + 1) (m - 1)) = G) := hidden (by
            by_cases h : x < m - 1
            · rw [Nat.min_eq_left (by omega), HGG.out.1 h, ← HN.out, List.drop_length, gapsF, List.append_nil]
            · rw [Nat.min_eq_right (by omega), HGG.out.2 h])
          go_wp2
          go_roundw
          case rel => exact ⟨x + 1, by omega, by go_num, by rw [← HE.out]; exact hCi, by rw [HGE.out]; exact hGi, hbi, hMi⟩
          case measure => simp [intOf]; omega
    · have hxI : ¬ (x : Int) < m := by omega
      have hxm : x = m := by omega
      subst hxm
      have HE : Hid (nats x (fun y => if y < x then L.count y else 0) = natsL ((List.range x).map fun y => L.count y)) := hidden (by
        rw [natsL_nats, List.length_map, List.length_range]
        exact nats_congr fun s hs => by rw [if_pos hs]; simp [List.getD_eq_getElem?_getD, hs])
      have HGE : Hid (gapsTo L (min x (x - 1)) = gapsTo L (x - 1)) := hidden (by rw [Nat.min_eq_right (by omega)])
      rw [HE.out] at hC
      rw [HGE.out] at hG
      go_wp2
      go_ret2
      exact ⟨_, _, rfl, hC, Joins.ownsRow_le hG (by omega), hidden (fun q hq hq2 => by
        have := (hG.lt q hq2).1
        simp [Value.ownBlock] at hq
        omega), hbl⟩
end Go.Proofs.Yteaohgipndmciaa
