/- Chapter 9, the program: RunSyms, RunLen, runAtFront. -/
import Derived.Test.YtpdicijoohahaaaChk
import Derived.Test.YtpdicijoohahaaaC8M
namespace Go.Proofs.Ytpdicijoohahaaa
set_option linter.unusedVariables false
set_option linter.unusedSimpArgs false
open Go.RowKit

set_option maxHeartbeats 1000000 in
set_option maxRecDepth 100000 in
theorem implRunSyms_yes (k : Nat) (w : World) (h1 : 1 ≤ k) (h2 : k ≤ 600) :
    Calls Try.prog 20 #[.int .i64 k] w fun e w' => ∃ v, e = .returned v ∧ w'.ownsRow w.heap.size 3 1 v (rsF k).length (natsL (rsF k)) ∧ Below w.heap.size w w' := by
  obtain ⟨i0, hi, hz0, hz1, hz2⟩ := info_parts Try.infoInt
  obtain ⟨A, hA⟩ : ∃ A, rsF k = A := ⟨_, rfl⟩
  have HA := hidden hA
  have HLe : Hid (A.length ≤ 600) := hidden (by rw [← hA]; have := rsF_len k; omega)
  rw [hA]
  clear hA
  go_enter Try.func20, Try.ntmps20
  go_wp2
  go_loopw [0, 3] (fun sk vo wr => ∃ (q : Nat) (D : List Nat), q ≤ 600 ∧ sk = .int .i64 q ∧ Hid (A = D ++ rsF q) ∧ wr.ownsRow w.heap.size 3 1 vo D.length (natsL D) ∧ Below w.heap.size w wr) (fun sk _ _ => (intOf sk).toNat)
  case atStart => exact ⟨k, [], h2, rfl, hidden (by rw [← HA.out]; rfl), World.ownsRow_nil _ _ _ _, Below.refl _ _⟩
  case round =>
    obtain ⟨q, D, hq, rfl, HD, hown, hbl⟩ := hrel
    have hsz := hbl.size
    have HDl : Hid (D.length ≤ 600) := hidden (by have := HLe.out; rw [HD.out, List.length_append] at this; omega)
    rcases Nat.eq_zero_or_pos q with rfl | h0
    · have HE : Hid (A = D) := hidden (by rw [HD.out, rsF_zero, List.append_nil])
      go_wp2
      go_ret
      exact ⟨_, rfl, by rw [HE.out]; exact hown, hbl⟩
    · obtain ⟨l, hl⟩ : ∃ l, D.length = l := ⟨_, rfl⟩
      have hDl := HDl.out
      rw [hl] at hown hDl
      have h0I : (0 : Int) < (q : Int) := by omega
      have HD2 : Hid (A = (D ++ [(q - 1) % 2]) ++ rsF ((q - 1) / 2)) := hidden (by rw [HD.out, rsF_pos h0]; simp)
      have HL2 : Hid ((D ++ [(q - 1) % 2]).length = l + 1) := hidden (by simp [hl])
      obtain ⟨p, hp⟩ : ∃ p, q - 1 = p := ⟨_, rfl⟩
      have hpI : (q : Int) - 1 = (p : Int) := by omega
      have hp6 : p < q ∧ p ≤ 600 := by omega
      rw [hp] at HD2 HL2
      obtain ⟨d, hd⟩ : ∃ d, p % 2 = d := ⟨_, rfl⟩
      obtain ⟨r, hr⟩ : ∃ r, p / 2 = r := ⟨_, rfl⟩
      rw [hd] at HD2 HL2
      rw [hr] at HD2
      have e1 : (p : Int) % 2 = (d : Int) := by omega
      have e2 : (p : Int) / 2 = (r : Int) := by omega
      have hrq : r < q ∧ r ≤ 600 := by omega
      clear hl hp hd hr
      go_wp2_with (at_builtin; refine wpList_append_own _ rfl _ _ 22 rfl w.heap.size 3 i0 (.int .i64 0) 1 8 Try.underlying22 hi hz0 hz1 hz2 rfl (by decide) _ _ _ rfl (hown.alloc _) ⟨wr.heap.size, 0, none⟩ 1 1 [.int .i64 (d : Int)] rfl rfl ?c1 ?c2 ?c3 ?c4 ?c5 ?_)
      case c1 => exact cell_one_new _ _ _
      case c2 => exact fun u hu => by simp at hu; subst hu; rfl
      case c3 => unfold maxLen; omega
      case c4 => omega
      case c5 => first | omega | (simp; omega)
      intro v5 w5 hown5 hgrow _
      have hb5 := bel_app hbl hsz hown hgrow
      have hown6 : w5.ownsRow w.heap.size 3 1 v5 (l + 1) (natsL (D ++ [d])) := by rw [natsL_snoc8]; exact hown5
      have HO5 : Hid (w5.ownsRow w.heap.size 3 1 v5 (D ++ [d]).length (natsL (D ++ [d]))) := hidden (by rw [HL2.out]; exact hown6)
      clear hown hown5 hown6 hgrow hbl
      go_wp2
      go_roundw
      case rel => exact ⟨r, D ++ [d], hrq.2, by first | rfl | go_num, HD2, HO5.out, hb5⟩
      case measure => simp [intOf]; omega
set_option maxHeartbeats 1000000 in
set_option maxRecDepth 100000 in
theorem implRunSyms_no (k : Int) (w : World) (h : ¬ (1 ≤ k ∧ k ≤ 600)) :
    Calls Try.prog 20 #[.int .i64 k] w fun e w' => e = .returned (.slice none 0 0) ∧ w = w' := by
  by_cases h1 : k < 1
  · go_enter Try.func20, Try.ntmps20
    go_wp2
    go_ret
    exact ⟨rfl, rfl⟩
  · have h2 : (600 : Int) < k := by omega
    go_enter Try.func20, Try.ntmps20
    go_wp2
    go_ret
    exact ⟨rfl, rfl⟩
theorem implRunSyms_any (k : Int) (w : World) :
    Calls Try.prog 20 #[.int .i64 k] w fun e w' => ∃ v, e = .returned v ∧ w'.ownsRow w.heap.size 3 1 v (rsZ k).length (intsV (rsZ k)) ∧ Below w.heap.size w w' := by
  by_cases h : 1 ≤ k ∧ k ≤ 600
  · obtain ⟨q, rfl⟩ : ∃ q : Nat, k = q := ⟨k.toNat, by omega⟩
    rw [rsZ_yes (by omega) (by omega), intsV_ints, ints_len]
    exact implRunSyms_yes q w (by omega) (by omega)
  · rw [rsZ_no h]
    refine (implRunSyms_no k w h).mono ?_
    rintro e w' ⟨rfl, rfl⟩
    exact ⟨_, rfl, World.ownsRow_nil _ _ _ _, Below.refl _ _⟩
theorem vF_takeZ (z : List Int) (i : Nat) : vF ((z.take i).map Int.toNat) ≤ vF (z.map Int.toNat) := by rw [List.map_take]; exact vF_take _ _
theorem vF_next (z : List Int) (i : Nat) (h : i < z.length) : vF ((z.take (i + 1)).map Int.toNat) = vF ((z.take i).map Int.toNat) + ((z.getD i 0).toNat + 1) * 2 ^ i := by
  rw [List.take_succ_eq_append_getElem h, List.map_append]
  simp only [List.map_cons, List.map_nil]
  rw [vF_snoc]
  have e : z.getD i 0 = z[i] := by simp [List.getD_eq_getElem?_getD, h]
  rw [e, List.length_map, List.length_take, Nat.min_eq_left (by omega)]
theorem rl_bad9 {z : List Int} {x : Int} (hx : x ∈ z) (h : ¬ (x = 0 ∨ x = 1)) : rlZ z = -1 := rlZ_no (fun h2 => h (((rlOk_iff z).1 h2).2.1 x hx))
set_option maxHeartbeats 1000000 in
set_option maxRecDepth 100000 in
theorem implRunLen_any (a : Option Addr) (cap B : Nat) (z : List Int) (w : World) (hz : Ints w B a z) (hl : z.length ≤ 1048576) :
    Calls Try.prog 22 #[.slice a z.length cap] w fun e w' => e = .returned (.int .i64 (rlZ z)) ∧ w = w' := by
  by_cases h0 : z.length = 0
  · have HF : Hid (rlZ z = -1) := hidden (rlZ_no (fun h2 => ((rlOk_iff z).1 h2).1 (List.length_eq_zero_iff.1 h0)))
    rw [h0]
    clear hz h0
    go_enter Try.func22, Try.ntmps22
    go_wp2
    go_ret
    exact ⟨by rw [HF.out]; rfl, rfl⟩
  have HNX := hidden (fun i h => vF_next z i h)
  have HTK := hidden (vF_takeZ z)
  obtain ⟨b, off, rfl, hb, hc⟩ := hz.2.2 (by omega)
  have HC := hidden hc
  have HMEM : Hid (∀ j, j < z.length → z.getD j 0 ∈ z) := hidden (fun j h => getD_mem h)
  have HTS : Hid (∀ i, i < z.length → z.take (i + 1) = z.take i ++ [z.getD i 0]) := hidden (fun i h => by rw [List.take_succ_eq_append_getElem h]; simp [List.getD_eq_getElem?_getD, h])
  have HNE : Hid (z ≠ []) := hidden (fun e => h0 (by rw [e]; rfl))
  obtain ⟨n, hn⟩ : ∃ n, z.length = n := ⟨_, rfl⟩
  have HN := hidden hn
  rw [hn] at h0 hl HNX HC HMEM HTS ⊢
  have hb0 : ¬ (n : Int) = 0 := by omega
  clear hz hn hc
  go_enter Try.func22, Try.ntmps22
  go_wp2
  go_loopw [3, 4, 6, 12] (fun sv sg _ si wr => ∃ (i v g : Nat), i ≤ n ∧ si = .int .i64 i ∧ sv = .int .i64 v ∧ sg = .int .i64 g ∧ v ≤ 600 ∧ g ≤ 601 ∧ Hid (g = 2 ^ i) ∧ Hid (v = vF ((z.take i).map Int.toNat)) ∧ Hid (∀ x ∈ z.take i, x = 0 ∨ x = 1) ∧ w = wr) (fun _ _ _ si _ => n - (intOf si).toNat)
  case atStart => exact ⟨0, 0, 1, by omega, rfl, rfl, rfl, by omega, by omega, hidden rfl, hidden rfl, hidden (fun x hx => by simp at hx), by first | trivial | rfl⟩
  case round =>
    obtain ⟨i, v, g, hin, rfl, rfl, rfl, hv, hg, HG, HV, HA, rfl⟩ := hrel
    by_cases hlt : i < n
    · have hiI : (i : Int) < (n : Int) := by omega
      have ck := HC.out i hlt
      have HM := hidden (HMEM.out i hlt)
      have HS := hidden (HNX.out i hlt)
      have HT := hidden (HTS.out i hlt)
      obtain ⟨x, hx⟩ : ∃ x, z.getD i 0 = x := ⟨_, rfl⟩
      rw [hx] at ck HM HS HT
      clear hx
      by_cases hx0 : x = 0
      · subst hx0
        have HV2 : Hid (v + g = vF ((z.take (i + 1)).map Int.toNat)) := hidden (by rw [HS.out, ← HV.out, ← HG.out]; simp)
        have HA2 : Hid (∀ x ∈ z.take (i + 1), x = 0 ∨ x = 1) := hidden (fun y hy => by
          rw [HT.out] at hy
          rcases List.mem_append.1 hy with hy | hy
          · exact HA.out y hy
          · rw [List.mem_singleton.1 hy]; exact .inl rfl)
        by_cases hbig : 600 < v + g
        · have hbI : (600 : Int) < (v : Int) + (g : Int) := by omega
          have HF : Hid (rlZ z = -1) := hidden (rlZ_no (fun h2 => by have h3 := ((rlOk_iff z).1 h2).2.2; have h4 := HTK.out (i + 1); rw [← HV2.out] at h4; omega))
          go_wp2
          go_ret
          exact ⟨by rw [HF.out]; rfl, rfl⟩
        · have hbI : ¬ (600 : Int) < (v : Int) + (g : Int) := by omega
          have HG2 : Hid (g * 2 = 2 ^ (i + 1)) := hidden (by rw [HG.out, Nat.pow_succ])
          have HG3 : Hid (g * 2 ≤ 601) := hidden (by
            have h4 := vF_pow ((z.take (i + 1)).map Int.toNat)
            rw [List.length_map, List.length_take, HN.out, Nat.min_eq_left (by omega), ← HV2.out] at h4
            have := HG2.out
            omega)
          have hg3 := HG3.out
          go_wp2
          go_roundw
          case rel => exact ⟨i + 1, v + g, g * 2, by omega, by go_num, by go_num, by go_num, by omega, hg3, HG2, HV2, HA2, by first | trivial | rfl⟩
          case measure => first | (simp [intOf]; done) | (simp [intOf]; omega)
      by_cases hx1 : x = 1
      · subst hx1
        have HV2 : Hid (v + 2 * g = vF ((z.take (i + 1)).map Int.toNat)) := hidden (by rw [HS.out, ← HV.out, ← HG.out]; simp)
        have HA2 : Hid (∀ x ∈ z.take (i + 1), x = 0 ∨ x = 1) := hidden (fun y hy => by
          rw [HT.out] at hy
          rcases List.mem_append.1 hy with hy | hy
          · exact HA.out y hy
          · rw [List.mem_singleton.1 hy]; exact .inr rfl)
        by_cases hbig : 600 < v + 2 * g
        · have hbI : (600 : Int) < (v : Int) + 2 * (g : Int) := by omega
          have HF : Hid (rlZ z = -1) := hidden (rlZ_no (fun h2 => by have h3 := ((rlOk_iff z).1 h2).2.2; have h4 := HTK.out (i + 1); rw [← HV2.out] at h4; omega))
          go_wp2
          go_ret
          exact ⟨by rw [HF.out]; rfl, rfl⟩
        · have hbI : ¬ (600 : Int) < (v : Int) + 2 * (g : Int) := by omega
          have HG2 : Hid (g * 2 = 2 ^ (i + 1)) := hidden (by rw [HG.out, Nat.pow_succ])
          have HG3 : Hid (g * 2 ≤ 601) := hidden (by
            have h4 := vF_pow ((z.take (i + 1)).map Int.toNat)
            rw [List.length_map, List.length_take, HN.out, Nat.min_eq_left (by omega), ← HV2.out] at h4
            have := HG2.out
            omega)
          have hg3 := HG3.out
          go_wp2
          go_roundw
          case rel => exact ⟨i + 1, v + 2 * g, g * 2, by omega, by go_num, by go_num, by go_num, by omega, hg3, HG2, HV2, HA2, by first | trivial | rfl⟩
          case measure => first | (simp [intOf]; done) | (simp [intOf]; omega)
      have HF : Hid (rlZ z = -1) := hidden (rl_bad9 HM.out (by omega))
      by_cases hxn : x < 0
      · go_wp2
        go_ret
        exact ⟨by rw [HF.out]; rfl, rfl⟩
      · have hx2 : (2 : Int) ≤ x := by omega
        go_wp2
        go_ret
        exact ⟨by rw [HF.out]; rfl, rfl⟩
    · have hie : i = n := by omega
      subst hie
      have HF : Hid (rlZ z = v) := hidden (by
        have h1 : z.take i = z := List.take_of_length_le (by rw [HN.out]; exact Nat.le_refl _)
        have h2 := HV.out
        have h3 := HA.out
        rw [h1] at h2 h3
        rw [h2]
        exact rlZ_yes ((rlOk_iff z).2 ⟨HNE.out, h3, by omega⟩))
      go_wp2
      go_ret
      exact ⟨by rw [HF.out]; rfl, rfl⟩
set_option maxHeartbeats 1000000 in
set_option maxRecDepth 100000 in
theorem runAtFront_any (a : Option Addr) (cap B : Nat) (z : List Int) (b : Int) (w : World) (hz : Ints w B a z) (hl : z.length ≤ 1048576) :
    Calls Try.prog 59 #[.slice a z.length cap, .int .i64 b] w fun e w' => e = .returned (.int .i64 (frZ b z)) ∧ w = w' := by
  have HZ := hidden hz
  have HDC := hidden (fun j h => dropZ_cons z j h)
  have HST : Hid (frZ b z = 0 + frZ b (z.drop 0)) := hidden (by rw [List.drop_zero, Nat.zero_add])
  have HEN : Hid (frZ b (z.drop z.length) = 0) := hidden (by rw [List.drop_length]; rfl)
  obtain ⟨A, hA⟩ : ∃ A, frZ b z = A := ⟨_, rfl⟩
  rw [hA] at HST ⊢
  obtain ⟨n, hn⟩ : ∃ n, z.length = n := ⟨_, rfl⟩
  have HN := hidden hn
  rw [hn] at hl HDC HEN ⊢
  clear hz hA hn
  go_enter Try.func59, Try.ntmps59
  go_wp2
  go_loopw [5, 6, 9] (fun _ _ si wr => ∃ i : Nat, i ≤ n ∧ si = .int .i64 i ∧ Hid (A = i + frZ b (z.drop i)) ∧ w = wr) (fun _ _ si _ => n - (intOf si).toNat)
  case atStart => exact ⟨0, by omega, rfl, HST, by first | trivial | rfl⟩
  case round =>
    obtain ⟨i, hin, rfl, HA, rfl⟩ := hrel
    by_cases hlt : i < n
    · have hiI : (i : Int) < (n : Int) := by omega
      obtain ⟨bl, off, rfl, hb, hc⟩ := HZ.out.2.2 (by rw [HN.out]; omega)
      have ck := hc i (by rw [HN.out]; exact hlt)
      have HD := hidden (HDC.out i hlt)
      obtain ⟨x, hx⟩ : ∃ x, z.getD i 0 = x := ⟨_, rfl⟩
      rw [hx] at ck HD
      clear hx hc
      by_cases hxb : x < b
      · have hxc : ¬ b ≤ x := by omega
        have HA2 : Hid (A = (i + 1) + frZ b (z.drop (i + 1))) := hidden (by rw [HA.out, HD.out, frZ, if_pos hxb]; omega)
        go_wp2
        go_roundw
        case rel => exact ⟨i + 1, by omega, by go_num, HA2, by first | trivial | rfl⟩
        case measure => first | (simp [intOf]; done) | (simp [intOf]; omega)
      · have hxc : b ≤ x := by omega
        have HF : Hid (A = i) := hidden (by rw [HA.out, HD.out, frZ, if_neg hxb, Nat.add_zero])
        go_wp2
        go_ret
        exact ⟨by rw [HF.out]; rfl, rfl⟩
    · have hie : i = n := by omega
      subst hie
      have HF : Hid (A = i) := hidden (by rw [HA.out, HEN.out, Nat.add_zero])
      go_wp2
      go_ret
      exact ⟨by rw [HF.out]; rfl, rfl⟩
end Go.Proofs.Ytpdicijoohahaaa
