/- Chapter 9: runs (the model): RunSyms, RunLen. -/
import Derived.Test.YtpdicijoohahaaaZr
import Derived.Test.YtpdicijoohahaaaC8M
namespace Go.Proofs.Ytpdicijoohahaaa
set_option linter.unusedVariables false
set_option linter.unusedSimpArgs false
open Go.RowKit

theorem rsF_odd {k : Nat} (h : k % 2 = 1) : rsF k = 0 :: rsF ((k - 1) / 2) := by
  rw [rsF_pos (by omega)]
  congr 1
  omega
theorem rsF_even {k : Nat} (h : k % 2 = 0) (h0 : 0 < k) : rsF k = 1 :: rsF ((k - 2) / 2) := by
  rw [rsF_pos h0]
  congr 1
  · omega
  · congr 1; omega
theorem rsZ_len (k : Int) : (rsZ k).length ≤ 600 := by
  by_cases h : 1 ≤ k ∧ k ≤ 600
  · unfold rsZ
    rw [if_pos h, ints_len]
    have := rsF_len k.toNat
    omega
  · rw [rsZ_no h]; simp
set_option maxHeartbeats 1000000 in
set_option maxRecDepth 100000 in
theorem specRunSyms_yes (k : Nat) (w : World) (h1 : 1 ≤ k) (h2 : k ≤ 600) :
    Calls Try.prog 19 #[.int .i64 k] w fun e w' => ∃ v, e = .returned v ∧ w'.ownsRow w.heap.size 3 1 v (rsF k).length (natsL (rsF k)) ∧ Below w.heap.size w w' := by
  obtain ⟨i0, hi, hz0, hz1, hz2⟩ := info_parts Try.infoInt
  obtain ⟨A, hA⟩ : ∃ A, rsF k = A := ⟨_, rfl⟩
  have HA := hidden hA
  have HLe : Hid (A.length ≤ 600) := hidden (by rw [← hA]; have := rsF_len k; omega)
  rw [hA]
  clear hA
  go_enter Try.func19, Try.ntmps19
  go_wp2
  go_loopw [0, 3] (fun sk vo wr => ∃ (q : Nat) (D : List Nat), q ≤ 600 ∧ sk = .int .i64 q ∧ Hid (A = D ++ rsF q) ∧ wr.ownsRow w.heap.size 3 1 vo D.length (natsL D) ∧ Below w.heap.size w wr) (fun sk _ _ => (intOf sk).toNat)
  case atStart => exact ⟨k, [], h2, rfl, hidden (by rw [← HA.out]; rfl), World.ownsRow_nil _ _ _ _, Below.refl _ _⟩
  case round =>
    obtain ⟨q, D, hq, rfl, HD, hown, hbl⟩ := hrel
    have hsz := hbl.size
    have HDl : Hid (D.length ≤ 600) := hidden (by have := HLe.out; rw [HD.out, List.length_append] at this; omega)
    by_cases h0 : 0 < q
    · obtain ⟨l, hl⟩ : ∃ l, D.length = l := ⟨_, rfl⟩
      have hDl := HDl.out
      rw [hl] at hown hDl
      by_cases ho : q % 2 = 1
      · have hoI : (q : Int) % 2 = 1 := by omega
        have hoB : (((q : Int) % 2) == (1 : Int)) = true := by simp [hoI]
        have HD2 : Hid (A = (D ++ [0]) ++ rsF ((q - 1) / 2)) := hidden (by rw [HD.out, rsF_odd ho]; simp)
        have HL2 : Hid ((D ++ [0]).length = l + 1) := hidden (by simp [hl])
        have hq2 : ((q : Int) - 1) / 2 = (((q - 1) / 2 : Nat) : Int) := by omega
        have hq3 : ((q : Int) - 1).tdiv 2 = (((q - 1) / 2 : Nat) : Int) := by rw [Int.tdiv_eq_ediv_of_nonneg (by omega)]; omega
        clear hl
        go_wp2_with (at_builtin; refine wpList_append_own _ rfl _ _ 22 rfl w.heap.size 3 i0 (.int .i64 0) 1 8 Try.underlying22 hi hz0 hz1 hz2 rfl (by decide) _ _ _ rfl (hown.alloc _) ⟨wr.heap.size, 0, none⟩ 1 1 [.int .i64 0] rfl rfl ?c1 ?c2 ?c3 ?c4 ?c5 ?_)
        case c1 => exact cell_one_new _ _ _
        case c2 => exact fun u hu => by simp at hu; subst hu; rfl
        case c3 => unfold maxLen; omega
        case c4 => omega
        case c5 => first | omega | (simp; omega)
        intro v5 w5 hown5 hgrow _
        have hb5 := bel_app hbl hsz hown hgrow
        have hown6 : w5.ownsRow w.heap.size 3 1 v5 (l + 1) (natsL (D ++ [0])) := by rw [natsL_snoc8]; exact hown5
        have HO5 : Hid (w5.ownsRow w.heap.size 3 1 v5 (D ++ [0]).length (natsL (D ++ [0]))) := hidden (by rw [HL2.out]; exact hown6)
        clear hown hown5 hown6 hgrow hbl
        go_wp2
        go_roundw
        case rel => exact ⟨(q - 1) / 2, D ++ [0], by omega, by go_num, HD2, HO5.out, hb5⟩
        case measure => simp [intOf]; omega
      · have he : q % 2 = 0 := by omega
        have hoI : (q : Int) % 2 = 0 := by omega
        have hoB : (((q : Int) % 2) == (1 : Int)) = false := by simp [hoI]
        have HD2 : Hid (A = (D ++ [1]) ++ rsF ((q - 2) / 2)) := hidden (by rw [HD.out, rsF_even he h0]; simp)
        have HL2 : Hid ((D ++ [1]).length = l + 1) := hidden (by simp [hl])
        have hq2 : ((q : Int) - 2) / 2 = (((q - 2) / 2 : Nat) : Int) := by omega
        have hq3 : ((q : Int) - 2).tdiv 2 = (((q - 2) / 2 : Nat) : Int) := by rw [Int.tdiv_eq_ediv_of_nonneg (by omega)]; omega
        clear hl
        go_wp2_with (at_builtin; refine wpList_append_own _ rfl _ _ 22 rfl w.heap.size 3 i0 (.int .i64 0) 1 8 Try.underlying22 hi hz0 hz1 hz2 rfl (by decide) _ _ _ rfl (hown.alloc _) ⟨wr.heap.size, 0, none⟩ 1 1 [.int .i64 1] rfl rfl ?c1 ?c2 ?c3 ?c4 ?c5 ?_)
        case c1 => exact cell_one_new _ _ _
        case c2 => exact fun u hu => by simp at hu; subst hu; rfl
        case c3 => unfold maxLen; omega
        case c4 => omega
        case c5 => first | omega | (simp; omega)
        intro v5 w5 hown5 hgrow _
        have hb5 := bel_app hbl hsz hown hgrow
        have hown6 : w5.ownsRow w.heap.size 3 1 v5 (l + 1) (natsL (D ++ [1])) := by rw [natsL_snoc8]; exact hown5
        have HO5 : Hid (w5.ownsRow w.heap.size 3 1 v5 (D ++ [1]).length (natsL (D ++ [1]))) := hidden (by rw [HL2.out]; exact hown6)
        clear hown hown5 hown6 hgrow hbl
        go_wp2
        go_roundw
        case rel => exact ⟨(q - 2) / 2, D ++ [1], by omega, by go_num, HD2, HO5.out, hb5⟩
        case measure => simp [intOf]; omega
    · have hq0 : q = 0 := by omega
      subst hq0
      have HE : Hid (A = D) := hidden (by rw [HD.out, rsF_zero, List.append_nil])
      go_wp2
      go_ret
      exact ⟨_, rfl, by rw [HE.out]; exact hown, hbl⟩
set_option maxHeartbeats 1000000 in
set_option maxRecDepth 100000 in
theorem specRunSyms_no (k : Int) (w : World) (h : ¬ (1 ≤ k ∧ k ≤ 600)) :
    Calls Try.prog 19 #[.int .i64 k] w fun e w' => e = .returned (.slice none 0 0) ∧ w = w' := by
  by_cases h1 : k < 1
  · go_enter Try.func19, Try.ntmps19
    go_wp2
    go_ret
    exact ⟨rfl, rfl⟩
  · have h2 : (600 : Int) < k := by omega
    go_enter Try.func19, Try.ntmps19
    go_wp2
    go_ret
    exact ⟨rfl, rfl⟩
theorem specRunSyms_any (k : Int) (w : World) :
    Calls Try.prog 19 #[.int .i64 k] w fun e w' => ∃ v, e = .returned v ∧ w'.ownsRow w.heap.size 3 1 v (rsZ k).length (intsV (rsZ k)) ∧ Below w.heap.size w w' := by
  by_cases h : 1 ≤ k ∧ k ≤ 600
  · obtain ⟨q, rfl⟩ : ∃ q : Nat, k = q := ⟨k.toNat, by omega⟩
    rw [rsZ_yes (by omega) (by omega), intsV_ints, ints_len]
    exact specRunSyms_yes q w (by omega) (by omega)
  · rw [rsZ_no h]
    refine (specRunSyms_no k w h).mono ?_
    rintro e w' ⟨rfl, rfl⟩
    exact ⟨_, rfl, World.ownsRow_nil _ _ _ _, Below.refl _ _⟩
end Go.Proofs.Ytpdicijoohahaaa
