/- The library's sort at bytes: heapSort. -/
import Derived.Test.YteaohgipndmciaaSB3
namespace Go.Proofs.Yteaohgipndmciaa
set_option linter.unusedVariables false
set_option linter.unusedSimpArgs false
open Go.RowKit Go.Sort

set_option maxHeartbeats 8000000 in
set_option maxRecDepth 100000 in
theorem heap_any (d : Array Int) (len : Nat) (hlen : d.size = len) (g cap a b : Nat) (w : World) (hB : Bs w g cap d) (hab : a < b) (hb : b ≤ len) (hz : len < 1152921504606846976) :
    Calls Try.prog 114 #[.slice (some ⟨g, 0, none⟩) len cap, .int .i64 a, .int .i64 b] w fun e w' =>
      e = .returned (.tuple #[]) ∧ Bs w' g cap (heapSort ltInt d a b) ∧ Only g w w' := by
  obtain ⟨m, hm⟩ : ∃ m, b - a = m := ⟨_, rfl⟩
  have HM := hidden hm
  have hm2 : (b : Int) - (a : Int) = (m : Int) := by omega
  obtain ⟨q, hq⟩ : ∃ q, (m - 1) / 2 = q := ⟨_, rfl⟩
  have HQ := hidden hq
  have hq2 : ((m : Int) - 1).tdiv 2 = (q : Int) := by
    rw [Int.tdiv_eq_ediv_of_nonneg (by omega)]
    omega
  have hqm : q < m := by omega
  have hml : a + m ≤ len := by omega
  have hHS : Hid (heapSort ltInt d a b = heapPop ltInt a m (heapBuild ltInt m a (q + 1) d)) := hidden (by subst hm; subst hq; rfl)
  have HB := hidden hB
  clear hB hq hm
  go_enter Try.func114, Try.ntmps114
  go_wp2
  go_loopw [9] (fun si wr => ∃ (k : Nat) (dk : Array Int), si = .int .i64 ((k : Int) - 1) ∧ k ≤ q + 1 ∧ dk.size = len ∧ Hid (heapBuild ltInt m a k dk = heapBuild ltInt m a (q + 1) d) ∧ Hid (Bs wr g cap dk) ∧ Only g w wr)
    (fun si _ => (intOf si + 1).toNat)
  case atStart => exact ⟨q + 1, d, by simp, Nat.le_refl _, hlen, hidden rfl, HB, Only.refl _ _⟩
  case round =>
    obtain ⟨k, dk, rfl, hk, hdk, HR, HK, hO⟩ := hrel
    cases k with
    | zero =>
      have HD : Hid (heapSort ltInt d a b = heapPop ltInt a m dk) := hidden (by rw [hHS.out, ← HR.out]; rfl)
      clear HR
      go_wp2
      go_loopw [10] (fun si wr2 => ∃ (k : Nat) (dj : Array Int), si = .int .i64 ((k : Int) - 1) ∧ k ≤ m ∧ dj.size = len ∧ Hid (heapPop ltInt a k dj = heapPop ltInt a m dk) ∧ Hid (Bs wr2 g cap dj) ∧ Only g w wr2)
        (fun si _ => (intOf si + 1).toNat)
      case atStart => exact ⟨m, dk, rfl, Nat.le_refl _, hdk, hidden rfl, HK, hO⟩
      case round =>
        clear hO HK
        obtain ⟨k, dj, rfl, hkm, hdj, HR2, HK2, hO2⟩ := hrel
        cases k with
        | zero =>
          go_wp2
          go_end0
          refine ⟨rfl, ?_, hO2⟩
          rw [HD.out, ← HR2.out]
          exact HK2.out
        | succ k =>
          have HW := hidden (HK2.out.swp (i := a) (j := a + k) (by omega) (by omega))
          have c0 := HK2.out.cell (j := a) (by omega)
          have c1 := HK2.out.cell (j := a + k) (by omega)
          have f0 := HK2.out.free a
          have f1 := HK2.out.free (a + k)
          rcases Nat.eq_zero_or_pos k with rfl | hkp
          · rw [Nat.add_zero] at c1 HW f1
            have HP : Hid (heapPop ltInt a (0 + 1) dj = heapPop ltInt a 0 (siftDown ltInt 0 a 0 (swp dj a a))) := hidden (by rw [heapPop]; rfl)
            generalize hx : dj[a]! = x at c0 c1 HW
            clear hx
            go_wp2_with (fail)
            go_region
            go_wp2_with (fail)
            refine (sift_any (swp dj a a) len (by rw [size_swp]; exact hdj) g cap 0 0 a _ HW.out.drew (by omega) (by omega) hz).mono ?_
            rintro e w1 ⟨rfl, hB1, ho1⟩
            go_wp2
            go_roundw
            case measure => simp [intOf]
            case rel =>
              repeat apply Exists.intro
              refine ⟨?_, rfl⟩
              refine ⟨0, siftDown ltInt 0 a 0 (swp dj a a), by simp, by omega, by rw [size_sift _ _ _ _ _ (Nat.le_refl _), size_swp]; exact hdj, hidden (by rw [← HR2.out, HP.out]), hidden hB1, Only.trans ?_ ho1⟩
              exact (Only.store (Only.store hO2 (.inl rfl) _) (.inl rfl) _).drew
          · have HP : Hid (heapPop ltInt a (k + 1) dj = heapPop ltInt a k (siftDown ltInt k a 0 (swp dj a (a + k)))) := hidden (by rw [heapPop])
            generalize hx : dj[a]! = x at c0 HW
            generalize hy : dj[a + k]! = y at c1 HW
            clear hx hy
            go_wp2_with (fail)
            go_region
            go_wp2_with (fail)
            refine (sift_any (swp dj a (a + k)) len (by rw [size_swp]; exact hdj) g cap 0 k a _ HW.out.drew (by omega) (by omega) hz).mono ?_
            rintro e w1 ⟨rfl, hB1, ho1⟩
            go_wp2
            go_roundw
            case measure => simp [intOf] <;> omega
            case rel =>
              repeat apply Exists.intro
              refine ⟨?_, rfl⟩
              refine ⟨k, siftDown ltInt k a 0 (swp dj a (a + k)), by simp, by omega, by rw [size_sift _ _ _ _ _ (Nat.le_refl _), size_swp]; exact hdj, hidden (by rw [← HR2.out, HP.out]), hidden hB1, Only.trans ?_ ho1⟩
              exact (Only.store (Only.store hO2 (.inl rfl) _) (.inl rfl) _).drew
    | succ k =>
      go_wp2_with (fail)
      refine (sift_any dk len hdk g cap k m a _ HK.out (by omega) (by omega) hz).mono ?_
      rintro e w1 ⟨rfl, hB1, ho1⟩
      go_wp2
      go_roundw
      case measure => simp [intOf] <;> omega
      case rel => exact ⟨k, _, by simp, by omega, by rw [size_sift _ _ _ _ _ (Nat.le_refl _)]; exact hdk, hidden (by rw [← HR.out]; rfl), hidden hB1, hO.trans ho1⟩
end Go.Proofs.Yteaohgipndmciaa
