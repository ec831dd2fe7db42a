/- The library's sort at bytes: reverseRange, insertionSort. -/
import Derived.Test.YteaohgipndmciaaSB1
namespace Go.Proofs.Yteaohgipndmciaa
set_option linter.unusedVariables false
set_option linter.unusedSimpArgs false
open Go.RowKit Go.Sort

theorem size_reverseLoop : ∀ (n i j : Nat) (d : Array Int), j - i ≤ n → (reverseLoop i j d).size = d.size := by
  intro n
  induction n with
  | zero => intro i j d h; rw [reverseLoop, if_neg (by omega)]
  | succ n ih =>
    intro i j d h
    rw [reverseLoop]
    split
    · rw [ih _ _ _ (by omega), size_swp]
    · rfl
set_option maxHeartbeats 8000000 in
set_option maxRecDepth 100000 in
theorem reverse_any (d : Array Int) (len : Nat) (hlen : d.size = len) (g cap a b : Nat) (w : World) (hB : Bs w g cap d) (hab : a < b) (hb : b ≤ len) (hz : len < 4611686018427387904) :
    Calls Try.prog 117 #[.slice (some ⟨g, 0, none⟩) len cap, .int .i64 a, .int .i64 b] w fun e w' =>
      e = .returned (.tuple #[]) ∧ Bs w' g cap (reverseRange d a b) ∧ Only g w w' := by
  obtain ⟨j0, rfl⟩ : ∃ j0, b = j0 + 1 := ⟨b - 1, by omega⟩
  have HB := hidden hB
  clear hB
  go_enter Try.func117, Try.ntmps117
  go_wp2
  go_loopw [6, 7] (fun si sj wr => ∃ (i j : Nat) (dk : Array Int), si = .int .i64 i ∧ sj = .int .i64 j ∧ i ≤ j + 1 ∧ j ≤ j0 ∧ dk.size = len ∧ Hid (reverseLoop i j dk = reverseRange d a (j0 + 1)) ∧ Hid (Bs wr g cap dk) ∧ Only g w wr)
    (fun si sj _ => (intOf sj).toNat + 1 - (intOf si).toNat)
  case atStart => exact ⟨a, j0, d, rfl, by simp, by omega, Nat.le_refl _, hlen, hidden rfl, HB, Only.refl _ _⟩
  case round =>
    obtain ⟨i, j, dk, rfl, rfl, hij, hj, hdk, HR, HK, hO⟩ := hrel
    by_cases hlt : i < j
    · obtain ⟨j, rfl⟩ : ∃ k, j = k + 1 := ⟨j - 1, by omega⟩
      have ci := HK.out.cell (j := i) (by omega)
      have cj := HK.out.cell (j := j + 1) (by omega)
      have fi := HK.out.free i
      have fj := HK.out.free (j + 1)
      have HS := hidden (HK.out.swp (i := i) (j := j + 1) (by omega) (by omega))
      generalize dk[i]! = x at ci HS
      generalize dk[j+1]! = y at cj HS
      go_wp2
      go_region
      go_wp2
      go_roundw
      case measure => simp [intOf]; omega
      case rel =>
        refine ⟨i + 1, j, _, rfl, by simp, by omega, by omega, by rw [size_swp]; exact hdk, hidden ?_, HS, (((hO.store (.inl rfl) _).store (.inl rfl) _).drew)⟩
        rw [← HR.out, reverseLoop.eq_1 i (j + 1), if_pos hlt]; rfl
    · go_wp2
      go_end0
      refine ⟨rfl, ?_, hO⟩
      have h := HR.out
      rw [reverseLoop, if_neg hlt] at h
      rw [← h]; exact HK.out
theorem size_insInner (a : Nat) : ∀ (j : Nat) (d : Array Int), (insInner ltInt a j d).size = d.size := by
  intro j
  induction j with
  | zero => intro d; rfl
  | succ j ih =>
    intro d
    unfold insInner
    split
    · rw [ih, size_swp]
    · rfl
set_option maxHeartbeats 8000000 in
set_option maxRecDepth 100000 in
theorem insertion_any (d : Array Int) (len : Nat) (hlen : d.size = len) (g cap a b : Nat) (w : World) (hB : Bs w g cap d) (hab : a ≤ b) (hb : b ≤ len) (hz : len < 4611686018427387904) :
    Calls Try.prog 113 #[.slice (some ⟨g, 0, none⟩) len cap, .int .i64 a, .int .i64 b] w fun e w' =>
      e = .returned (.tuple #[]) ∧ Bs w' g cap (insertionSort ltInt d a b) ∧ Only g w w' := by
  have HB := hidden hB
  clear hB
  go_enter Try.func113, Try.ntmps113
  go_wp2
  go_loopw [6] (fun si wr => ∃ (i : Nat) (dk : Array Int), si = .int .i64 i ∧ a < i ∧ (i ≤ b ∨ i = a + 1) ∧ dk.size = len ∧ Hid (insOuter ltInt a b i dk = insertionSort ltInt d a b) ∧ Hid (Bs wr g cap dk) ∧ Only g w wr)
    (fun si _ => b + 1 - (intOf si).toNat)
  case atStart => exact ⟨a + 1, d, by simp, by omega, .inr rfl, hlen, hidden rfl, HB, Only.refl _ _⟩
  case round =>
    obtain ⟨i, dk, rfl, hai, hib, hdk, HR, HK, hO⟩ := hrel
    by_cases hlt : (i : Int) < (b : Int)
    · go_wp2
      go_loopw [7] (fun sj wr2 => ∃ (j : Nat) (dj : Array Int), sj = .int .i64 j ∧ a ≤ j ∧ j ≤ i ∧ dj.size = len ∧ Hid (insInner ltInt a j dj = insInner ltInt a i dk) ∧ Hid (Bs wr2 g cap dj) ∧ Only g w wr2)
        (fun sj _ => (intOf sj).toNat)
      case atStart => exact ⟨i, dk, rfl, by omega, Nat.le_refl _, hdk, hidden rfl, HK, hO⟩
      case round =>
        clear hO HK
        obtain ⟨j, dj, rfl, haj, hji, hdj, HR2, HK2, hO2⟩ := hrel
        by_cases hja : a < j
        · obtain ⟨j, rfl⟩ : ∃ k, j = k + 1 := ⟨j - 1, by omega⟩
          have ci := HK2.out.cell (j := j) (by omega)
          have cj := HK2.out.cell (j := j + 1) (by omega)
          have fi := HK2.out.free j
          have fj := HK2.out.free (j + 1)
          have HS := hidden (HK2.out.swp (i := j + 1) (j := j) (by omega) (by omega))
          have HI := hidden (show insInner ltInt a (j + 1) dj = if ltInt dj[j + 1]! dj[j]! then insInner ltInt a j (swp dj (j + 1) j) else dj by
            rw [insInner]; simp [hja])
          generalize dj[j]! = x at ci HS HI
          generalize dj[j+1]! = y at cj HS HI
          have hg : (a : Int) < (j : Int) + 1 := by omega
          go_wp2
          go_quiet ((go_at_call 119; exact quiet_l (less8_any _ _ _)))
          cases hl : ltInt y x
          · go_wp2
            go_roundw
            case measure => simp [intOf]; omega
            case rel =>
              refine ⟨i + 1, dj, by simp, by omega, by omega, hdj, hidden ?_, hidden (HK2.out.drewN _), hO2.drewN _⟩
              have h := HI.out
              rw [hl] at h
              rw [← HR.out, insOuter.eq_1 ltInt a b i, if_pos (by omega), ← HR2.out, h]
              rfl
          · go_wp2
            go_region
            go_wp2
            go_roundw
            case measure => simp [intOf]
            case rel =>
              refine ⟨j, swp dj (j + 1) j, by simp, by omega, by omega, by rw [size_swp]; exact hdj, hidden ?_, hidden HS.out, ?_⟩
              rotate_left
              · exact Only.store (Only.store (hO2.drewN _) (.inl rfl) _) (.inl rfl) _
              have h := HI.out
              rw [hl] at h
              rw [← HR2.out, h]
              rfl
        · have hg : decide ((a : Int) < (j : Int)) = false := by simp; omega
          go_wp2
          go_quiet (fail)
          go_wp2
          go_roundw
          case measure => simp [intOf]; omega
          case rel =>
            refine ⟨i + 1, dj, by simp, by omega, by omega, hdj, hidden ?_, hidden (HK2.out.drewN _), hO2.drewN _⟩
            have h : insInner ltInt a j dj = dj := by
              cases j with
              | zero => rfl
              | succ j => unfold insInner; simp [show ¬ (a < j + 1) from hja]
            rw [← HR.out, insOuter.eq_1 ltInt a b i, if_pos (by omega), ← HR2.out, h]
    · go_wp2
      go_end0
      refine ⟨rfl, ?_, hO⟩
      have h := HR.out
      rw [insOuter, if_neg (by omega)] at h
      rw [← h]; exact HK.out
end Go.Proofs.Yteaohgipndmciaa
