/- The library's sort at bytes: siftDown, heapSort. -/
import Derived.Test.YteaohgipndmciaaSB1
namespace Go.Proofs.Yteaohgipndmciaa
set_option linter.unusedVariables false
set_option linter.unusedSimpArgs false
open Go.RowKit Go.Sort

theorem size_sift (hi F : Nat) : ∀ (n root : Nat) (d : Array Int), hi - root ≤ n → (siftDown ltInt hi F root d).size = d.size := by
  intro n
  induction n with
  | zero => intro root d h; rw [siftDown, dif_pos (by omega)]
  | succ n ih =>
    intro root d h
    rw [siftDown]
    split
    · rfl
    · split
      · split
        · rfl
        · split
          · rw [ih _ _ (by omega), size_swp]
          · rfl
      · split
        · rfl
        · rw [ih _ _ (by omega), size_swp]
/-- One step of siftDown, by the child that is taken. -/
theorem sift_end {hi F root : Nat} {d : Array Int} (h : hi ≤ 2 * root + 1) : siftDown ltInt hi F root d = d := by rw [siftDown, dif_pos (by omega)]
theorem sift_step {hi F root c : Nat} {d : Array Int} (h : 2 * root + 1 < hi)
    (hc : c = if 2 * root + 2 < hi ∧ ltInt d[F + (2 * root + 1)]! d[F + (2 * root + 1) + 1]! = true then 2 * root + 2 else 2 * root + 1) :
    siftDown ltInt hi F root d = if ltInt d[F + root]! d[F + c]! = true then siftDown ltInt hi F c (swp d (F + root) (F + c)) else d := by
  rw [siftDown, dif_neg (by omega)]
  by_cases h1 : 2 * root + 2 < hi ∧ ltInt d[F + (2 * root + 1)]! d[F + (2 * root + 1) + 1]! = true
  · rw [if_pos h1] at hc
    subst hc
    rw [if_pos (by simp [h1.2]; omega)]
    cases hl : ltInt d[F + root]! d[F + (2 * root + 2)]!
    · simp
    · simp [h1.1]
  · rw [if_neg h1] at hc
    subst hc
    rw [if_neg (by simp only [Bool.and_eq_true, decide_eq_true_eq]; exact h1)]
    cases hl : ltInt d[F + root]! d[F + (2 * root + 1)]! <;> simp
set_option maxHeartbeats 8000000 in
set_option maxRecDepth 100000 in
theorem sift_any (d : Array Int) (len : Nat) (hlen : d.size = len) (g cap lo hi F : Nat) (w : World) (hB : Bs w g cap d) (hb : F + hi ≤ len) (hlo : lo ≤ len) (hz : len < 1152921504606846976) :
    Calls Try.prog 122 #[.slice (some ⟨g, 0, none⟩) len cap, .int .i64 lo, .int .i64 hi, .int .i64 F] w fun e w' =>
      e = .returned (.tuple #[]) ∧ Bs w' g cap (siftDown ltInt hi F lo d) ∧ Only g w w' := by
  have HB := hidden hB
  clear hB
  go_enter Try.func122, Try.ntmps122
  go_wp2
  go_loopw [8, 9] (fun sr sc wr => ∃ (r : Nat) (dk : Array Int), sr = .int .i64 r ∧ r ≤ len ∧ dk.size = len ∧ Hid (siftDown ltInt hi F r dk = siftDown ltInt hi F lo d) ∧ Hid (Bs wr g cap dk) ∧ Only g w wr)
    (fun sr _ _ => 2 * len + 2 - (intOf sr).toNat)
  case atStart => exact ⟨lo, d, rfl, hlo, hlen, hidden rfl, HB, Only.refl _ _⟩
  case round =>
    obtain ⟨r, dk, rfl, hr, hdk, HR, HK, hO⟩ := hrel
    by_cases hc : 2 * (r : Int) + 1 ≥ (hi : Int)
    · go_wp2
      go_end0
      refine ⟨rfl, ?_, hO⟩
      have h := HR.out
      rw [sift_end (by omega)] at h
      rw [← h]; exact HK.out
    · obtain ⟨k, hk⟩ : ∃ k, 2 * r + 1 = k := ⟨_, rfl⟩
      have hk2 : 2 * (r : Int) + 1 = (k : Int) := by omega
      have HS : Hid (∀ c, (c = if k + 1 < hi ∧ ltInt dk[F + k]! dk[F + (k + 1)]! = true then k + 1 else k) → siftDown ltInt hi F r dk = if ltInt dk[F + r]! dk[F + c]! = true then siftDown ltInt hi F c (swp dk (F + r) (F + c)) else dk) := hidden (by
        subst hk
        exact fun c hc => sift_step (by omega) hc)
      obtain ⟨y0, hy0⟩ : ∃ y, Hid (dk[F + r]! = y) := ⟨_, hidden rfl⟩
      obtain ⟨y1, hy1⟩ : ∃ y, Hid (dk[F + k]! = y) := ⟨_, hidden rfl⟩
      obtain ⟨y2, hy2⟩ : ∃ y, Hid (dk[F + (k + 1)]! = y) := ⟨_, hidden rfl⟩
      have c0 := HK.out.cell (j := F + r) (by omega)
      have c1 := HK.out.cell (j := F + k) (by omega)
      rw [hy0.out] at c0
      rw [hy1.out] at c1
      have z1 : F + k + 1 < 4611686018427387904 := by omega
      have z2 : F + r < len := by omega
      have z3 : F + k < len := by omega
      by_cases h2 : (k : Int) + 1 < (hi : Int)
      · have c2 := HK.out.cell (j := F + (k + 1)) (by omega)
        rw [hy2.out] at c2
        have c3 := c2
        rw [← Nat.add_assoc] at c3
        go_wp2
        go_big_quiet ((go_at_call 119; first | exact quiet_l (less8_any _ _ _) | exact quiet_add_l (less8_any _ _ _)))
        cases hl0 : ltInt y1 y2
        · have HI := HS.out k (by rw [hy1.out, hy2.out, hl0]; simp)
          rw [hy0.out, hy1.out] at HI
          replace HI := hidden HI
          clear HS
          have HW := hidden (HK.out.swp (i := F + r) (j := F + k) (by omega) (by omega))
          rw [hy0.out, hy1.out] at HW
          have f0 := HK.out.free (F + r)
          have f1 := HK.out.free (F + k)
          go_wp2
          go_big_quiet ((go_at_call 119; first | exact quiet_l (less8_any _ _ _) | exact quiet_add_l (less8_any _ _ _)))
          cases hl : ltInt y0 y1
          · go_wp2
            (try simp only [Exit.inBlock, Exit.then])
            refine bodyPost_ret (results_none rfl _ _ _) rfl ?_
            refine ⟨rfl, ?_, by first | exact hO.drewN _ | exact (hO.drewN _).drewN _⟩
            replace HI := HI.out
            rw [hl] at HI
            rw [← HR.out, HI]
            exact HK.out
          · go_wp2
            go_region
            go_wp2
            go_roundw
            case measure => simp [intOf]; omega
            case rel =>
              refine ⟨k, swp dk (F + r) (F + k), by simp, by omega, by rw [size_swp]; exact hdk, hidden ?_, hidden HW.out, ?_⟩
              rotate_left
              · first | exact Only.store (Only.store (hO.drewN _) (.inl rfl) _) (.inl rfl) _ | exact Only.store (Only.store ((hO.drewN _).drewN _) (.inl rfl) _) (.inl rfl) _
              replace HI := HI.out
              rw [hl] at HI
              rw [← HR.out, HI]
              rfl
        · have HI := HS.out (k + 1) (by rw [hy1.out, hy2.out, hl0]; simp; omega)
          rw [hy0.out, hy2.out] at HI
          replace HI := hidden HI
          clear HS
          have HW := hidden (HK.out.swp (i := F + r) (j := F + (k + 1)) (by omega) (by omega))
          rw [hy0.out, hy2.out] at HW
          have f0 := HK.out.free (F + r)
          have f1 := HK.out.free (F + (k + 1))
          go_wp2
          go_big_quiet ((go_at_call 119; first | exact quiet_l (less8_any _ _ _) | exact quiet_add_l (less8_any _ _ _)))
          cases hl : ltInt y0 y2
          · go_wp2
            (try simp only [Exit.inBlock, Exit.then])
            refine bodyPost_ret (results_none rfl _ _ _) rfl ?_
            refine ⟨rfl, ?_, by first | exact hO.drewN _ | exact (hO.drewN _).drewN _⟩
            replace HI := HI.out
            rw [hl] at HI
            rw [← HR.out, HI]
            exact HK.out
          · go_wp2
            go_region
            go_wp2
            go_roundw
            case measure => simp [intOf]; omega
            case rel =>
              refine ⟨(k + 1), swp dk (F + r) (F + (k + 1)), by simp, by omega, by rw [size_swp]; exact hdk, hidden ?_, hidden HW.out, ?_⟩
              rotate_left
              · first | exact Only.store (Only.store (hO.drewN _) (.inl rfl) _) (.inl rfl) _ | exact Only.store (Only.store ((hO.drewN _).drewN _) (.inl rfl) _) (.inl rfl) _
              replace HI := HI.out
              rw [hl] at HI
              rw [← HR.out, HI]
              rfl
      · have h3 : decide ((k : Int) + 1 < (hi : Int)) = false := by simp; omega
        have HI := HS.out k (by rw [if_neg (fun h => by omega)])
        rw [hy0.out, hy1.out] at HI
        replace HI := hidden HI
        clear HS
        go_wp2
        go_big_quiet (fail)
        have HW := hidden (HK.out.swp (i := F + r) (j := F + k) (by omega) (by omega))
        rw [hy0.out, hy1.out] at HW
        have f0 := HK.out.free (F + r)
        have f1 := HK.out.free (F + k)
        go_wp2
        go_big_quiet ((go_at_call 119; first | exact quiet_l (less8_any _ _ _) | exact quiet_add_l (less8_any _ _ _)))
        cases hl : ltInt y0 y1
        · go_wp2
          (try simp only [Exit.inBlock, Exit.then])
          refine bodyPost_ret (results_none rfl _ _ _) rfl ?_
          refine ⟨rfl, ?_, by first | exact hO.drewN _ | exact (hO.drewN _).drewN _⟩
          replace HI := HI.out
          rw [hl] at HI
          rw [← HR.out, HI]
          exact HK.out
        · go_wp2
          go_region
          go_wp2
          go_roundw
          case measure => simp [intOf]; omega
          case rel =>
            refine ⟨k, swp dk (F + r) (F + k), by simp, by omega, by rw [size_swp]; exact hdk, hidden ?_, hidden HW.out, ?_⟩
            rotate_left
            · first | exact Only.store (Only.store (hO.drewN _) (.inl rfl) _) (.inl rfl) _ | exact Only.store (Only.store ((hO.drewN _).drewN _) (.inl rfl) _) (.inl rfl) _
            replace HI := HI.out
            rw [hl] at HI
            rw [← HR.out, HI]
            rfl
end Go.Proofs.Yteaohgipndmciaa
