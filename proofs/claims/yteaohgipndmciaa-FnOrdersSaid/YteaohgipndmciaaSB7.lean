/- The library's sort at bytes: partialInsertionSort. Written by gen22.py. -/
import Derived.Test.YteaohgipndmciaaSB6
namespace Go.Proofs.Yteaohgipndmciaa
set_option linter.unusedVariables false
set_option linter.unusedSimpArgs false
open Go.RowKit Go.Sort

theorem scanS_step {d : Array Int} {b k : Nat} (h : k + 1 < b) (hl : ltInt d[k + 1]! d[k]! = false) : scanSorted ltInt d b (k + 1) = scanSorted ltInt d b (k + 1 + 1) := by
  rw [scanSorted, if_pos (by simp [h, hl])]
theorem scanS_stop {d : Array Int} {b k : Nat} (hl : ltInt d[k + 1]! d[k]! = true) : scanSorted ltInt d b (k + 1) = k + 1 := by
  rw [scanSorted, if_neg (by simp [hl])]
theorem scanS_end {d : Array Int} {b i : Nat} (h : ¬ i < b) : scanSorted ltInt d b i = i := by
  rw [scanSorted, if_neg (by simp [h])]
theorem shiftU_step {d : Array Int} {b m : Nat} (h : m + 1 < b) (hl : ltInt d[m + 1]! d[m]! = true) : shiftUp ltInt b (m + 1) d = shiftUp ltInt b (m + 1 + 1) (swp d (m + 1) m) := by
  rw [shiftUp, if_pos h]; simp [hl]
theorem shiftU_stop {d : Array Int} {b m : Nat} (hl : ltInt d[m + 1]! d[m]! = false) : shiftUp ltInt b (m + 1) d = d := by
  rw [shiftUp]; simp [hl]
theorem shiftU_end {d : Array Int} {b j : Nat} (h : ¬ j < b) : shiftUp ltInt b j d = d := by
  rw [shiftUp, if_neg h]
theorem shiftD_step {d : Array Int} {m : Nat} (hl : ltInt d[m + 1]! d[m]! = true) : shiftDown ltInt (m + 1) d = shiftDown ltInt m (swp d (m + 1) m) := by
  rw [shiftDown, if_neg (by simp [hl])]
theorem shiftD_stop {d : Array Int} {m : Nat} (hl : ltInt d[m + 1]! d[m]! = false) : shiftDown ltInt (m + 1) d = d := by
  rw [shiftDown, if_pos (by simp [hl])]

set_option maxHeartbeats 16000000 in
set_option maxRecDepth 100000 in
theorem partial_any (d : Array Int) (len : Nat) (hlen : d.size = len) (g cap a b : Nat) (w : World) (hB : Bs w g cap d) (hab : a < b) (hb : b ≤ len) (hz : len ≤ 1048575) :
    Calls Try.prog 118 #[.slice (some ⟨g, 0, none⟩) len cap, .int .i64 a, .int .i64 b] w fun e w' =>
      e = .returned (.bool (partialInsertionSort ltInt d a b).2) ∧ Bs w' g cap (partialInsertionSort ltInt d a b).1 ∧ Only g w w' := by
  obtain ⟨R, hR⟩ : ∃ R, partialInsertionSort ltInt d a b = R := ⟨_, rfl⟩
  rw [hR]
  have HR0 : Hid (partialIns ltInt a b 5 (a + 1) d = R) := hidden hR
  have HB := hidden hB
  clear hB hR
  go_enter Try.func118, Try.ntmps118
  go_wp2
  go_loopw [7, 8, 9, 10] (fun si st _ _ wr => ∃ (i t : Nat) (dk : Array Int), si = .int .i64 i ∧ st = .int .i64 t ∧ a < i ∧ i ≤ b ∧ t ≤ 5 ∧ dk.size = len ∧ Hid (partialIns ltInt a b (5 - t) i dk = R) ∧ Hid (Bs wr g cap dk) ∧ Only g w wr)
    (fun _ st _ _ _ => 5 - (intOf st).toNat)
  case atStart => exact ⟨a + 1, 0, d, by simp, by simp, by omega, by omega, by omega, hlen, HR0, HB, Only.refl _ _⟩
  case round =>
    clear HR0 HB
    obtain ⟨i, t, dk, rfl, rfl, hai, hib, ht5, hdk, HR, HK, hO⟩ := hrel
    by_cases ht : (t : Int) < 5
    · obtain ⟨s, hs⟩ : ∃ s, 5 - t = s + 1 := ⟨4 - t, by omega⟩
      have HP : Hid (∀ i2, i2 = scanSorted ltInt dk b i → R = if i2 = b then (dk, true) else if b - a < 50 then (dk, false) else partialIns ltInt a b s i2 (fixUp ltInt b i2 (fixDown ltInt a i2 (swp dk i2 (i2 - 1))))) := hidden (by
        intro i2 h
        subst h
        rw [← HR.out, hs]
        rfl)
      go_wp2
      go_loopw [7] (fun si wr => ∃ i2 : Nat, si = .int .i64 i2 ∧ i ≤ i2 ∧ i2 ≤ b ∧ Hid (scanSorted ltInt dk b i2 = scanSorted ltInt dk b i) ∧ Hid (Bs wr g cap dk) ∧ Only g w wr)
        (fun si _ => b + 1 - (intOf si).toNat)
      case atStart => exact ⟨i, rfl, Nat.le_refl _, hib, hidden rfl, HK, hO⟩
      case round =>
        clear HK hO
        obtain ⟨i2, rfl, hii, hi2b, HU, HK, hO⟩ := hrel
        by_cases hg : (i2 : Int) < (b : Int)
        · obtain ⟨k, rfl⟩ : ∃ k, i2 = k + 1 := ⟨i2 - 1, by omega⟩
          have hg4 : (k : Int) + 1 < (b : Int) := by omega
          have c1 := HK.out.cell (j := k + 1) (by omega)
          have c2 := HK.out.cell (j := k) (by omega)
          obtain ⟨x1, hx1⟩ : ∃ x, Hid (dk[k + 1]! = x) := ⟨_, hidden rfl⟩
          obtain ⟨x2, hx2⟩ : ∃ x, Hid (dk[k]! = x) := ⟨_, hidden rfl⟩
          rw [hx1.out] at c1
          rw [hx2.out] at c2
          go_wp2
          go_big_quiet ((go_at_call 119; first | exact quiet_l (less8_any _ _ _) | exact quiet_add_l (less8_any _ _ _)))
          cases hl : ltInt x1 x2
          · have HL : Hid (ltInt dk[k + 1]! dk[k]! = false) := hidden (by rw [hx1.out, hx2.out]; exact hl)
            go_wp2
            go_roundw
            case measure => simp [intOf] <;> omega
            case rel => exact ⟨k + 1 + 1, by simp, by omega, by omega, hidden (by rw [← HU.out]; exact (scanS_step (by omega) HL.out).symm), hidden (by first | exact HK.out | exact HK.out.drewN _), (by first | exact hO | exact hO.drewN _ | exact (hO.drewN _).drewN _)⟩
          · have HL : Hid (ltInt dk[k + 1]! dk[k]! = true) := hidden (by rw [hx1.out, hx2.out]; exact hl)
            clear c1 c2
            have HI : Hid (k + 1 = scanSorted ltInt dk b i) := hidden (by rw [← HU.out]; exact (scanS_stop HL.out).symm)
            by_cases h50 : (b : Int) - (a : Int) < 50
            · have e : R = (dk, false) := by rw [HP.out (k + 1) HI.out, if_neg (by omega), if_pos (by omega)]
              subst e
              go_wp2
              go_ret
              exact ⟨rfl, (by first | exact HK.out | exact HK.out.drewN _), (by first | exact hO | exact hO.drewN _ | exact (hO.drewN _).drewN _)⟩
            · have HPd : Hid (R = partialIns ltInt a b s (k + 1) (fixUp ltInt b (k + 1) (fixDown ltInt a (k + 1) (swp dk (k + 1) k)))) := hidden (by rw [HP.out (k + 1) HI.out, if_neg (by omega), if_neg (by omega)]; rfl)
              have ci := (HK.out).cell (j := k + 1) (by omega)
              have cj := (HK.out).cell (j := k) (by omega)
              have fi := (HK.out).free (k + 1)
              have fj := (HK.out).free (k)
              obtain ⟨x, hx⟩ : ∃ x, Hid (dk[k + 1]! = x) := ⟨_, hidden rfl⟩
              obtain ⟨y, hy⟩ : ∃ x, Hid (dk[k]! = x) := ⟨_, hidden rfl⟩
              have HW := hidden (swap_world (HK.out.drewN nq) (a := k + 1) (p := k) (by omega) (by omega) hx.out hy.out)
              rw [hx.out] at ci
              rw [hy.out] at cj
              obtain ⟨v', hv'⟩ := cell?_setCell_some (p := ⟨g, k + 1, none⟩) (x := .int .u8 y) cj
              have cw := ((HK.out.drewN nq)).cell (j := k) (by omega)
              rw [hy.out] at cw
              obtain ⟨v2, hv2⟩ := cell?_setCell_some (p := ⟨g, k + 1, none⟩) (x := .int .u8 y) cw
              clear cw
              go_wp2
              go_region
              obtain ⟨HK0, hO0⟩ := HW.out
              replace HK0 := hidden HK0
              replace hO0 := (hO.drewN nq).trans hO0
              replace hdk : (swp dk (k + 1) k).size = len := by rw [size_swp]; exact hdk
              generalize swp dk (k + 1) k = d1 at HK0 HPd hdk
              clear ci cj fi fj hv' hv2 HW hx hy HK hO HI HL hx1 hx2 HP HU
              clear HR
              obtain ⟨dk, rfl⟩ : ∃ z, z = d1 := ⟨_, rfl⟩
              have HK := HK0
              have hO := hO0
              clear HK0 hO0
              by_cases h2 : (k : Int) + 1 - (a : Int) ≥ 2
              · have HV : Hid (R = partialIns ltInt a b s (k + 1) (fixUp ltInt b (k + 1) (shiftDown ltInt k dk))) := hidden (by rw [HPd.out, fixDown, if_pos (by omega)]; rfl)
                clear HPd
                go_wp2
                go_loopw [9] (fun sj wr => ∃ (j : Nat) (du : Array Int), sj = .int .i64 j ∧ j ≤ k ∧ du.size = len ∧ Hid (R = partialIns ltInt a b s (k + 1) (fixUp ltInt b (k + 1) (shiftDown ltInt j du))) ∧ Hid (Bs wr g cap du) ∧ Only g w wr)
                  (fun sj _ => (intOf sj).toNat)
                case atStart => exact ⟨k, dk, by simp, Nat.le_refl _, hdk, HV, hidden (by first | exact HK.out | exact HK.out.drewN _), (by first | exact hO | exact hO.drewN _ | exact (hO.drewN _).drewN _)⟩
                case round =>
                  clear HK hO HV
                  clear hdk
                  obtain ⟨j, dk, rfl, hjk, hdk, HV, HK, hO⟩ := hrel
                  by_cases hj : (j : Int) ≥ 1
                  · obtain ⟨m, rfl⟩ : ∃ m, j = m + 1 := ⟨j - 1, by omega⟩
                    have c1 := HK.out.cell (j := m + 1) (by omega)
                    have c2 := HK.out.cell (j := m) (by omega)
                    obtain ⟨x1, hx1⟩ : ∃ x, Hid (dk[m + 1]! = x) := ⟨_, hidden rfl⟩
                    obtain ⟨x2, hx2⟩ : ∃ x, Hid (dk[m]! = x) := ⟨_, hidden rfl⟩
                    rw [hx1.out] at c1
                    rw [hx2.out] at c2
                    go_wp2
                    go_big_quiet ((go_at_call 119; first | exact quiet_l (less8_any _ _ _) | exact quiet_add_l (less8_any _ _ _)))
                    cases hl : ltInt x1 x2
                    · have HL : Hid (ltInt dk[m + 1]! dk[m]! = false) := hidden (by rw [hx1.out, hx2.out]; exact hl)
                      clear c1 c2
                      have HPc : Hid (R = partialIns ltInt a b s (k + 1) (fixUp ltInt b (k + 1) dk)) := hidden (by rw [HV.out, shiftD_stop HL.out])
                      clear HV
                      by_cases h3 : (b : Int) - ((k : Int) + 1) ≥ 2
                      · have HV : Hid (R = partialIns ltInt a b s (k + 1) (shiftUp ltInt b (k + 1 + 1) dk)) := hidden (by rw [HPc.out, fixUp, if_pos (by omega)])
                        clear HPc
                        go_wp2
                        go_loopw [10] (fun sj wr => ∃ (j : Nat) (du : Array Int), sj = .int .i64 j ∧ k + 2 ≤ j ∧ j ≤ b ∧ du.size = len ∧ Hid (R = partialIns ltInt a b s (k + 1) (shiftUp ltInt b j du)) ∧ Hid (Bs wr g cap du) ∧ Only g w wr)
                          (fun sj _ => b + 1 - (intOf sj).toNat)
                        case atStart => exact ⟨k + 1 + 1, dk, by simp, by omega, by omega, hdk, HV, hidden (by first | exact HK.out | exact HK.out.drewN _), (by first | exact hO | exact hO.drewN _ | exact (hO.drewN _).drewN _)⟩
                        case round =>
                          clear HK hO
                          obtain ⟨j, du, rfl, hkj, hjb, hdu, HU, HK, hO⟩ := hrel
                          have HVV := HU
                          clear HV HU
                          clear hdk
                          obtain ⟨dk, rfl⟩ : ∃ z, z = du := ⟨_, rfl⟩
                          have hdk := hdu
                          clear hdu
                          by_cases hj : (j : Int) < (b : Int)
                          · obtain ⟨m, rfl⟩ : ∃ m, j = m + 1 := ⟨j - 1, by omega⟩
                            have c1 := HK.out.cell (j := m + 1) (by omega)
                            have c2 := HK.out.cell (j := m) (by omega)
                            obtain ⟨x1, hx1⟩ : ∃ x, Hid (dk[m + 1]! = x) := ⟨_, hidden rfl⟩
                            obtain ⟨x2, hx2⟩ : ∃ x, Hid (dk[m]! = x) := ⟨_, hidden rfl⟩
                            rw [hx1.out] at c1
                            rw [hx2.out] at c2
                            go_wp2
                            go_big_quiet ((go_at_call 119; first | exact quiet_l (less8_any _ _ _) | exact quiet_add_l (less8_any _ _ _)))
                            cases hl : ltInt x1 x2
                            · have HL : Hid (ltInt dk[m + 1]! dk[m]! = false) := hidden (by rw [hx1.out, hx2.out]; exact hl)
                              have HPu : Hid (R = partialIns ltInt a b s (k + 1) dk) := hidden (by rw [HVV.out, shiftU_stop HL.out])
                              clear c1 c2
                              go_wp2
                              go_roundw
                              case measure => simp [intOf] <;> omega
                              case rel => exact ⟨k + 1, t + 1, dk, by simp, by simp, by omega, by omega, by omega, hdk, hidden (by rw [HPu.out, show 5 - (t + 1) = s by omega]), hidden (by first | exact HK.out | exact HK.out.drewN _), (by first | exact hO | exact hO.drewN _ | exact (hO.drewN _).drewN _)⟩
                            · have HL : Hid (ltInt dk[m + 1]! dk[m]! = true) := hidden (by rw [hx1.out, hx2.out]; exact hl)
                              clear c1 c2
                              have ci := (HK.out).cell (j := m + 1) (by omega)
                              have cj := (HK.out).cell (j := m) (by omega)
                              have fi := (HK.out).free (m + 1)
                              have fj := (HK.out).free (m)
                              obtain ⟨x, hx⟩ : ∃ x, Hid (dk[m + 1]! = x) := ⟨_, hidden rfl⟩
                              obtain ⟨y, hy⟩ : ∃ x, Hid (dk[m]! = x) := ⟨_, hidden rfl⟩
                              have HW := hidden (swap_world (HK.out.drewN nq) (a := m + 1) (p := m) (by omega) (by omega) hx.out hy.out)
                              rw [hx.out] at ci
                              rw [hy.out] at cj
                              obtain ⟨v', hv'⟩ := cell?_setCell_some (p := ⟨g, m + 1, none⟩) (x := .int .u8 y) cj
                              have cw := ((HK.out.drewN nq)).cell (j := m) (by omega)
                              rw [hy.out] at cw
                              obtain ⟨v2, hv2⟩ := cell?_setCell_some (p := ⟨g, m + 1, none⟩) (x := .int .u8 y) cw
                              clear cw
                              go_wp2
                              go_region
                              have HV2 : Hid (R = partialIns ltInt a b s (k + 1) (shiftUp ltInt b (m + 1 + 1) (swp dk (m + 1) m))) := hidden (by rw [HVV.out, shiftU_step (by omega) HL.out])
                              go_wp2
                              go_roundw
                              case measure => simp [intOf] <;> omega
                              case rel => exact ⟨m + 1 + 1, swp dk (m + 1) m, by simp, by omega, by omega, by rw [size_swp]; exact hdk, HV2, hidden HW.out.1, (hO.drewN nq).trans HW.out.2⟩
                          · have HPu : Hid (R = partialIns ltInt a b s (k + 1) dk) := hidden (by rw [HVV.out, shiftU_end (by omega)])
                            go_wp2
                            go_roundw
                            case measure => simp [intOf] <;> omega
                            case rel => exact ⟨k + 1, t + 1, dk, by simp, by simp, by omega, by omega, by omega, hdk, hidden (by rw [HPu.out, show 5 - (t + 1) = s by omega]), hidden (by first | exact HK.out | exact HK.out.drewN _), (by first | exact hO | exact hO.drewN _ | exact (hO.drewN _).drewN _)⟩
                      · have HPu : Hid (R = partialIns ltInt a b s (k + 1) dk) := hidden (by rw [HPc.out, fixUp, if_neg (by omega)])
                        clear HPc
                        go_wp2
                        go_roundw
                        case measure => simp [intOf] <;> omega
                        case rel => exact ⟨k + 1, t + 1, dk, by simp, by simp, by omega, by omega, by omega, hdk, hidden (by rw [HPu.out, show 5 - (t + 1) = s by omega]), hidden (by first | exact HK.out | exact HK.out.drewN _), (by first | exact hO | exact hO.drewN _ | exact (hO.drewN _).drewN _)⟩
                    · have HL : Hid (ltInt dk[m + 1]! dk[m]! = true) := hidden (by rw [hx1.out, hx2.out]; exact hl)
                      clear c1 c2
                      have ci := (HK.out).cell (j := m + 1) (by omega)
                      have cj := (HK.out).cell (j := m) (by omega)
                      have fi := (HK.out).free (m + 1)
                      have fj := (HK.out).free (m)
                      obtain ⟨x, hx⟩ : ∃ x, Hid (dk[m + 1]! = x) := ⟨_, hidden rfl⟩
                      obtain ⟨y, hy⟩ : ∃ x, Hid (dk[m]! = x) := ⟨_, hidden rfl⟩
                      have HW := hidden (swap_world (HK.out.drewN nq) (a := m + 1) (p := m) (by omega) (by omega) hx.out hy.out)
                      rw [hx.out] at ci
                      rw [hy.out] at cj
                      obtain ⟨v', hv'⟩ := cell?_setCell_some (p := ⟨g, m + 1, none⟩) (x := .int .u8 y) cj
                      have cw := ((HK.out.drewN nq)).cell (j := m) (by omega)
                      rw [hy.out] at cw
                      obtain ⟨v2, hv2⟩ := cell?_setCell_some (p := ⟨g, m + 1, none⟩) (x := .int .u8 y) cw
                      clear cw
                      go_wp2
                      go_region
                      go_wp2
                      go_roundw
                      case measure => simp [intOf] <;> omega
                      case rel => exact ⟨m, swp dk (m + 1) m, by simp, by omega, by rw [size_swp]; exact hdk, hidden (by rw [HV.out, shiftD_step HL.out]), hidden HW.out.1, (hO.drewN nq).trans HW.out.2⟩
                  · obtain rfl : j = 0 := by omega
                    have HPc : Hid (R = partialIns ltInt a b s (k + 1) (fixUp ltInt b (k + 1) dk)) := hidden HV.out
                    clear HV
                    by_cases h3 : (b : Int) - ((k : Int) + 1) ≥ 2
                    · have HV : Hid (R = partialIns ltInt a b s (k + 1) (shiftUp ltInt b (k + 1 + 1) dk)) := hidden (by rw [HPc.out, fixUp, if_pos (by omega)])
                      clear HPc
                      go_wp2
                      go_loopw [10] (fun sj wr => ∃ (j : Nat) (du : Array Int), sj = .int .i64 j ∧ k + 2 ≤ j ∧ j ≤ b ∧ du.size = len ∧ Hid (R = partialIns ltInt a b s (k + 1) (shiftUp ltInt b j du)) ∧ Hid (Bs wr g cap du) ∧ Only g w wr)
                        (fun sj _ => b + 1 - (intOf sj).toNat)
                      case atStart => exact ⟨k + 1 + 1, dk, by simp, by omega, by omega, hdk, HV, hidden (by first | exact HK.out | exact HK.out.drewN _), (by first | exact hO | exact hO.drewN _ | exact (hO.drewN _).drewN _)⟩
                      case round =>
                        clear HK hO
                        obtain ⟨j, du, rfl, hkj, hjb, hdu, HU, HK, hO⟩ := hrel
                        have HVV := HU
                        clear HV HU
                        clear hdk
                        obtain ⟨dk, rfl⟩ : ∃ z, z = du := ⟨_, rfl⟩
                        have hdk := hdu
                        clear hdu
                        by_cases hj : (j : Int) < (b : Int)
                        · obtain ⟨m, rfl⟩ : ∃ m, j = m + 1 := ⟨j - 1, by omega⟩
                          have c1 := HK.out.cell (j := m + 1) (by omega)
                          have c2 := HK.out.cell (j := m) (by omega)
                          obtain ⟨x1, hx1⟩ : ∃ x, Hid (dk[m + 1]! = x) := ⟨_, hidden rfl⟩
                          obtain ⟨x2, hx2⟩ : ∃ x, Hid (dk[m]! = x) := ⟨_, hidden rfl⟩
                          rw [hx1.out] at c1
                          rw [hx2.out] at c2
                          go_wp2
                          go_big_quiet ((go_at_call 119; first | exact quiet_l (less8_any _ _ _) | exact quiet_add_l (less8_any _ _ _)))
                          cases hl : ltInt x1 x2
                          · have HL : Hid (ltInt dk[m + 1]! dk[m]! = false) := hidden (by rw [hx1.out, hx2.out]; exact hl)
                            have HPu : Hid (R = partialIns ltInt a b s (k + 1) dk) := hidden (by rw [HVV.out, shiftU_stop HL.out])
                            clear c1 c2
                            go_wp2
                            go_roundw
                            case measure => simp [intOf] <;> omega
                            case rel => exact ⟨k + 1, t + 1, dk, by simp, by simp, by omega, by omega, by omega, hdk, hidden (by rw [HPu.out, show 5 - (t + 1) = s by omega]), hidden (by first | exact HK.out | exact HK.out.drewN _), (by first | exact hO | exact hO.drewN _ | exact (hO.drewN _).drewN _)⟩
                          · have HL : Hid (ltInt dk[m + 1]! dk[m]! = true) := hidden (by rw [hx1.out, hx2.out]; exact hl)
                            clear c1 c2
                            have ci := (HK.out).cell (j := m + 1) (by omega)
                            have cj := (HK.out).cell (j := m) (by omega)
                            have fi := (HK.out).free (m + 1)
                            have fj := (HK.out).free (m)
                            obtain ⟨x, hx⟩ : ∃ x, Hid (dk[m + 1]! = x) := ⟨_, hidden rfl⟩
                            obtain ⟨y, hy⟩ : ∃ x, Hid (dk[m]! = x) := ⟨_, hidden rfl⟩
                            have HW := hidden (swap_world (HK.out.drewN nq) (a := m + 1) (p := m) (by omega) (by omega) hx.out hy.out)
                            rw [hx.out] at ci
                            rw [hy.out] at cj
                            obtain ⟨v', hv'⟩ := cell?_setCell_some (p := ⟨g, m + 1, none⟩) (x := .int .u8 y) cj
                            have cw := ((HK.out.drewN nq)).cell (j := m) (by omega)
                            rw [hy.out] at cw
                            obtain ⟨v2, hv2⟩ := cell?_setCell_some (p := ⟨g, m + 1, none⟩) (x := .int .u8 y) cw
                            clear cw
                            go_wp2
                            go_region
                            have HV2 : Hid (R = partialIns ltInt a b s (k + 1) (shiftUp ltInt b (m + 1 + 1) (swp dk (m + 1) m))) := hidden (by rw [HVV.out, shiftU_step (by omega) HL.out])
                            go_wp2
                            go_roundw
                            case measure => simp [intOf] <;> omega
                            case rel => exact ⟨m + 1 + 1, swp dk (m + 1) m, by simp, by omega, by omega, by rw [size_swp]; exact hdk, HV2, hidden HW.out.1, (hO.drewN nq).trans HW.out.2⟩
                        · have HPu : Hid (R = partialIns ltInt a b s (k + 1) dk) := hidden (by rw [HVV.out, shiftU_end (by omega)])
                          go_wp2
                          go_roundw
                          case measure => simp [intOf] <;> omega
                          case rel => exact ⟨k + 1, t + 1, dk, by simp, by simp, by omega, by omega, by omega, hdk, hidden (by rw [HPu.out, show 5 - (t + 1) = s by omega]), hidden (by first | exact HK.out | exact HK.out.drewN _), (by first | exact hO | exact hO.drewN _ | exact (hO.drewN _).drewN _)⟩
                    · have HPu : Hid (R = partialIns ltInt a b s (k + 1) dk) := hidden (by rw [HPc.out, fixUp, if_neg (by omega)])
                      clear HPc
                      go_wp2
                      go_roundw
                      case measure => simp [intOf] <;> omega
                      case rel => exact ⟨k + 1, t + 1, dk, by simp, by simp, by omega, by omega, by omega, hdk, hidden (by rw [HPu.out, show 5 - (t + 1) = s by omega]), hidden (by first | exact HK.out | exact HK.out.drewN _), (by first | exact hO | exact hO.drewN _ | exact (hO.drewN _).drewN _)⟩
              · have HPc : Hid (R = partialIns ltInt a b s (k + 1) (fixUp ltInt b (k + 1) dk)) := hidden (by rw [HPd.out, fixDown, if_neg (by omega)])
                clear HPd
                by_cases h3 : (b : Int) - ((k : Int) + 1) ≥ 2
                · have HV : Hid (R = partialIns ltInt a b s (k + 1) (shiftUp ltInt b (k + 1 + 1) dk)) := hidden (by rw [HPc.out, fixUp, if_pos (by omega)])
                  clear HPc
                  go_wp2
                  go_loopw [10] (fun sj wr => ∃ (j : Nat) (du : Array Int), sj = .int .i64 j ∧ k + 2 ≤ j ∧ j ≤ b ∧ du.size = len ∧ Hid (R = partialIns ltInt a b s (k + 1) (shiftUp ltInt b j du)) ∧ Hid (Bs wr g cap du) ∧ Only g w wr)
                    (fun sj _ => b + 1 - (intOf sj).toNat)
                  case atStart => exact ⟨k + 1 + 1, dk, by simp, by omega, by omega, hdk, HV, hidden (by first | exact HK.out | exact HK.out.drewN _), (by first | exact hO | exact hO.drewN _ | exact (hO.drewN _).drewN _)⟩
                  case round =>
                    clear HK hO
                    obtain ⟨j, du, rfl, hkj, hjb, hdu, HU, HK, hO⟩ := hrel
                    have HVV := HU
                    clear HV HU
                    clear hdk
                    obtain ⟨dk, rfl⟩ : ∃ z, z = du := ⟨_, rfl⟩
                    have hdk := hdu
                    clear hdu
                    by_cases hj : (j : Int) < (b : Int)
                    · obtain ⟨m, rfl⟩ : ∃ m, j = m + 1 := ⟨j - 1, by omega⟩
                      have c1 := HK.out.cell (j := m + 1) (by omega)
                      have c2 := HK.out.cell (j := m) (by omega)
                      obtain ⟨x1, hx1⟩ : ∃ x, Hid (dk[m + 1]! = x) := ⟨_, hidden rfl⟩
                      obtain ⟨x2, hx2⟩ : ∃ x, Hid (dk[m]! = x) := ⟨_, hidden rfl⟩
                      rw [hx1.out] at c1
                      rw [hx2.out] at c2
                      go_wp2
                      go_big_quiet ((go_at_call 119; first | exact quiet_l (less8_any _ _ _) | exact quiet_add_l (less8_any _ _ _)))
                      cases hl : ltInt x1 x2
                      · have HL : Hid (ltInt dk[m + 1]! dk[m]! = false) := hidden (by rw [hx1.out, hx2.out]; exact hl)
                        have HPu : Hid (R = partialIns ltInt a b s (k + 1) dk) := hidden (by rw [HVV.out, shiftU_stop HL.out])
                        clear c1 c2
                        go_wp2
                        go_roundw
                        case measure => simp [intOf] <;> omega
                        case rel => exact ⟨k + 1, t + 1, dk, by simp, by simp, by omega, by omega, by omega, hdk, hidden (by rw [HPu.out, show 5 - (t + 1) = s by omega]), hidden (by first | exact HK.out | exact HK.out.drewN _), (by first | exact hO | exact hO.drewN _ | exact (hO.drewN _).drewN _)⟩
                      · have HL : Hid (ltInt dk[m + 1]! dk[m]! = true) := hidden (by rw [hx1.out, hx2.out]; exact hl)
                        clear c1 c2
                        have ci := (HK.out).cell (j := m + 1) (by omega)
                        have cj := (HK.out).cell (j := m) (by omega)
                        have fi := (HK.out).free (m + 1)
                        have fj := (HK.out).free (m)
                        obtain ⟨x, hx⟩ : ∃ x, Hid (dk[m + 1]! = x) := ⟨_, hidden rfl⟩
                        obtain ⟨y, hy⟩ : ∃ x, Hid (dk[m]! = x) := ⟨_, hidden rfl⟩
                        have HW := hidden (swap_world (HK.out.drewN nq) (a := m + 1) (p := m) (by omega) (by omega) hx.out hy.out)
                        rw [hx.out] at ci
                        rw [hy.out] at cj
                        obtain ⟨v', hv'⟩ := cell?_setCell_some (p := ⟨g, m + 1, none⟩) (x := .int .u8 y) cj
                        have cw := ((HK.out.drewN nq)).cell (j := m) (by omega)
                        rw [hy.out] at cw
                        obtain ⟨v2, hv2⟩ := cell?_setCell_some (p := ⟨g, m + 1, none⟩) (x := .int .u8 y) cw
                        clear cw
                        go_wp2
                        go_region
                        have HV2 : Hid (R = partialIns ltInt a b s (k + 1) (shiftUp ltInt b (m + 1 + 1) (swp dk (m + 1) m))) := hidden (by rw [HVV.out, shiftU_step (by omega) HL.out])
                        go_wp2
                        go_roundw
                        case measure => simp [intOf] <;> omega
                        case rel => exact ⟨m + 1 + 1, swp dk (m + 1) m, by simp, by omega, by omega, by rw [size_swp]; exact hdk, HV2, hidden HW.out.1, (hO.drewN nq).trans HW.out.2⟩
                    · have HPu : Hid (R = partialIns ltInt a b s (k + 1) dk) := hidden (by rw [HVV.out, shiftU_end (by omega)])
                      go_wp2
                      go_roundw
                      case measure => simp [intOf] <;> omega
                      case rel => exact ⟨k + 1, t + 1, dk, by simp, by simp, by omega, by omega, by omega, hdk, hidden (by rw [HPu.out, show 5 - (t + 1) = s by omega]), hidden (by first | exact HK.out | exact HK.out.drewN _), (by first | exact hO | exact hO.drewN _ | exact (hO.drewN _).drewN _)⟩
                · have HPu : Hid (R = partialIns ltInt a b s (k + 1) dk) := hidden (by rw [HPc.out, fixUp, if_neg (by omega)])
                  clear HPc
                  go_wp2
                  go_roundw
                  case measure => simp [intOf] <;> omega
                  case rel => exact ⟨k + 1, t + 1, dk, by simp, by simp, by omega, by omega, by omega, hdk, hidden (by rw [HPu.out, show 5 - (t + 1) = s by omega]), hidden (by first | exact HK.out | exact HK.out.drewN _), (by first | exact hO | exact hO.drewN _ | exact (hO.drewN _).drewN _)⟩
        · have hg2 : decide ((i2 : Int) < (b : Int)) = false := by simp; omega
          have hg3 : decide (i2 < b) = false := by simp; omega
          have hib2 : i2 = b := by omega
          have e : R = (dk, true) := by rw [HP.out i2 (by rw [← HU.out]; exact (scanS_end (by omega)).symm), if_pos hib2]
          subst e
          go_wp2
          go_big_quiet (fail)
          go_wp2
          go_ret
          exact ⟨rfl, (by first | exact HK.out | exact HK.out.drewN _), (by first | exact hO | exact hO.drewN _ | exact (hO.drewN _).drewN _)⟩
    · obtain rfl : t = 5 := by omega
      have e : R = (dk, false) := HR.out.symm
      subst e
      go_wp2
      go_ret
      exact ⟨rfl, HK.out, hO⟩
end Go.Proofs.Yteaohgipndmciaa
