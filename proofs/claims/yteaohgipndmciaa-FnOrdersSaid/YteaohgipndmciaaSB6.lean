/- The library's sort at bytes: partitionEqual, partition. Written by gen21.py. -/
import Derived.Test.YteaohgipndmciaaSB1
namespace Go.Proofs.Yteaohgipndmciaa
set_option linter.unusedVariables false
set_option linter.unusedSimpArgs false
open Go.RowKit Go.Sort

theorem size_partEqLoop (a : Nat) : ∀ (n i j : Nat) (d : Array Int), j + 1 - i ≤ n → (partEqLoop ltInt a i j d).2.size = d.size := by
  intro n
  induction n with
  | zero =>
    intro i j d h
    rw [partEqLoop_eq]
    split
    · rfl
    · rename_i h2
      have := partEqLoop_guard ltInt a i j d h2
      omega
  | succ n ih =>
    intro i j d h
    rw [partEqLoop_eq]
    split
    · rfl
    · rename_i h2
      have := partEqLoop_guard ltInt a i j d h2
      rw [ih _ _ _ (by omega), size_swp]
theorem eq_break {a i j i2 j2 : Nat} {d : Array Int} {xa : Int} (hx : d[a]! = xa) (hI : i2 = scanUp (fun x => !ltInt xa x) d j i) (hJ : j2 = scanDown (fun x => ltInt xa x) d i2 j) (h : j2 < i2) : partEqLoop ltInt a i j d = (i2, d) := by
  subst hx; subst hJ; subst hI
  rw [partEqLoop_eq, if_pos h]
theorem eq_go {a i j i2 j2 : Nat} {d : Array Int} {xa : Int} (hx : d[a]! = xa) (hI : i2 = scanUp (fun x => !ltInt xa x) d j i) (hJ : j2 = scanDown (fun x => ltInt xa x) d i2 j) (h : ¬ i2 > j2) : partEqLoop ltInt a i j d = partEqLoop ltInt a (i2 + 1) (j2 - 1) (swp d i2 j2) := by
  subst hx; subst hJ; subst hI
  rw [partEqLoop_eq, if_neg h]
theorem pt_break {a i j i2 j2 : Nat} {d : Array Int} {xa : Int} (hx : d[a]! = xa) (hI : i2 = scanUp (fun x => ltInt x xa) d j i) (hJ : j2 = scanDown (fun x => !ltInt x xa) d i2 j) (h : j2 < i2) : partLoop ltInt a i j d = (j2, d) := by
  subst hx; subst hJ; subst hI
  rw [partLoop_eq, if_pos h]
theorem pt_go {a i j i2 j2 : Nat} {d : Array Int} {xa : Int} (hx : d[a]! = xa) (hI : i2 = scanUp (fun x => ltInt x xa) d j i) (hJ : j2 = scanDown (fun x => !ltInt x xa) d i2 j) (h : ¬ i2 > j2) : partLoop ltInt a i j d = partLoop ltInt a (i2 + 1) (j2 - 1) (swp d i2 j2) := by
  subst hx; subst hJ; subst hI
  rw [partLoop_eq, if_neg h]
theorem pt_first_break {a i j i2 j2 pv : Nat} {d0 d : Array Int} {xa : Int} (hd : d = swp d0 a pv) (hx : d[a]! = xa) (hi : a + 1 = i) (hI : i2 = scanUp (fun x => ltInt x xa) d j i) (hJ : j2 = scanDown (fun x => !ltInt x xa) d i2 j) (h : j2 < i2) :
    partition ltInt d0 a (j + 1) pv = (j2, true, swp d j2 a) := by
  subst hd; subst hx; subst hi; subst hJ; subst hI
  unfold partition
  simp only [Nat.add_sub_cancel]
  rw [if_pos h]
theorem pt_first_go {a i j i2 j2 pv : Nat} {d0 d : Array Int} {xa : Int} (hd : d = swp d0 a pv) (hx : d[a]! = xa) (hi : a + 1 = i) (hI : i2 = scanUp (fun x => ltInt x xa) d j i) (hJ : j2 = scanDown (fun x => !ltInt x xa) d i2 j) (h : ¬ i2 > j2) :
    partition ltInt d0 a (j + 1) pv = ((partLoop ltInt a (i2 + 1) (j2 - 1) (swp d i2 j2)).1, false, swp (partLoop ltInt a (i2 + 1) (j2 - 1) (swp d i2 j2)).2 (partLoop ltInt a (i2 + 1) (j2 - 1) (swp d i2 j2)).1 a) := by
  subst hd; subst hx; subst hi; subst hJ; subst hI
  unfold partition
  simp only [Nat.add_sub_cancel]
  rw [if_neg h]
theorem up_step {p : Int → Bool} {d : Array Int} {j i : Nat} (h : i ≤ j) (hp : p d[i]! = true) : scanUp p d j i = scanUp p d j (i + 1) := by rw [scanUp, if_pos (by simp [h, hp])]
theorem up_stop {p : Int → Bool} {d : Array Int} {j i : Nat} (h : j < i ∨ p d[i]! = false) : scanUp p d j i = i := by
  rw [scanUp, if_neg]
  rcases h with h | h
  · simp; omega
  · simp [h]
theorem down_step {p : Int → Bool} {d : Array Int} {j i : Nat} (h : i ≤ j + 1) (hp : p d[j + 1]! = true) : scanDown p d i (j + 1) = scanDown p d i j := by rw [scanDown, if_pos (by simp [h, hp])]
theorem down_stop {p : Int → Bool} {d : Array Int} {j i : Nat} (h0 : 0 < i) (h : j < i ∨ p d[j]! = false) : scanDown p d i j = j := by
  cases j with
  | zero => rfl
  | succ j =>
    rw [scanDown, if_neg]
    rcases h with h | h
    · simp; omega
    · simp [h]
theorem swap_world {w : World} {g cap a p : Nat} {d : Array Int} (hB : Bs w g cap d) (ha : a < d.size) (hp : p < d.size) {x y : Int} (hx : d[a]! = x) (hy : d[p]! = y) :
    Bs ((w.setCell ⟨g, a, none⟩ (.int .u8 y)).setCell ⟨g, p, none⟩ (.int .u8 x)).drew g cap (swp d a p) ∧ Only g w ((w.setCell ⟨g, a, none⟩ (.int .u8 y)).setCell ⟨g, p, none⟩ (.int .u8 x)).drew := by
  subst hx; subst hy
  exact ⟨(hB.swp ha hp).drew, (((Only.refl g w).store (.inl rfl) _).store (.inl rfl) _).drew⟩
theorem only_trans_drew {g : Nat} {a b : World} (h : Only g a b) (n : Nat) : Only g a (b.drewN n) := h.drewN n

set_option maxHeartbeats 16000000 in
set_option maxRecDepth 100000 in
theorem partEq_any (d : Array Int) (len : Nat) (hlen : d.size = len) (g cap a b pv : Nat) (w : World) (hB : Bs w g cap d) (hap : a ≤ pv) (hpb : pv < b) (hb : b ≤ len) (hz : len ≤ 1048575) :
    Calls Try.prog 120 #[.slice (some ⟨g, 0, none⟩) len cap, .int .i64 a, .int .i64 b, .int .i64 pv] w fun e w' =>
      e = .returned (.int .i64 (partitionEqual ltInt d a b pv).1) ∧ Bs w' g cap (partitionEqual ltInt d a b pv).2 ∧ Only g w w' := by
  obtain ⟨j0, rfl⟩ : ∃ j0, b = j0 + 1 := ⟨b - 1, by omega⟩
  obtain ⟨R, hR⟩ : ∃ R, partitionEqual ltInt d a (j0 + 1) pv = R := ⟨_, rfl⟩
  rw [hR]
  obtain ⟨dk, hdk0⟩ : ∃ dk, dk = d := ⟨_, rfl⟩
  have hdk : dk.size = len := by rw [hdk0]; exact hlen
  have HK := hidden hB
  rw [← hdk0] at HK
  have HR : Hid (partEqLoop ltInt a (a + 1) j0 (swp dk a pv) = R) := hidden (by rw [← hR, hdk0]; rfl)
  clear hB hdk0 hR hlen
  have ci := (HK.out).cell (j := a) (by omega)
  have cj := (HK.out).cell (j := pv) (by omega)
  have fi := (HK.out).free (a)
  have fj := (HK.out).free (pv)
  obtain ⟨x, hx⟩ : ∃ x, Hid (dk[a]! = x) := ⟨_, hidden rfl⟩
  obtain ⟨y, hy⟩ : ∃ x, Hid (dk[pv]! = x) := ⟨_, hidden rfl⟩
  have HW := hidden (swap_world HK.out (a := a) (p := pv) (by omega) (by omega) hx.out hy.out)
  rw [hx.out] at ci
  rw [hy.out] at cj
  obtain ⟨v', hv'⟩ := cell?_setCell_some (p := ⟨g, a, none⟩) (x := .int .u8 y) cj
  have cw := (HK.out).cell (j := pv) (by omega)
  rw [hy.out] at cw
  obtain ⟨v2, hv2⟩ := cell?_setCell_some (p := ⟨g, a, none⟩) (x := .int .u8 y) cw
  clear cw
  go_enter Try.func120, Try.ntmps120
  go_wp2
  go_region
  obtain ⟨HK0, hO⟩ := HW.out
  replace HK0 := hidden HK0
  generalize ((w.setCell ⟨g, a, none⟩ (.int .u8 y)).setCell ⟨g, pv, none⟩ (.int .u8 x)).drew = w1 at HK0 hO ⊢
  clear ci cj fi fj hv' hv2 HW hx hy v' v2 HK
  replace hdk : (swp dk a pv).size = len := by rw [size_swp]; exact hdk
  generalize swp dk a pv = d0 at HK0 HR hdk
  go_wp2
  go_loopw [9, 10] (fun si sj wr => ∃ (i j : Nat) (dk : Array Int), si = .int .i64 i ∧ sj = .int .i64 j ∧ a < i ∧ i ≤ j + 1 ∧ j ≤ j0 ∧ dk.size = len ∧ Hid (partEqLoop ltInt a i j dk = R) ∧ Hid (Bs wr g cap dk) ∧ Only g w wr)
    (fun si sj _ => (intOf sj).toNat + 1 - (intOf si).toNat)
  case atStart => exact ⟨a + 1, j0, d0, by simp, by simp, by omega, by omega, Nat.le_refl _, hdk, HR, HK0, hO⟩
  case round =>
    clear HR HK0 hO hdk
    obtain ⟨i, j, dk, rfl, rfl, hai, hij, hjj, hdk, HR, HK, hO⟩ := hrel
    obtain ⟨xa, hxa⟩ : ∃ x, Hid (dk[a]! = x) := ⟨_, hidden rfl⟩
    go_wp2_with (fail)
    go_loopw [9] (fun sp wr2 => ∃ i2 : Nat, sp = .int .i64 i2 ∧ i ≤ i2 ∧ i2 ≤ j + 1 ∧ Hid (scanUp (fun x => !ltInt xa x) dk j i2 = scanUp (fun x => !ltInt xa x) dk j i) ∧ Hid (Bs wr2 g cap dk) ∧ Only g w wr2)
      (fun sp _ => j + 2 - (intOf sp).toNat)
    case atStart => exact ⟨i, rfl, Nat.le_refl _, by omega, hidden rfl, HK, hO⟩
    case round =>
      clear HK hO
      obtain ⟨i2, rfl, hii, hij2, HU, HK2, hO2⟩ := hrel
      by_cases hg : (i2 : Int) ≤ (j : Int)
      · have c0 := HK2.out.cell (j := a) (by omega)
        have c2 := HK2.out.cell (j := i2) (by omega)
        rw [hxa.out] at c0
        obtain ⟨xi, hxi⟩ : ∃ x, Hid (dk[i2]! = x) := ⟨_, hidden rfl⟩
        rw [hxi.out] at c2
        go_wp2
        go_big_quiet ((go_at_call 119; first | exact quiet_l (less8_any _ _ _) | exact quiet_add_l (less8_any _ _ _)))
        cases hl : ltInt xa xi
        · have HU2 : Hid (scanUp (fun x => !ltInt xa x) dk j (i2 + 1) = scanUp (fun x => !ltInt xa x) dk j i) := hidden (by rw [← HU.out]; exact (up_step (by omega) (by rw [hxi.out]; simp [hl])).symm)
          go_wp2
          go_roundw
          case measure => simp [intOf] <;> omega
          case rel => exact ⟨i2 + 1, by simp, by omega, by omega, HU2, hidden (HK2.out.drewN _), hO2.drewN _⟩
        · have HF : Hid (i2 ≤ j → ltInt xa dk[i2]! = true) := hidden (fun _ => by rw [hxi.out]; exact hl)
          clear c2
          go_wp2
          have HI : Hid (i2 = scanUp (fun x => !ltInt xa x) dk j i) := hidden (by rw [← HU.out]; exact (up_stop (.inr (by rw [hxi.out]; simp [hl]))).symm)
          go_loopw [10] (fun sq wr3 => ∃ j2 : Nat, sq = .int .i64 j2 ∧ i2 ≤ j2 + 1 ∧ j2 ≤ j ∧ Hid (scanDown (fun x => ltInt xa x) dk i2 j2 = scanDown (fun x => ltInt xa x) dk i2 j) ∧ Hid (Bs wr3 g cap dk) ∧ Only g w wr3)
            (fun sq _ => (intOf sq).toNat)
          case atStart => exact ⟨j, rfl, by omega, Nat.le_refl _, hidden rfl, hidden (HK2.out.drewN _), hO2.drewN _⟩
          case round =>
            clear HK2 hO2
            obtain ⟨j2, rfl, hij2, hjj2, HD, HK, hO⟩ := hrel
            by_cases hg : (i2 : Int) ≤ (j2 : Int)
            · have c0 := HK.out.cell (j := a) (by omega)
              have c2 := HK.out.cell (j := j2) (by omega)
              rw [hxa.out] at c0
              obtain ⟨xj, hxj⟩ : ∃ x, Hid (dk[j2]! = x) := ⟨_, hidden rfl⟩
              rw [hxj.out] at c2
              go_wp2
              go_big_quiet ((go_at_call 119; first | exact quiet_l (less8_any _ _ _) | exact quiet_add_l (less8_any _ _ _)))
              cases hl : ltInt xa xj
              · have HJ : Hid (j2 = scanDown (fun x => ltInt xa x) dk i2 j) := hidden (by rw [← HD.out]; exact (down_stop (by omega) (.inr (by rw [hxj.out]; simp [hl]))).symm)
                have hlt : i2 < j2 := by
                  rcases Nat.lt_or_ge i2 j2 with h | h
                  · exact h
                  · have he : i2 = j2 := by omega
                    subst he
                    have h1 := HF.out (by omega)
                    rw [hxj.out, hl] at h1
                    cases h1
                clear c2
                have ci := (HK.out).cell (j := i2) (by omega)
                have cj := (HK.out).cell (j := j2) (by omega)
                have fi := (HK.out).free (i2)
                have fj := (HK.out).free (j2)
                obtain ⟨x, hx⟩ : ∃ x, Hid (dk[i2]! = x) := ⟨_, hidden rfl⟩
                obtain ⟨y, hy⟩ : ∃ x, Hid (dk[j2]! = x) := ⟨_, hidden rfl⟩
                have HW := hidden (swap_world (HK.out.drewN nq) (a := i2) (p := j2) (by omega) (by omega) hx.out hy.out)
                rw [hx.out] at ci
                rw [hy.out] at cj
                obtain ⟨v', hv'⟩ := cell?_setCell_some (p := ⟨g, i2, none⟩) (x := .int .u8 y) cj
                have cw := ((HK.out.drewN nq)).cell (j := j2) (by omega)
                rw [hy.out] at cw
                obtain ⟨v2, hv2⟩ := cell?_setCell_some (p := ⟨g, i2, none⟩) (x := .int .u8 y) cw
                clear cw
                go_wp2
                go_region
                go_wp2
                go_roundw
                case measure => simp [intOf] <;> omega
                case rel => exact ⟨i2 + 1, j2 - 1, swp dk i2 j2, by simp, by go_num, by omega, by omega, by omega, by rw [size_swp]; exact hdk, hidden (by rw [← HR.out]; exact (eq_go hxa.out HI.out HJ.out (by omega)).symm), hidden HW.out.1, (hO.drewN nq).trans HW.out.2⟩
              · obtain ⟨j2, rfl⟩ : ∃ k, j2 = k + 1 := ⟨j2 - 1, by omega⟩
                have HD2 : Hid (scanDown (fun x => ltInt xa x) dk i2 j2 = scanDown (fun x => ltInt xa x) dk i2 j) := hidden (by rw [← HD.out]; exact (down_step (by omega) (by rw [hxj.out]; simp [hl])).symm)
                go_wp2
                go_roundw
                case measure => simp [intOf] <;> omega
                case rel => exact ⟨j2, by simp, by omega, by omega, HD2, hidden (HK.out.drewN _), hO.drewN _⟩
            · have hg2 : decide ((i2 : Int) ≤ (j2 : Int)) = false := by simp; omega
              have hg3 : decide (i2 ≤ j2) = false := by simp; omega
              have HJ : Hid (j2 = scanDown (fun x => ltInt xa x) dk i2 j) := hidden (by rw [← HD.out]; exact (down_stop (by omega) (.inl (by omega))).symm)
              go_wp2
              go_big_quiet (fail)
              go_wp2
              have e : R = (i2, dk) := by rw [← HR.out]; exact eq_break hxa.out HI.out HJ.out (by omega)
              subst e
              go_ret
              exact ⟨rfl, HK.out.drewN _, hO.drewN _⟩
      · have hg2 : decide ((i2 : Int) ≤ (j : Int)) = false := by simp; omega
        have hg3 : decide (i2 ≤ j) = false := by simp; omega
        have HF : Hid (i2 ≤ j → ltInt xa dk[i2]! = true) := hidden (fun h => by omega)
        go_wp2
        go_big_quiet (fail)
        go_wp2
        have HI : Hid (i2 = scanUp (fun x => !ltInt xa x) dk j i) := hidden (by rw [← HU.out]; exact (up_stop (.inl (by omega))).symm)
        go_loopw [10] (fun sq wr3 => ∃ j2 : Nat, sq = .int .i64 j2 ∧ i2 ≤ j2 + 1 ∧ j2 ≤ j ∧ Hid (scanDown (fun x => ltInt xa x) dk i2 j2 = scanDown (fun x => ltInt xa x) dk i2 j) ∧ Hid (Bs wr3 g cap dk) ∧ Only g w wr3)
          (fun sq _ => (intOf sq).toNat)
        case atStart => exact ⟨j, rfl, by omega, Nat.le_refl _, hidden rfl, hidden (HK2.out.drewN _), hO2.drewN _⟩
        case round =>
          clear HK2 hO2
          obtain ⟨j2, rfl, hij2, hjj2, HD, HK, hO⟩ := hrel
          by_cases hg : (i2 : Int) ≤ (j2 : Int)
          · exfalso; omega
          · have hg2 : decide ((i2 : Int) ≤ (j2 : Int)) = false := by simp; omega
            have hg3 : decide (i2 ≤ j2) = false := by simp; omega
            have HJ : Hid (j2 = scanDown (fun x => ltInt xa x) dk i2 j) := hidden (by rw [← HD.out]; exact (down_stop (by omega) (.inl (by omega))).symm)
            go_wp2
            go_big_quiet (fail)
            go_wp2
            have e : R = (i2, dk) := by rw [← HR.out]; exact eq_break hxa.out HI.out HJ.out (by omega)
            subst e
            go_ret
            exact ⟨rfl, HK.out.drewN _, hO.drewN _⟩
set_option maxHeartbeats 16000000 in
set_option maxRecDepth 100000 in
theorem part_any (d : Array Int) (len : Nat) (hlen : d.size = len) (g cap a b pv : Nat) (w : World) (hB : Bs w g cap d) (hap : a ≤ pv) (hpb : pv < b) (hb : b ≤ len) (hz : len ≤ 1048575) :
    Calls Try.prog 121 #[.slice (some ⟨g, 0, none⟩) len cap, .int .i64 a, .int .i64 b, .int .i64 pv] w fun e w' =>
      e = .returned (.tuple #[.int .i64 (partition ltInt d a b pv).1, .bool (partition ltInt d a b pv).2.1]) ∧ Bs w' g cap (partition ltInt d a b pv).2.2 ∧ Only g w w' := by
  obtain ⟨j, rfl⟩ : ∃ j0, b = j0 + 1 := ⟨b - 1, by omega⟩
  obtain ⟨R, hR⟩ : ∃ R, partition ltInt d a (j + 1) pv = R := ⟨_, rfl⟩
  rw [hR]
  replace hR := hidden hR
  obtain ⟨dk, hdk0⟩ : ∃ dk, dk = d := ⟨_, rfl⟩
  have hdk : dk.size = len := by rw [hdk0]; exact hlen
  have HK := hidden hB
  rw [← hdk0] at HK
  have HS0 : Hid (swp dk a pv = swp d a pv) := hidden (by rw [hdk0])
  clear hB hdk0 hlen
  have ci := (HK.out).cell (j := a) (by omega)
  have cj := (HK.out).cell (j := pv) (by omega)
  have fi := (HK.out).free (a)
  have fj := (HK.out).free (pv)
  obtain ⟨x, hx⟩ : ∃ x, Hid (dk[a]! = x) := ⟨_, hidden rfl⟩
  obtain ⟨y, hy⟩ : ∃ x, Hid (dk[pv]! = x) := ⟨_, hidden rfl⟩
  have HW := hidden (swap_world HK.out (a := a) (p := pv) (by omega) (by omega) hx.out hy.out)
  rw [hx.out] at ci
  rw [hy.out] at cj
  obtain ⟨v', hv'⟩ := cell?_setCell_some (p := ⟨g, a, none⟩) (x := .int .u8 y) cj
  have cw := (HK.out).cell (j := pv) (by omega)
  rw [hy.out] at cw
  obtain ⟨v2, hv2⟩ := cell?_setCell_some (p := ⟨g, a, none⟩) (x := .int .u8 y) cw
  clear cw
  obtain ⟨i, hi⟩ : ∃ i, a + 1 = i := ⟨_, rfl⟩
  have hi2 : (a : Int) + 1 = (i : Int) := by omega
  go_enter Try.func121, Try.ntmps121
  go_wp2
  go_region
  obtain ⟨HK0, hO⟩ := HW.out
  replace HK0 := hidden HK0
  generalize ((w.setCell ⟨g, a, none⟩ (.int .u8 y)).setCell ⟨g, pv, none⟩ (.int .u8 x)).drew = w1 at HK0 hO ⊢
  clear ci cj fi fj hv' hv2 HW hx hy v' v2 HK
  replace hdk : (swp dk a pv).size = len := by rw [size_swp]; exact hdk
  generalize swp dk a pv = d0 at HK0 HS0 hdk
  clear dk
  obtain ⟨dk, rfl⟩ : ∃ z, z = d0 := ⟨_, rfl⟩
  have HK := HK0
  clear HK0
  obtain ⟨xa, hxa⟩ : ∃ x, Hid (dk[a]! = x) := ⟨_, hidden rfl⟩
  have hai : a < i := by omega
  go_wp2
  go_loopw [10] (fun sp wr2 => ∃ i2 : Nat, sp = .int .i64 i2 ∧ i ≤ i2 ∧ i2 ≤ j + 1 ∧ Hid (scanUp (fun x => ltInt x xa) dk j i2 = scanUp (fun x => ltInt x xa) dk j i) ∧ Hid (Bs wr2 g cap dk) ∧ Only g w wr2)
    (fun sp _ => j + 2 - (intOf sp).toNat)
  case atStart => exact ⟨i, rfl, Nat.le_refl _, by omega, hidden rfl, HK, hO⟩
  case round =>
    clear HK hO
    obtain ⟨i2, rfl, hii, hij2, HU, HK2, hO2⟩ := hrel
    by_cases hg : (i2 : Int) ≤ (j : Int)
    · have c0 := HK2.out.cell (j := a) (by omega)
      have c2 := HK2.out.cell (j := i2) (by omega)
      rw [hxa.out] at c0
      obtain ⟨xi, hxi⟩ : ∃ x, Hid (dk[i2]! = x) := ⟨_, hidden rfl⟩
      rw [hxi.out] at c2
      go_wp2
      go_big_quiet ((go_at_call 119; first | exact quiet_l (less8_any _ _ _) | exact quiet_add_l (less8_any _ _ _)))
      cases hl : ltInt xi xa
      · have HF : Hid (i2 ≤ j → ltInt dk[i2]! xa = false) := hidden (fun _ => by rw [hxi.out]; exact hl)
        clear c2
        go_wp2
        have HI : Hid (i2 = scanUp (fun x => ltInt x xa) dk j i) := hidden (by rw [← HU.out]; exact (up_stop (.inr (by rw [hxi.out]; simp [hl]))).symm)
        go_loopw [11] (fun sq wr3 => ∃ j2 : Nat, sq = .int .i64 j2 ∧ i2 ≤ j2 + 1 ∧ j2 ≤ j ∧ Hid (scanDown (fun x => !ltInt x xa) dk i2 j2 = scanDown (fun x => !ltInt x xa) dk i2 j) ∧ Hid (Bs wr3 g cap dk) ∧ Only g w wr3)
          (fun sq _ => (intOf sq).toNat)
        case atStart => exact ⟨j, rfl, by omega, Nat.le_refl _, hidden rfl, hidden (HK2.out.drewN _), hO2.drewN _⟩
        case round =>
          clear HK2 hO2
          obtain ⟨j2, rfl, hij2, hjj2, HD, HK, hO⟩ := hrel
          by_cases hg : (i2 : Int) ≤ (j2 : Int)
          · have c0 := HK.out.cell (j := a) (by omega)
            have c2 := HK.out.cell (j := j2) (by omega)
            rw [hxa.out] at c0
            obtain ⟨xj, hxj⟩ : ∃ x, Hid (dk[j2]! = x) := ⟨_, hidden rfl⟩
            rw [hxj.out] at c2
            go_wp2
            go_big_quiet ((go_at_call 119; first | exact quiet_l (less8_any _ _ _) | exact quiet_add_l (less8_any _ _ _)))
            cases hl : ltInt xj xa
            · obtain ⟨j2, rfl⟩ : ∃ k, j2 = k + 1 := ⟨j2 - 1, by omega⟩
              have HD2 : Hid (scanDown (fun x => !ltInt x xa) dk i2 j2 = scanDown (fun x => !ltInt x xa) dk i2 j) := hidden (by rw [← HD.out]; exact (down_step (by omega) (by rw [hxj.out]; simp [hl])).symm)
              go_wp2
              go_roundw
              case measure => simp [intOf] <;> omega
              case rel => exact ⟨j2, by simp, by omega, by omega, HD2, hidden (HK.out.drewN _), hO.drewN _⟩
            · have HJ : Hid (j2 = scanDown (fun x => !ltInt x xa) dk i2 j) := hidden (by rw [← HD.out]; exact (down_stop (by omega) (.inr (by rw [hxj.out]; simp [hl]))).symm)
              have hlt : i2 < j2 := by
                rcases Nat.lt_or_ge i2 j2 with h | h
                · exact h
                · have he : i2 = j2 := by omega
                  subst he
                  have h1 := HF.out (by omega)
                  rw [hxj.out, hl] at h1
                  cases h1
              clear c2
              have ci := (HK.out).cell (j := i2) (by omega)
              have cj := (HK.out).cell (j := j2) (by omega)
              have fi := (HK.out).free (i2)
              have fj := (HK.out).free (j2)
              obtain ⟨x, hx⟩ : ∃ x, Hid (dk[i2]! = x) := ⟨_, hidden rfl⟩
              obtain ⟨y, hy⟩ : ∃ x, Hid (dk[j2]! = x) := ⟨_, hidden rfl⟩
              have HW := hidden (swap_world (HK.out.drewN nq) (a := i2) (p := j2) (by omega) (by omega) hx.out hy.out)
              rw [hx.out] at ci
              rw [hy.out] at cj
              obtain ⟨v', hv'⟩ := cell?_setCell_some (p := ⟨g, i2, none⟩) (x := .int .u8 y) cj
              have cw := ((HK.out.drewN nq)).cell (j := j2) (by omega)
              rw [hy.out] at cw
              obtain ⟨v2, hv2⟩ := cell?_setCell_some (p := ⟨g, i2, none⟩) (x := .int .u8 y) cw
              clear cw
              obtain ⟨RL, hRL⟩ : ∃ RL, partLoop ltInt a (i2 + 1) (j2 - 1) (swp dk i2 j2) = RL := ⟨_, rfl⟩
              have HRR : Hid (R = (RL.1, false, swp RL.2 RL.1 a)) := hidden (by rw [← hRL, ← hR.out]; exact pt_first_go HS0.out hxa.out hi HI.out HJ.out (by omega))
              replace hRL := hidden hRL
              go_wp2
              go_region
              obtain ⟨HK0, hO0⟩ := HW.out
              replace HK0 := hidden HK0
              replace hO0 := (hO.drewN nq).trans hO0
              replace hdk : (swp dk i2 j2).size = len := by rw [size_swp]; exact hdk
              generalize swp dk i2 j2 = d1 at HK0 hRL hdk
              clear ci cj fi fj hv' hv2 HW hx hy HK hO HI HJ HF HD HU HS0
              go_wp2
              go_loopw [10, 11] (fun si sj wr => ∃ (i j : Nat) (dk : Array Int), si = .int .i64 i ∧ sj = .int .i64 j ∧ a < i ∧ i ≤ j + 1 ∧ j + 1 ≤ len ∧ dk.size = len ∧ Hid (partLoop ltInt a i j dk = RL) ∧ Hid (Bs wr g cap dk) ∧ Only g w wr)
                (fun si sj _ => (intOf sj).toNat + 1 - (intOf si).toNat)
              case atStart => exact ⟨i2 + 1, j2 - 1, d1, by simp, by go_num, by omega, by omega, by omega, hdk, hRL, hidden HK0.out, hO0⟩
              case round =>
                clear hRL HK0 hO0 hdk
                obtain ⟨i, j, dk, rfl, rfl, hai, hij, hjj, hdk, HRL, HK, hO⟩ := hrel
                obtain ⟨xa, hxa⟩ : ∃ x, Hid (dk[a]! = x) := ⟨_, hidden rfl⟩
                go_wp2_with (fail)
                go_loopw [10] (fun sp wr2 => ∃ i2 : Nat, sp = .int .i64 i2 ∧ i ≤ i2 ∧ i2 ≤ j + 1 ∧ Hid (scanUp (fun x => ltInt x xa) dk j i2 = scanUp (fun x => ltInt x xa) dk j i) ∧ Hid (Bs wr2 g cap dk) ∧ Only g w wr2)
                  (fun sp _ => j + 2 - (intOf sp).toNat)
                case atStart => exact ⟨i, rfl, Nat.le_refl _, by omega, hidden rfl, HK, hO⟩
                case round =>
                  clear HK hO
                  obtain ⟨i2, rfl, hii, hij2, HU, HK2, hO2⟩ := hrel
                  by_cases hg : (i2 : Int) ≤ (j : Int)
                  · have c0 := HK2.out.cell (j := a) (by omega)
                    have c2 := HK2.out.cell (j := i2) (by omega)
                    rw [hxa.out] at c0
                    obtain ⟨xi, hxi⟩ : ∃ x, Hid (dk[i2]! = x) := ⟨_, hidden rfl⟩
                    rw [hxi.out] at c2
                    go_wp2
                    go_big_quiet ((go_at_call 119; first | exact quiet_l (less8_any _ _ _) | exact quiet_add_l (less8_any _ _ _)))
                    cases hl : ltInt xi xa
                    · have HF : Hid (i2 ≤ j → ltInt dk[i2]! xa = false) := hidden (fun _ => by rw [hxi.out]; exact hl)
                      clear c2
                      go_wp2
                      have HI : Hid (i2 = scanUp (fun x => ltInt x xa) dk j i) := hidden (by rw [← HU.out]; exact (up_stop (.inr (by rw [hxi.out]; simp [hl]))).symm)
                      go_loopw [11] (fun sq wr3 => ∃ j2 : Nat, sq = .int .i64 j2 ∧ i2 ≤ j2 + 1 ∧ j2 ≤ j ∧ Hid (scanDown (fun x => !ltInt x xa) dk i2 j2 = scanDown (fun x => !ltInt x xa) dk i2 j) ∧ Hid (Bs wr3 g cap dk) ∧ Only g w wr3)
                        (fun sq _ => (intOf sq).toNat)
                      case atStart => exact ⟨j, rfl, by omega, Nat.le_refl _, hidden rfl, hidden (HK2.out.drewN _), hO2.drewN _⟩
                      case round =>
                        clear HK2 hO2
                        obtain ⟨j2, rfl, hij2, hjj2, HD, HK, hO⟩ := hrel
                        by_cases hg : (i2 : Int) ≤ (j2 : Int)
                        · have c0 := HK.out.cell (j := a) (by omega)
                          have c2 := HK.out.cell (j := j2) (by omega)
                          rw [hxa.out] at c0
                          obtain ⟨xj, hxj⟩ : ∃ x, Hid (dk[j2]! = x) := ⟨_, hidden rfl⟩
                          rw [hxj.out] at c2
                          go_wp2
                          go_big_quiet ((go_at_call 119; first | exact quiet_l (less8_any _ _ _) | exact quiet_add_l (less8_any _ _ _)))
                          cases hl : ltInt xj xa
                          · obtain ⟨j2, rfl⟩ : ∃ k, j2 = k + 1 := ⟨j2 - 1, by omega⟩
                            have HD2 : Hid (scanDown (fun x => !ltInt x xa) dk i2 j2 = scanDown (fun x => !ltInt x xa) dk i2 j) := hidden (by rw [← HD.out]; exact (down_step (by omega) (by rw [hxj.out]; simp [hl])).symm)
                            go_wp2
                            go_roundw
                            case measure => simp [intOf] <;> omega
                            case rel => exact ⟨j2, by simp, by omega, by omega, HD2, hidden (HK.out.drewN _), hO.drewN _⟩
                          · have HJ : Hid (j2 = scanDown (fun x => !ltInt x xa) dk i2 j) := hidden (by rw [← HD.out]; exact (down_stop (by omega) (.inr (by rw [hxj.out]; simp [hl]))).symm)
                            have hlt : i2 < j2 := by
                              rcases Nat.lt_or_ge i2 j2 with h | h
                              · exact h
                              · have he : i2 = j2 := by omega
                                subst he
                                have h1 := HF.out (by omega)
                                rw [hxj.out, hl] at h1
                                cases h1
                            clear c2
                            have ci := (HK.out).cell (j := i2) (by omega)
                            have cj := (HK.out).cell (j := j2) (by omega)
                            have fi := (HK.out).free (i2)
                            have fj := (HK.out).free (j2)
                            obtain ⟨x, hx⟩ : ∃ x, Hid (dk[i2]! = x) := ⟨_, hidden rfl⟩
                            obtain ⟨y, hy⟩ : ∃ x, Hid (dk[j2]! = x) := ⟨_, hidden rfl⟩
                            have HW := hidden (swap_world (HK.out.drewN nq) (a := i2) (p := j2) (by omega) (by omega) hx.out hy.out)
                            rw [hx.out] at ci
                            rw [hy.out] at cj
                            obtain ⟨v', hv'⟩ := cell?_setCell_some (p := ⟨g, i2, none⟩) (x := .int .u8 y) cj
                            have cw := ((HK.out.drewN nq)).cell (j := j2) (by omega)
                            rw [hy.out] at cw
                            obtain ⟨v2, hv2⟩ := cell?_setCell_some (p := ⟨g, i2, none⟩) (x := .int .u8 y) cw
                            clear cw
                            go_wp2
                            go_region
                            go_wp2
                            go_roundw
                            case measure => simp [intOf] <;> omega
                            case rel => exact ⟨i2 + 1, j2 - 1, swp dk i2 j2, by simp, by go_num, by omega, by omega, by omega, by rw [size_swp]; exact hdk, hidden (by rw [← HRL.out]; exact (pt_go hxa.out HI.out HJ.out (by omega)).symm), hidden HW.out.1, (hO.drewN nq).trans HW.out.2⟩
                        · have hg2 : decide ((i2 : Int) ≤ (j2 : Int)) = false := by simp; omega
                          have hg3 : decide (i2 ≤ j2) = false := by simp; omega
                          have HJ : Hid (j2 = scanDown (fun x => !ltInt x xa) dk i2 j) := hidden (by rw [← HD.out]; exact (down_stop (by omega) (.inl (by omega))).symm)
                          go_wp2
                          go_big_quiet (fail)
                          go_wp2
                          have e : RL = (j2, dk) := by rw [← HRL.out]; exact pt_break hxa.out HI.out HJ.out (by omega)
                          have e2 : R = (j2, false, swp dk j2 a) := by rw [HRR.out, e]
                          subst e2
                          by_cases hja : a = j2
                          · subst hja
                            have ci := (HK.out).cell (j := a) (by omega)
                            have cj := (HK.out).cell (j := a) (by omega)
                            have fi := (HK.out).free (a)
                            have fj := (HK.out).free (a)
                            obtain ⟨x, hx⟩ : ∃ x, Hid (dk[a]! = x) := ⟨_, hidden rfl⟩
                            obtain ⟨y, hy⟩ : ∃ x, Hid (dk[a]! = x) := ⟨_, hidden rfl⟩
                            have HW := hidden (swap_world (HK.out.drewN nq) (a := a) (p := a) (by omega) (by omega) hx.out hy.out)
                            rw [hx.out] at ci
                            rw [hy.out] at cj
                            obtain ⟨v', hv'⟩ := cell?_setCell_some (p := ⟨g, a, none⟩) (x := .int .u8 y) cj
                            have cw := ((HK.out.drewN nq)).cell (j := a) (by omega)
                            rw [hy.out] at cw
                            obtain ⟨v2, hv2⟩ := cell?_setCell_some (p := ⟨g, a, none⟩) (x := .int .u8 y) cw
                            clear cw
                            have hxy : y = x := by rw [← hy.out, ← hx.out]
                            subst hxy
                            clear hv' hv2
                            go_region
                            go_wp2
                            go_ret2
                            exact ⟨rfl, HW.out.1, (hO.drewN nq).trans HW.out.2⟩
                          · have hja2 : a < j2 := by omega
                            have ci := (HK.out).cell (j := j2) (by omega)
                            have cj := (HK.out).cell (j := a) (by omega)
                            have fi := (HK.out).free (j2)
                            have fj := (HK.out).free (a)
                            obtain ⟨x, hx⟩ : ∃ x, Hid (dk[j2]! = x) := ⟨_, hidden rfl⟩
                            obtain ⟨y, hy⟩ : ∃ x, Hid (dk[a]! = x) := ⟨_, hidden rfl⟩
                            have HW := hidden (swap_world (HK.out.drewN nq) (a := j2) (p := a) (by omega) (by omega) hx.out hy.out)
                            rw [hx.out] at ci
                            rw [hy.out] at cj
                            obtain ⟨v', hv'⟩ := cell?_setCell_some (p := ⟨g, j2, none⟩) (x := .int .u8 y) cj
                            have cw := ((HK.out.drewN nq)).cell (j := a) (by omega)
                            rw [hy.out] at cw
                            obtain ⟨v2, hv2⟩ := cell?_setCell_some (p := ⟨g, j2, none⟩) (x := .int .u8 y) cw
                            clear cw
                            go_region
                            go_wp2
                            go_ret2
                            exact ⟨rfl, HW.out.1, (hO.drewN nq).trans HW.out.2⟩
                    · have HU2 : Hid (scanUp (fun x => ltInt x xa) dk j (i2 + 1) = scanUp (fun x => ltInt x xa) dk j i) := hidden (by rw [← HU.out]; exact (up_step (by omega) (by rw [hxi.out]; simp [hl])).symm)
                      go_wp2
                      go_roundw
                      case measure => simp [intOf] <;> omega
                      case rel => exact ⟨i2 + 1, by simp, by omega, by omega, HU2, hidden (HK2.out.drewN _), hO2.drewN _⟩
                  · have hg2 : decide ((i2 : Int) ≤ (j : Int)) = false := by simp; omega
                    have hg3 : decide (i2 ≤ j) = false := by simp; omega
                    have HF : Hid (i2 ≤ j → ltInt dk[i2]! xa = false) := hidden (fun h => by omega)
                    go_wp2
                    go_big_quiet (fail)
                    go_wp2
                    have HI : Hid (i2 = scanUp (fun x => ltInt x xa) dk j i) := hidden (by rw [← HU.out]; exact (up_stop (.inl (by omega))).symm)
                    go_loopw [11] (fun sq wr3 => ∃ j2 : Nat, sq = .int .i64 j2 ∧ i2 ≤ j2 + 1 ∧ j2 ≤ j ∧ Hid (scanDown (fun x => !ltInt x xa) dk i2 j2 = scanDown (fun x => !ltInt x xa) dk i2 j) ∧ Hid (Bs wr3 g cap dk) ∧ Only g w wr3)
                      (fun sq _ => (intOf sq).toNat)
                    case atStart => exact ⟨j, rfl, by omega, Nat.le_refl _, hidden rfl, hidden (HK2.out.drewN _), hO2.drewN _⟩
                    case round =>
                      clear HK2 hO2
                      obtain ⟨j2, rfl, hij2, hjj2, HD, HK, hO⟩ := hrel
                      by_cases hg : (i2 : Int) ≤ (j2 : Int)
                      · exfalso; omega
                      · have hg2 : decide ((i2 : Int) ≤ (j2 : Int)) = false := by simp; omega
                        have hg3 : decide (i2 ≤ j2) = false := by simp; omega
                        have HJ : Hid (j2 = scanDown (fun x => !ltInt x xa) dk i2 j) := hidden (by rw [← HD.out]; exact (down_stop (by omega) (.inl (by omega))).symm)
                        go_wp2
                        go_big_quiet (fail)
                        go_wp2
                        have e : RL = (j2, dk) := by rw [← HRL.out]; exact pt_break hxa.out HI.out HJ.out (by omega)
                        have e2 : R = (j2, false, swp dk j2 a) := by rw [HRR.out, e]
                        subst e2
                        by_cases hja : a = j2
                        · subst hja
                          have ci := (HK.out).cell (j := a) (by omega)
                          have cj := (HK.out).cell (j := a) (by omega)
                          have fi := (HK.out).free (a)
                          have fj := (HK.out).free (a)
                          obtain ⟨x, hx⟩ : ∃ x, Hid (dk[a]! = x) := ⟨_, hidden rfl⟩
                          obtain ⟨y, hy⟩ : ∃ x, Hid (dk[a]! = x) := ⟨_, hidden rfl⟩
                          have HW := hidden (swap_world (HK.out.drewN nq) (a := a) (p := a) (by omega) (by omega) hx.out hy.out)
                          rw [hx.out] at ci
                          rw [hy.out] at cj
                          obtain ⟨v', hv'⟩ := cell?_setCell_some (p := ⟨g, a, none⟩) (x := .int .u8 y) cj
                          have cw := ((HK.out.drewN nq)).cell (j := a) (by omega)
                          rw [hy.out] at cw
                          obtain ⟨v2, hv2⟩ := cell?_setCell_some (p := ⟨g, a, none⟩) (x := .int .u8 y) cw
                          clear cw
                          have hxy : y = x := by rw [← hy.out, ← hx.out]
                          subst hxy
                          clear hv' hv2
                          go_region
                          go_wp2
                          go_ret2
                          exact ⟨rfl, HW.out.1, (hO.drewN nq).trans HW.out.2⟩
                        · have hja2 : a < j2 := by omega
                          have ci := (HK.out).cell (j := j2) (by omega)
                          have cj := (HK.out).cell (j := a) (by omega)
                          have fi := (HK.out).free (j2)
                          have fj := (HK.out).free (a)
                          obtain ⟨x, hx⟩ : ∃ x, Hid (dk[j2]! = x) := ⟨_, hidden rfl⟩
                          obtain ⟨y, hy⟩ : ∃ x, Hid (dk[a]! = x) := ⟨_, hidden rfl⟩
                          have HW := hidden (swap_world (HK.out.drewN nq) (a := j2) (p := a) (by omega) (by omega) hx.out hy.out)
                          rw [hx.out] at ci
                          rw [hy.out] at cj
                          obtain ⟨v', hv'⟩ := cell?_setCell_some (p := ⟨g, j2, none⟩) (x := .int .u8 y) cj
                          have cw := ((HK.out.drewN nq)).cell (j := a) (by omega)
                          rw [hy.out] at cw
                          obtain ⟨v2, hv2⟩ := cell?_setCell_some (p := ⟨g, j2, none⟩) (x := .int .u8 y) cw
                          clear cw
                          go_region
                          go_wp2
                          go_ret2
                          exact ⟨rfl, HW.out.1, (hO.drewN nq).trans HW.out.2⟩
          · have hg2 : decide ((i2 : Int) ≤ (j2 : Int)) = false := by simp; omega
            have hg3 : decide (i2 ≤ j2) = false := by simp; omega
            have HJ : Hid (j2 = scanDown (fun x => !ltInt x xa) dk i2 j) := hidden (by rw [← HD.out]; exact (down_stop (by omega) (.inl (by omega))).symm)
            go_wp2
            go_big_quiet (fail)
            go_wp2
            have e : R = (j2, true, swp dk j2 a) := by rw [← hR.out]; exact pt_first_break HS0.out hxa.out hi HI.out HJ.out (by omega)
            subst e
            by_cases hja : a = j2
            · subst hja
              have ci := (HK.out).cell (j := a) (by omega)
              have cj := (HK.out).cell (j := a) (by omega)
              have fi := (HK.out).free (a)
              have fj := (HK.out).free (a)
              obtain ⟨x, hx⟩ : ∃ x, Hid (dk[a]! = x) := ⟨_, hidden rfl⟩
              obtain ⟨y, hy⟩ : ∃ x, Hid (dk[a]! = x) := ⟨_, hidden rfl⟩
              have HW := hidden (swap_world (HK.out.drewN nq) (a := a) (p := a) (by omega) (by omega) hx.out hy.out)
              rw [hx.out] at ci
              rw [hy.out] at cj
              obtain ⟨v', hv'⟩ := cell?_setCell_some (p := ⟨g, a, none⟩) (x := .int .u8 y) cj
              have cw := ((HK.out.drewN nq)).cell (j := a) (by omega)
              rw [hy.out] at cw
              obtain ⟨v2, hv2⟩ := cell?_setCell_some (p := ⟨g, a, none⟩) (x := .int .u8 y) cw
              clear cw
              have hxy : y = x := by rw [← hy.out, ← hx.out]
              subst hxy
              clear hv' hv2
              go_region
              go_wp2
              go_ret2
              exact ⟨rfl, HW.out.1, (hO.drewN nq).trans HW.out.2⟩
            · have hja2 : a < j2 := by omega
              have ci := (HK.out).cell (j := j2) (by omega)
              have cj := (HK.out).cell (j := a) (by omega)
              have fi := (HK.out).free (j2)
              have fj := (HK.out).free (a)
              obtain ⟨x, hx⟩ : ∃ x, Hid (dk[j2]! = x) := ⟨_, hidden rfl⟩
              obtain ⟨y, hy⟩ : ∃ x, Hid (dk[a]! = x) := ⟨_, hidden rfl⟩
              have HW := hidden (swap_world (HK.out.drewN nq) (a := j2) (p := a) (by omega) (by omega) hx.out hy.out)
              rw [hx.out] at ci
              rw [hy.out] at cj
              obtain ⟨v', hv'⟩ := cell?_setCell_some (p := ⟨g, j2, none⟩) (x := .int .u8 y) cj
              have cw := ((HK.out.drewN nq)).cell (j := a) (by omega)
              rw [hy.out] at cw
              obtain ⟨v2, hv2⟩ := cell?_setCell_some (p := ⟨g, j2, none⟩) (x := .int .u8 y) cw
              clear cw
              go_region
              go_wp2
              go_ret2
              exact ⟨rfl, HW.out.1, (hO.drewN nq).trans HW.out.2⟩
      · have HU2 : Hid (scanUp (fun x => ltInt x xa) dk j (i2 + 1) = scanUp (fun x => ltInt x xa) dk j i) := hidden (by rw [← HU.out]; exact (up_step (by omega) (by rw [hxi.out]; simp [hl])).symm)
        go_wp2
        go_roundw
        case measure => simp [intOf] <;> omega
        case rel => exact ⟨i2 + 1, by simp, by omega, by omega, HU2, hidden (HK2.out.drewN _), hO2.drewN _⟩
    · have hg2 : decide ((i2 : Int) ≤ (j : Int)) = false := by simp; omega
      have hg3 : decide (i2 ≤ j) = false := by simp; omega
      have HF : Hid (i2 ≤ j → ltInt dk[i2]! xa = false) := hidden (fun h => by omega)
      go_wp2
      go_big_quiet (fail)
      go_wp2
      have HI : Hid (i2 = scanUp (fun x => ltInt x xa) dk j i) := hidden (by rw [← HU.out]; exact (up_stop (.inl (by omega))).symm)
      go_loopw [11] (fun sq wr3 => ∃ j2 : Nat, sq = .int .i64 j2 ∧ i2 ≤ j2 + 1 ∧ j2 ≤ j ∧ Hid (scanDown (fun x => !ltInt x xa) dk i2 j2 = scanDown (fun x => !ltInt x xa) dk i2 j) ∧ Hid (Bs wr3 g cap dk) ∧ Only g w wr3)
        (fun sq _ => (intOf sq).toNat)
      case atStart => exact ⟨j, rfl, by omega, Nat.le_refl _, hidden rfl, hidden (HK2.out.drewN _), hO2.drewN _⟩
      case round =>
        clear HK2 hO2
        obtain ⟨j2, rfl, hij2, hjj2, HD, HK, hO⟩ := hrel
        by_cases hg : (i2 : Int) ≤ (j2 : Int)
        · exfalso; omega
        · have hg2 : decide ((i2 : Int) ≤ (j2 : Int)) = false := by simp; omega
          have hg3 : decide (i2 ≤ j2) = false := by simp; omega
          have HJ : Hid (j2 = scanDown (fun x => !ltInt x xa) dk i2 j) := hidden (by rw [← HD.out]; exact (down_stop (by omega) (.inl (by omega))).symm)
          go_wp2
          go_big_quiet (fail)
          go_wp2
          have e : R = (j2, true, swp dk j2 a) := by rw [← hR.out]; exact pt_first_break HS0.out hxa.out hi HI.out HJ.out (by omega)
          subst e
          by_cases hja : a = j2
          · subst hja
            have ci := (HK.out).cell (j := a) (by omega)
            have cj := (HK.out).cell (j := a) (by omega)
            have fi := (HK.out).free (a)
            have fj := (HK.out).free (a)
            obtain ⟨x, hx⟩ : ∃ x, Hid (dk[a]! = x) := ⟨_, hidden rfl⟩
            obtain ⟨y, hy⟩ : ∃ x, Hid (dk[a]! = x) := ⟨_, hidden rfl⟩
            have HW := hidden (swap_world (HK.out.drewN nq) (a := a) (p := a) (by omega) (by omega) hx.out hy.out)
            rw [hx.out] at ci
            rw [hy.out] at cj
            obtain ⟨v', hv'⟩ := cell?_setCell_some (p := ⟨g, a, none⟩) (x := .int .u8 y) cj
            have cw := ((HK.out.drewN nq)).cell (j := a) (by omega)
            rw [hy.out] at cw
            obtain ⟨v2, hv2⟩ := cell?_setCell_some (p := ⟨g, a, none⟩) (x := .int .u8 y) cw
            clear cw
            have hxy : y = x := by rw [← hy.out, ← hx.out]
            subst hxy
            clear hv' hv2
            go_region
            go_wp2
            go_ret2
            exact ⟨rfl, HW.out.1, (hO.drewN nq).trans HW.out.2⟩
          · have hja2 : a < j2 := by omega
            have ci := (HK.out).cell (j := j2) (by omega)
            have cj := (HK.out).cell (j := a) (by omega)
            have fi := (HK.out).free (j2)
            have fj := (HK.out).free (a)
            obtain ⟨x, hx⟩ : ∃ x, Hid (dk[j2]! = x) := ⟨_, hidden rfl⟩
            obtain ⟨y, hy⟩ : ∃ x, Hid (dk[a]! = x) := ⟨_, hidden rfl⟩
            have HW := hidden (swap_world (HK.out.drewN nq) (a := j2) (p := a) (by omega) (by omega) hx.out hy.out)
            rw [hx.out] at ci
            rw [hy.out] at cj
            obtain ⟨v', hv'⟩ := cell?_setCell_some (p := ⟨g, j2, none⟩) (x := .int .u8 y) cj
            have cw := ((HK.out.drewN nq)).cell (j := a) (by omega)
            rw [hy.out] at cw
            obtain ⟨v2, hv2⟩ := cell?_setCell_some (p := ⟨g, j2, none⟩) (x := .int .u8 y) cw
            clear cw
            go_region
            go_wp2
            go_ret2
            exact ⟨rfl, HW.out.1, (hO.drewN nq).trans HW.out.2⟩
end Go.Proofs.Yteaohgipndmciaa
