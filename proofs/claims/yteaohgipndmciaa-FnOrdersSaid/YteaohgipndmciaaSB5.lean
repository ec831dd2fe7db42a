/- The library's sort at bytes: breakPatterns. -/
import Derived.Test.YteaohgipndmciaaSB1
import Derived.Test.YteaohgipndmciaaI6P
import Derived.Laws.BitsAllLaws
import Derived.Laws.Bits64
namespace Go.Proofs.Yteaohgipndmciaa
set_option linter.unusedVariables false
set_option linter.unusedSimpArgs false
open Go.RowKit Go.Sort

theorem xor_range (x y : Int) : ∃ n : Nat, n < 18446744073709551616 ∧ bits .xor .u64 x y = (n : Int) := by
  refine ⟨((bits .xor .u64 x y) % 18446744073709551616).toNat, by omega, ?_⟩
  have h : ∃ z : Int, bits .xor .u64 x y = IntKind.u64.wrap z := ⟨_, rfl⟩
  obtain ⟨z, hz⟩ := h
  rw [hz, IntKind.wrap_u64]
  omega
set_option maxHeartbeats 4000000 in
set_option maxRecDepth 100000 in
theorem xorshift_any (b : Nat) (x : Int) (T : TypeId) (w : World) (hS : Has w b T #[.int .u64 x]) :
    Calls Try.prog 124 #[.pointer (some ⟨b, 0, none⟩)] w fun e w' => ∃ y : Nat, e = .returned (.int .u64 (y : Int)) ∧ y < 18446744073709551616 ∧ Has w' b T #[.int .u64 (y : Int)] ∧ Only b w w' := by
  have c0 := hS.cell 0
  have f0 := hS.free 0
  simp at c0
  have HS := hidden hS
  clear hS
  go_enter Try.func124, Try.ntmps124
  go_wp2
  go_region
  generalize bits .xor .u64 x (IntKind.u64.wrap (x * 8192)) = y1
  have H1 : Has ((w.setCell ⟨b, 0, none⟩ (.int .u64 y1)).drew) b T #[.int .u64 y1] := by simpa using (HS.out.store 0 (.int .u64 y1)).drew
  have O1 : Only b w ((w.setCell ⟨b, 0, none⟩ (.int .u64 y1)).drew) := ((Only.refl _ _).store (.inl rfl) _).drew
  generalize (w.setCell ⟨b, 0, none⟩ (.int .u64 y1)).drew = w1 at H1 O1 ⊢
  have c1 := H1.cell 0
  have f1 := H1.free 0
  simp at c1
  have HH1 := hidden H1
  clear H1
  go_wp2
  go_region
  generalize bits .xor .u64 y1 (y1 / 128) = y2
  have H2 : Has ((w1.setCell ⟨b, 0, none⟩ (.int .u64 y2)).drew) b T #[.int .u64 y2] := by simpa using (HH1.out.store 0 (.int .u64 y2)).drew
  have O2 : Only b w1 ((w1.setCell ⟨b, 0, none⟩ (.int .u64 y2)).drew) := ((Only.refl _ _).store (.inl rfl) _).drew
  generalize (w1.setCell ⟨b, 0, none⟩ (.int .u64 y2)).drew = w2 at H2 O2 ⊢
  have c2 := H2.cell 0
  have f2 := H2.free 0
  simp at c2
  have HH2 := hidden H2
  clear H2
  go_wp2
  go_region
  obtain ⟨y, hy, hye⟩ := xor_range y2 (IntKind.u64.wrap (y2 * 131072))
  generalize bits .xor .u64 y2 (IntKind.u64.wrap (y2 * 131072)) = y3 at hye ⊢
  subst hye
  have H3 : Has ((w2.setCell ⟨b, 0, none⟩ (.int .u64 (y : Int))).drew) b T #[.int .u64 (y : Int)] := by simpa using (HH2.out.store 0 (.int .u64 (y : Int))).drew
  have O3 : Only b w2 ((w2.setCell ⟨b, 0, none⟩ (.int .u64 (y : Int))).drew) := ((Only.refl _ _).store (.inl rfl) _).drew
  generalize (w2.setCell ⟨b, 0, none⟩ (.int .u64 (y : Int))).drew = w3 at H3 O3 ⊢
  have c3 := H3.cell 0
  simp at c3
  go_wp2
  go_ret
  exact ⟨y, rfl, hy, H3, O1.trans (O2.trans O3)⟩
set_option maxHeartbeats 4000000 in
set_option maxRecDepth 100000 in
theorem nextPow_any (n : Nat) (w : World) (h1 : 8 ≤ n) (h2 : n ≤ 1048575) :
    Calls Try.prog 123 #[.int .i64 n] w fun e w' => e = .returned (.int .u64 ((2 ^ (Nat.log2 n + 1) : Nat) : Int)) ∧ w = w' := by
  have hk := log_le (by omega) h2
  have K := hidden (fun W => len64_small n W (by omega) (by omega))
  rw [Int.toNat_natCast] at K
  obtain ⟨x, hx⟩ : ∃ x : Int, (n : Int) = x := ⟨_, rfl⟩
  obtain ⟨g, hg⟩ : ∃ g, Nat.log2 n = g := ⟨_, rfl⟩
  rw [hg] at hk K ⊢
  rw [hx] at K ⊢
  have hx0 : 1 ≤ x := by omega
  have hx1 : x ≤ 1048575 := by omega
  clear hx hg h1 h2
  have KL : Hid (∀ W : World, Calls Try.prog 98 #[.int .u64 x] W fun e w' => e = .returned (.int .i64 ((g + 1 : Nat) : Int)) ∧ w' = W) := hidden (fun W => by
    go_enter Try.func98, Try.ntmps98
    go_wp2_with fail
    refine (K.out _).mono ?_
    rintro e w1 ⟨rfl, rfl⟩
    go_wp2
    go_ret
    exact ⟨rfl, rfl⟩)
  go_enter Try.func123, Try.ntmps123
  go_wp2_with fail
  refine (KL.out _).mono ?_
  rintro e w1 ⟨rfl, rfl⟩
  go_wp2
  go_ret
  refine ⟨congrArg Ending.returned (congrArg (Value.int IntKind.u64) ?_), rfl⟩
  have hp : 2 ^ (g + 1) ≤ 2 ^ 20 := Nat.pow_le_pow_right (by omega) (by omega)
  have hc : ((2 : Int) ^ (g + 1)) = ((2 ^ (g + 1) : Nat) : Int) := by simp
  rw [hc, IntKind.wrap_u64]
  generalize 2 ^ (g + 1) = P at hp ⊢
  have : 2 ^ 20 = 1048576 := by decide
  omega
theorem and_low {y M : Nat} (hy : y < 18446744073709551616) (h0 : 0 < M) (hM : M < 18446744073709551616) : ∃ z : Nat, z < M ∧ bits .and .u64 (y : Int) ((M : Int) - 1) = (z : Int) := by
  refine ⟨y &&& (M - 1), ?_, ?_⟩
  · have := @Nat.and_le_right y (M - 1)
    omega
  · rw [show ((M : Int) - 1) = ((M - 1 : Nat) : Int) by omega]
    exact u64_and_nat y (M - 1) hy (by omega)
theorem pow_log {n : Nat} (h : 0 < n) : 2 ^ (Nat.log2 n + 1) ≤ 2 * n := by
  have := Nat.log2_self_le (n := n) (by omega)
  rw [Nat.pow_succ]
  omega
set_option maxHeartbeats 8000000 in
set_option maxRecDepth 100000 in
theorem break_any (d : Array Int) (len : Nat) (hlen : d.size = len) (g cap a b : Nat) (w : World) (hB : Bs w g cap d) (hab : a + 8 ≤ b) (hb : b ≤ len) (hz : len ≤ 1048575) :
    Calls Try.prog 115 #[.slice (some ⟨g, 0, none⟩) len cap, .int .i64 a, .int .i64 b] w fun e w' =>
      e = .returned (.tuple #[]) ∧ ∃ d' : Array Int, PermIn a b d d' ∧ Bs w' g cap d' ∧ Only g w w' := by
  obtain ⟨l, hl⟩ : ∃ l, b - a = l := ⟨_, rfl⟩
  obtain ⟨q, hq⟩ : ∃ q, l / 4 = q := ⟨_, rfl⟩
  have hl2 : (b : Int) - (a : Int) = (l : Int) := by omega
  have hq2 : (l : Int).tdiv 4 = (q : Int) := by
    rw [Int.tdiv_eq_ediv_of_nonneg (by omega)]
    omega
  have hbl : a + l = b := by omega
  have HBL := hidden hbl
  have hl8 : 8 ≤ l := by omega
  have hq3 : 4 * q ≤ l := by omega
  have hq4 : 2 ≤ q := by omega
  have hP := hidden (fun W => nextPow_any l W hl8 (by omega))
  have hM1 := pow_log (n := l) (by omega)
  have hM0 : 0 < 2 ^ (Nat.log2 l + 1) := Nat.pow_pos (by omega)
  generalize 2 ^ (Nat.log2 l + 1) = M at hP hM1 hM0
  have hne : g ≠ w.heap.size := by have := hB.lt; omega
  clear hl hq hbl
  obtain ⟨w0, hw0⟩ : ∃ w0, w0 = w.alloc (.cells #[.int .u64 (l : Int)] 138) := ⟨_, rfl⟩
  have hX0 : Has w0 w.heap.size 138 #[.int .u64 (l : Int)] := by subst hw0; exact Has.fresh _ _ _
  have hB0 : Bs w0 g cap d := by subst hw0; exact hB.alloc _
  have hO0 : Only g w w0 := by subst hw0; exact (Only.refl g w).alloc _
  have HB := hidden hB0
  have HX := hidden hX0
  clear hB hX0 hB0
  go_enter Try.func115, Try.ntmps115
  go_wp2_with (fail)
  rw [← hw0]
  refine (hP.out _).mono ?_
  rintro e w1 ⟨rfl, rfl⟩
  clear hw0
  go_wp2
  go_loopw [9, 10] (fun si so wr => ∃ (i : Nat) (dk : Array Int) (x : Nat), si = .int .i64 i ∧ a + 2 * q ≤ i + 1 ∧ i ≤ a + 2 * q + 2 ∧ dk.size = len ∧ Hid (PermIn a b d dk) ∧ Hid (Bs wr g cap dk) ∧ Hid (Has wr w.heap.size 138 #[.int .u64 (x : Int)]) ∧ Only g w wr)
    (fun si _ _ => a + 2 * q + 3 - (intOf si).toNat)
  case atStart => exact ⟨a + 2 * q - 1, d, l, by go_num, by omega, by omega, hlen, hidden (permIn_refl _ _ _), HB, HX, hO0⟩
  case round =>
    clear HB HX hO0
    obtain ⟨i, dk, x, rfl, hi1, hi2, hdk, HR, HK, HX, hO⟩ := hrel
    by_cases hlt : (i : Int) ≤ (a : Int) + (q : Int) * 2 + 1
    · go_wp2_with (fail)
      refine (xorshift_any w.heap.size x 138 wr HX.out).mono ?_
      rintro e w2 ⟨y, rfl, hy, hX2, hO2⟩
      have HX2 := hidden hX2
      have HK2 := hidden (HK.out.only hO2 hne)
      have hO3 : Only g w w2 := ⟨hO2.os.trans hO.os, hO2.tape.trans hO.tape, hO2.output.trans hO.output, Nat.le_trans hO.size hO2.size, fun k hk hne2 => (hO2.block k (Nat.lt_of_lt_of_le hk hO.size) (by simp; omega)).trans (hO.block k hk hne2)⟩
      clear hX2 hO2 HX HK hO
      obtain ⟨z, hzM, hand⟩ := and_low (M := M) hy hM0 (by omega)
      have hbl := HBL.out
      by_cases hzl : (l : Int) ≤ (z : Int)
      · obtain ⟨o, ho⟩ : ∃ o : Nat, (z : Int) - (l : Int) = (o : Int) := ⟨z - l, by omega⟩
        have hol : o < l := by omega
        have hib : a ≤ i ∧ i < b := by omega
        have hab2 : a + o < b := by omega
        clear hbl
        by_cases he : i = a + o
        · subst he
          have HW := hidden (HK2.out.swp (i := a + o) (j := a + o) (by omega) (by omega))
          have HPm := hidden (permIn_trans _ _ _ a b HR.out (swp_permIn dk a b (a + o) (a + o) (by omega) (by omega) (by omega) (by omega) (by omega)))
          have c0 := HK2.out.cell (j := a + o) (by omega)
          have c1 := HK2.out.cell (j := a + o) (by omega)
          have f0 := HK2.out.free (a + o)
          have f1 := HK2.out.free (a + o)
          generalize hx : dk[a + o]! = x0 at c0 c1 HW
          clear hx
          go_wp2
          go_region
          go_wp2
          go_roundw
          case measure => simp [intOf] <;> omega
          case rel => exact ⟨a + o + 1, swp dk (a + o) (a + o), y, by simp, by omega, by omega, by rw [size_swp]; exact hdk, HPm, hidden HW.out.drew, hidden ((HX2.out.storeAway (Ne.symm hne) _).storeAway (Ne.symm hne) _).drew, ((hO3.store (.inl rfl) _).store (.inl rfl) _).drew⟩
        · have HW := hidden (HK2.out.swp (i := i) (j := a + o) (by omega) (by omega))
          have HPm := hidden (permIn_trans _ _ _ a b HR.out (swp_permIn dk a b i (a + o) (by omega) (by omega) (by omega) (by omega) (by omega)))
          have c0 := HK2.out.cell (j := i) (by omega)
          have c1 := HK2.out.cell (j := a + o) (by omega)
          have f0 := HK2.out.free i
          have f1 := HK2.out.free (a + o)
          generalize hx : dk[i]! = x0 at c0 HW
          generalize hy : dk[a + o]! = y0 at c1 HW
          clear hx hy
          go_wp2
          go_region
          go_wp2
          go_roundw
          case measure => simp [intOf] <;> omega
          case rel => exact ⟨i + 1, swp dk (i) (a + o), y, by simp, by omega, by omega, by rw [size_swp]; exact hdk, HPm, hidden HW.out.drew, hidden ((HX2.out.storeAway (Ne.symm hne) _).storeAway (Ne.symm hne) _).drew, ((hO3.store (.inl rfl) _).store (.inl rfl) _).drew⟩
      · have hib : a ≤ i ∧ i < b := by omega
        have hab2 : a + z < b := by omega
        clear hbl
        by_cases he : i = a + z
        · subst he
          have HW := hidden (HK2.out.swp (i := a + z) (j := a + z) (by omega) (by omega))
          have HPm := hidden (permIn_trans _ _ _ a b HR.out (swp_permIn dk a b (a + z) (a + z) (by omega) (by omega) (by omega) (by omega) (by omega)))
          have c0 := HK2.out.cell (j := a + z) (by omega)
          have c1 := HK2.out.cell (j := a + z) (by omega)
          have f0 := HK2.out.free (a + z)
          have f1 := HK2.out.free (a + z)
          generalize hx : dk[a + z]! = x0 at c0 c1 HW
          clear hx
          go_wp2
          go_region
          go_wp2
          go_roundw
          case measure => simp [intOf] <;> omega
          case rel => exact ⟨a + z + 1, swp dk (a + z) (a + z), y, by simp, by omega, by omega, by rw [size_swp]; exact hdk, HPm, hidden HW.out.drew, hidden ((HX2.out.storeAway (Ne.symm hne) _).storeAway (Ne.symm hne) _).drew, ((hO3.store (.inl rfl) _).store (.inl rfl) _).drew⟩
        · have HW := hidden (HK2.out.swp (i := i) (j := a + z) (by omega) (by omega))
          have HPm := hidden (permIn_trans _ _ _ a b HR.out (swp_permIn dk a b i (a + z) (by omega) (by omega) (by omega) (by omega) (by omega)))
          have c0 := HK2.out.cell (j := i) (by omega)
          have c1 := HK2.out.cell (j := a + z) (by omega)
          have f0 := HK2.out.free i
          have f1 := HK2.out.free (a + z)
          generalize hx : dk[i]! = x0 at c0 HW
          generalize hy : dk[a + z]! = y0 at c1 HW
          clear hx hy
          go_wp2
          go_region
          go_wp2
          go_roundw
          case measure => simp [intOf] <;> omega
          case rel => exact ⟨i + 1, swp dk (i) (a + z), y, by simp, by omega, by omega, by rw [size_swp]; exact hdk, HPm, hidden HW.out.drew, hidden ((HX2.out.storeAway (Ne.symm hne) _).storeAway (Ne.symm hne) _).drew, ((hO3.store (.inl rfl) _).store (.inl rfl) _).drew⟩
    · go_wp2
      go_end0
      exact ⟨rfl, dk, HR.out, HK.out, hO⟩
end Go.Proofs.Yteaohgipndmciaa
