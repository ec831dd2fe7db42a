/- Chapter 1: the program's writer appends a row of bits. -/
import Derived.Test.YtbfkbiembbbbpaaC1IPut
import Derived.Deep.LoopGhost
namespace Go.Proofs.Ytbfkbiembbbbpaa
set_option linter.unusedVariables false
set_option linter.unusedSimpArgs false
open Go.RowKit

theorem nbits_num (l : List Nat) (h : ∀ b ∈ l, b < 2) : nbits (num l) l.length = l := by
  induction l with
  | nil => rfl
  | cons b l ih =>
    have hb := h b (by simp)
    have ih' := ih fun c hc => h c (by simp [hc])
    have hlt := num_lt l fun c hc => h c (by simp [hc])
    have e : num (b :: l) = b * 2 ^ l.length + num l := by
      have := num_append [b] l
      simpa [num] using this
    rw [List.length_cons, show l.length + 1 = 1 + l.length by omega, e, nbits_add, Nat.add_comm (b * _), Nat.add_mul_div_right _ _ (Nat.two_pow_pos _), Nat.div_eq_of_lt hlt, Nat.add_mul_mod_self_right, Nat.mod_eq_of_lt hlt, ih']
    simp [nbits]; omega

set_option maxRecDepth 100000 in
set_option maxHeartbeats 1000000 in
theorem join_any (g base : Nat) (l : List Nat) (s : ByteArray) (n : Nat) (w : World) (h : Writes w base g l) (hg : base ≤ g) (hbase : base ≤ w.heap.size) (hok : okB s n = true) (hl : l.length + n ≤ 400000) :
    Calls Try.prog 52 #[.pointer (some ⟨g, 0, none⟩), .agg #[.string s, .int .i64 n]] w fun e w' => e = .returned (.tuple #[]) ∧ Writes w' base g (l ++ row s 0 n) ∧ Below base w w' ∧ Keeps g w w' := by
  have hroom := okB_room hok
  have hgl := h.lt
  have hW2 := (h.alloc (.cells #[.string s, .int .i64 n] 24)).alloc (.cells #[.string s, .int .i64 0] 73)
  go_enter Try.func52, Try.ntmps52
  go_wp2
  go_loopg [5] n (fun gk v wr => ∃ a : Nat, Hid (a + gk = n) ∧ a ≤ n ∧ Has wr w.heap.size 24 #[.string s, .int .i64 n] ∧ Has wr (w.heap.size + 1) 73 #[.string s, .int .i64 a] ∧ Writes wr base g (l ++ row s 0 a) ∧ Below base w wr ∧ Keeps g w wr)
  case atStart =>
    refine ⟨0, hidden (by omega), by omega, (Has.fresh w _ _).alloc _, Has.freshAt (by simp) _ _, ?_, ?_, ((Keeps.refl _ _).alloc _).alloc _⟩
    · simpa [row] using hW2
    · exact ((Below.refl _ _).alloc hbase _).alloc (by simp; omega) _
  case round =>
    obtain ⟨a, Ha, han, hB, hRd, hW, hbl, hK⟩ := hrel
    have c0 := hB.cell 0
    have c1 := hB.cell 1
    have d0 := hRd.cell 0
    have d1 := hRd.cell 1
    simp at c0 c1 d0 d1
    by_cases hlt : a < n
    · by_cases hm : n - a ≤ 32
      · obtain ⟨kk, hkk⟩ : ∃ kk : Nat, kk = n - a := ⟨_, rfl⟩
        have e1 : ((n : Int) - (a : Int)) = (kk : Int) := by omega
        have h0k : 0 < kk := by omega
        have hkn : a + kk ≤ n := by omega
        have hk32 : kk ≤ 32 := by omega
        clear hkk hm
        go_wp2_with fail
        refine (take_any s a kk _ _ _ (by omega) (by omega) (by omega) hRd).mono ?_
        rintro e w1 ⟨rfl, hRd1, hO1⟩
        have hB1 := hO1.has hB (by omega)
        have hW1 := hW.only hO1 hRd (by decide) (by omega)
        have hbl1 : Below base w w1 := hbl.trans (hO1.below (by omega) (by have := hbl.size; omega))
        have hK1 : Keeps g w w1 := fun b T cs q1 q2 q3 => hO1.has (hK b T cs q1 q2 q3) (by have := q3.lt; omega)
        clear hB hRd hW hO1
        go_wp2_with fail
        refine (put_any g base _ _ kk _ hW1 hg (by have := hbl1.size; omega) (by omega) (num_row_lt s a kk) (by rw [List.length_append, row_len]; omega)).mono ?_
        rintro e w2 ⟨rfl, hW2', hbl2, hK2⟩
        have hB2 := hK2 _ _ _ (by omega) (by decide) hB1
        have hRd2 := hK2 _ _ _ (by omega) (by decide) hRd1
        have hnn := nbits_num (row s a kk) (row_bits s a kk)
        rw [row_len] at hnn
        rw [hnn, List.append_assoc, show row s 0 a ++ row s a kk = row s 0 (a + kk) by rw [row_add, Nat.zero_add]] at hW2'
        clear hW1 hB1 hRd1 hnn
        go_wp2
        go_roundg (gk - kk)
        case rel => exact ⟨a + kk, hidden (by have := Ha.out; omega), by omega, hB2, hRd2, hW2', hbl1.trans hbl2, hK1.trans hK2⟩
        case measure => have := Ha.out; omega
      · go_wp2_with fail
        refine (take_any s a 32 _ _ _ (by omega) (by omega) (by omega) hRd).mono ?_
        rintro e w1 ⟨rfl, hRd1, hO1⟩
        have hB1 := hO1.has hB (by omega)
        have hW1 := hW.only hO1 hRd (by decide) (by omega)
        have hbl1 : Below base w w1 := hbl.trans (hO1.below (by omega) (by have := hbl.size; omega))
        have hK1 : Keeps g w w1 := fun b T cs q1 q2 q3 => hO1.has (hK b T cs q1 q2 q3) (by have := q3.lt; omega)
        clear hB hRd hW hO1
        go_wp2_with fail
        refine (put_any g base _ _ 32 _ hW1 hg (by have := hbl1.size; omega) (by omega) (num_row_lt s a 32) (by rw [List.length_append, row_len]; omega)).mono ?_
        rintro e w2 ⟨rfl, hW2', hbl2, hK2⟩
        have hB2 := hK2 _ _ _ (by omega) (by decide) hB1
        have hRd2 := hK2 _ _ _ (by omega) (by decide) hRd1
        have hnn := nbits_num (row s a 32) (row_bits s a 32)
        rw [row_len] at hnn
        rw [hnn, List.append_assoc, show row s 0 a ++ row s a 32 = row s 0 (a + 32) by rw [row_add, Nat.zero_add]] at hW2'
        clear hW1 hB1 hRd1 hnn
        go_wp2
        go_roundg (gk - 32)
        case rel => exact ⟨a + 32, hidden (by have := Ha.out; omega), by omega, hB2, hRd2, hW2', hbl1.trans hbl2, hK1.trans hK2⟩
        case measure => have := Ha.out; omega
    · have hn : a = n := by omega
      subst hn
      go_wp2
      go_end0
      exact ⟨rfl, hW, hbl, hK⟩
end Go.Proofs.Ytbfkbiembbbbpaa
