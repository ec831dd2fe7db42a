/- Chapter 1: ToByte of the model. -/
import Derived.Test.YtagjafkleemffaaC1TB
import Derived.Deep.LoopGhost
namespace Go.Proofs.Ytagjafkleemffaa
set_option linter.unusedVariables false
set_option linter.unusedSimpArgs false
open Go.RowKit

theorem num_zero (l : List Nat) (h : num l = 0) : ∀ b ∈ l, b = 0 := by
  induction l with
  | nil => simp
  | cons b l ih =>
    have e : num (b :: l) = b * 2 ^ l.length + num l := by
      have := num_append [b] l
      simpa [num] using this
    have hp := Nat.two_pow_pos l.length
    have hb : b = 0 := by
      rcases Nat.eq_zero_or_pos b with h0 | h0
      · exact h0
      · have := Nat.mul_pos h0 hp; omega
    intro c hc
    rcases List.mem_cons.1 hc with rfl | hc
    · exact hb
    · exact ih (by omega) c hc
theorem num_zero_of (l : List Nat) (h : ∀ b ∈ l, b = 0) : num l = 0 := by
  induction l with
  | nil => rfl
  | cons b l ih =>
    have e : num (b :: l) = b * 2 ^ l.length + num l := by
      have := num_append [b] l
      simpa [num] using this
    rw [e, h b (by simp), ih fun c hc => h c (by simp [hc])]; simp
set_option maxHeartbeats 1000000 in
theorem specToByte_yes (s : ByteArray) (a : Nat) (w : World) (hs : s.size ≤ 1048576) (hl : a ≤ 8 * s.size) (h0 : num (row s a (upN a)) = 0) :
    Calls Try.prog 45 #[.agg #[.string s, .int .i64 a]] w fun e w' =>
      e = .returned (.tuple #[.agg #[.string s, .int .i64 ((a + upN a : Nat) : Int)], .bool true]) ∧ Below w.heap.size w w' := by
  have hu := upN_lt a
  have hz0 : Hid (∀ k, k < upN a → bit s (a + k) = 0) := hidden (fun k hk => num_zero _ h0 _ (by simp only [row, List.mem_map, List.mem_range]; exact ⟨k, hk, rfl⟩))
  clear h0
  go_enter Try.func45, Try.ntmps45
  go_wp2_with fail
  refine (specRdOk_yes s a _ hs hl).mono ?_
  rintro e wa ⟨rfl, Ba⟩
  have ya := Ba.size; (try simp at ya)
  have hBa := ((Has.fresh w 31 #[.string s, .int .i64 a]).alloc (.cells #[.string ⟨#[]⟩, .int .i64 0] 31)).below Ba (by (try simp); (try omega))
  have hRa := (Has.freshAt (by simp) 31 #[.string ⟨#[]⟩, .int .i64 0] : Has ((w.alloc (.cells #[.string s, .int .i64 a] 31)).alloc _) (w.heap.size + 1) _ _).below Ba (by (try simp); (try omega))
  have hbla : Below w.heap.size w wa := bel_then Ba (by (try simp); (try omega)) (((Below.refl _ _).alloc (Nat.le_refl _) _).alloc (by simp) _)
  go_wp2
  go_loopg [] (upN a) (fun gk wr => ∃ k : Nat, Hid (k + gk = upN a) ∧ k ≤ upN a ∧ Has wr w.heap.size 31 #[.string s, .int .i64 ((a + k : Nat) : Int)] ∧ Has wr (w.heap.size + 1) 31 #[.string ⟨#[]⟩, .int .i64 0] ∧ Below w.heap.size w wr ∧ Hid True)
  case atStart => exact ⟨0, hidden (by omega), by omega, hBa, hRa, hbla, hidden trivial⟩
  case round =>
    obtain ⟨k, HK, hk, hB, hR, hbl, Hz⟩ := hrel
    have c0 := hB.cell 0
    have c1 := hB.cell 1
    have hsz := hB.lt
    have hsz2 := hR.lt
    have e0 := hR.cell 0
    have e1 := hR.cell 1
    have g0 := hR.free 0
    have g1 := hR.free 1
    simp at c0 c1 e0 e1
    by_cases hlt : k < upN a
    · have ht : (((((a + k : Nat) : Int)) % 8) != 0) = true := by simp; unfold upN at hlt; omega
      have ht' : ((((a : Int) + (k : Int)) % 8) != 0) = true := by simp; unfold upN at hlt; omega
      go_wp2_with fail
      have hg := l1get_yes s (a + k) 1 w.heap.size 31 wr hs (by omega) (by have := upN_div a; omega) hB
      rw [show num (row s (a + k) 1) = bit s (a + k) by simp [row, num]] at hg
      refine hg.mono ?_
      rintro e w2 ⟨rfl, hB2, hO2⟩
      have hR2 := hO2.has hR (by omega)
      have hbl2 : Below w.heap.size w w2 := hbl.trans (hO2.below (Nat.le_refl _) (by omega))
      have hs2 := hO2.size
      rw [hz0.out k hlt]
      clear hB hR hbl hO2 hg c0 c1 e0 e1 g0 g1 ht ht'
      go_wp2
      go_roundg (gk - 1)
      case rel => exact ⟨k + 1, hidden (by have := HK.out; omega), by omega, hB2, hR2, hbl2, Hz⟩
      case measure => have := HK.out; omega
    · have hk : k = upN a := by omega
      subst hk
      have ht : (((((a + upN a : Nat) : Int)) % 8) != 0) = false := by simp; have := upN_div a; omega
      have ht' : ((((a : Int) + (upN a : Int)) % 8) != 0) = false := by simp; have := upN_div a; omega
      go_wp2
      refine bodyPost_ret (v := .tuple #[.agg #[.string s, .int .i64 ((a + upN a : Nat) : Int)], .bool true]) (by simp [results, Try.results45, go_sem, c0, c1, e0, e1, g0, g1]) rfl ⟨rfl, ?_⟩
      repeat (first | exact Below.refl _ _ | assumption | refine Below.alloc ?_ (by (try simp); (try omega)) _ | refine Below.setCell ?_ (by (try simp); (try omega)) _ | refine Below.drew ?_ | refine bel_then (by assumption) (by (try simp); (try omega)) ?_ | refine only_then (by assumption) (by (try simp); (try omega)) (by (try simp); (try omega)) ?_ | refine bel_thenB (by assumption) (by (try simp); (try omega)) ?_)
set_option maxHeartbeats 1000000 in
theorem specToByte_bits (s : ByteArray) (a : Nat) (w : World) (hs : s.size ≤ 1048576) (hl : a ≤ 8 * s.size) (h0 : num (row s a (upN a)) ≠ 0) :
    Calls Try.prog 45 #[.agg #[.string s, .int .i64 a]] w fun e w' => e = .returned (.tuple #[.agg #[.string ⟨#[]⟩, .int .i64 0], .bool false]) ∧ Below w.heap.size w w' := by
  have hu := upN_lt a
  have H0 := hidden h0
  clear h0
  go_enter Try.func45, Try.ntmps45
  go_wp2_with fail
  refine (specRdOk_yes s a _ hs hl).mono ?_
  rintro e wa ⟨rfl, Ba⟩
  have ya := Ba.size; (try simp at ya)
  have hBa := ((Has.fresh w 31 #[.string s, .int .i64 a]).alloc (.cells #[.string ⟨#[]⟩, .int .i64 0] 31)).below Ba (by (try simp); (try omega))
  have hRa := (Has.freshAt (by simp) 31 #[.string ⟨#[]⟩, .int .i64 0] : Has ((w.alloc (.cells #[.string s, .int .i64 a] 31)).alloc _) (w.heap.size + 1) _ _).below Ba (by (try simp); (try omega))
  have hbla : Below w.heap.size w wa := bel_then Ba (by (try simp); (try omega)) (((Below.refl _ _).alloc (Nat.le_refl _) _).alloc (by simp) _)
  go_wp2
  go_loopg [] (upN a) (fun gk wr => ∃ k : Nat, Hid (k + gk = upN a) ∧ k ≤ upN a ∧ Has wr w.heap.size 31 #[.string s, .int .i64 ((a + k : Nat) : Int)] ∧ Has wr (w.heap.size + 1) 31 #[.string ⟨#[]⟩, .int .i64 0] ∧ Below w.heap.size w wr ∧ Hid (∀ j, j < k → bit s (a + j) = 0))
  case atStart => exact ⟨0, hidden (by omega), by omega, hBa, hRa, hbla, hidden fun j hj => by omega⟩
  case round =>
    obtain ⟨k, HK, hk, hB, hR, hbl, Hz⟩ := hrel
    have c0 := hB.cell 0
    have c1 := hB.cell 1
    have hsz := hB.lt
    have hsz2 := hR.lt
    have e0 := hR.cell 0
    have e1 := hR.cell 1
    have g0 := hR.free 0
    have g1 := hR.free 1
    simp at c0 c1 e0 e1
    have hlt : k < upN a := by
      rcases Nat.lt_or_ge k (upN a) with h | h
      · exact h
      · exfalso
        apply H0.out
        apply num_zero_of
        intro b hb
        simp only [row, List.mem_map, List.mem_range] at hb
        obtain ⟨i, hi, rfl⟩ := hb
        exact Hz.out i (by omega)
    have ht : (((((a + k : Nat) : Int)) % 8) != 0) = true := by simp; unfold upN at hlt; omega
    have ht' : ((((a : Int) + (k : Int)) % 8) != 0) = true := by simp; unfold upN at hlt; omega
    by_cases hbt : bit s (a + k) = 0
    · go_wp2_with fail
      have hg := l1get_yes s (a + k) 1 w.heap.size 31 wr hs (by omega) (by have := upN_div a; omega) hB
      rw [show num (row s (a + k) 1) = bit s (a + k) by simp [row, num]] at hg
      refine hg.mono ?_
      rintro e w2 ⟨rfl, hB2, hO2⟩
      have hR2 := hO2.has hR (by omega)
      have hbl2 : Below w.heap.size w w2 := hbl.trans (hO2.below (Nat.le_refl _) (by omega))
      have hs2 := hO2.size
      rw [hbt]
      have HB := hidden hbt
      clear hB hR hbl hO2 hg c0 c1 e0 e1 g0 g1 ht ht' hbt
      go_wp2
      go_roundg (gk - 1)
      case rel => exact ⟨k + 1, hidden (by have := HK.out; omega), by omega, hB2, hR2, hbl2, hidden fun j hj => by
        rcases Nat.lt_or_ge j k with g | g
        · exact Hz.out j g
        · obtain rfl : j = k := by omega
          exact HB.out⟩
      case measure => have := HK.out; omega
    · go_wp2_with fail
      have hg := l1get_yes s (a + k) 1 w.heap.size 31 wr hs (by omega) (by have := upN_div a; omega) hB
      rw [show num (row s (a + k) 1) = bit s (a + k) by simp [row, num]] at hg
      refine hg.mono ?_
      rintro e w2 ⟨rfl, hB2, hO2⟩
      have hR2 := hO2.has hR (by omega)
      have hbl2 : Below w.heap.size w w2 := hbl.trans (hO2.below (Nat.le_refl _) (by omega))
      have hs2 := hO2.size
      have hb1 : ((bit s (a + k) : Int) != 0) = true := by simp; omega
      have e0' := hR2.cell 0
      have e1' := hR2.cell 1
      have g0' := hR2.free 0
      have g1' := hR2.free 1
      simp at e0' e1'
      clear hB hR hbl hO2 hg c0 c1 e0 e1 g0 g1 ht ht' hbt
      go_wp2
      refine bodyPost_ret (v := .tuple #[.agg #[.string ⟨#[]⟩, .int .i64 0], .bool false]) (by simp [results, Try.results45, go_sem, e0', e1', g0', g1']) rfl ⟨rfl, ?_⟩
      repeat (first | exact Below.refl _ _ | assumption | refine Below.alloc ?_ (by (try simp); (try omega)) _ | refine Below.setCell ?_ (by (try simp); (try omega)) _ | refine Below.drew ?_ | refine bel_then (by assumption) (by (try simp); (try omega)) ?_ | refine only_then (by assumption) (by (try simp); (try omega)) (by (try simp); (try omega)) ?_ | refine bel_thenB (by assumption) (by (try simp); (try omega)) ?_)
theorem specToByte_bad (s : ByteArray) (a : Int) (w : World) (hs : s.size ≤ 1048576) (b1 : -9223372036854775808 ≤ a) (b2 : a ≤ 9223372036854775807) (h0 : ¬ (0 ≤ a ∧ a ≤ 8 * s.size)) :
    Calls Try.prog 45 #[.agg #[.string s, .int .i64 a]] w fun e w' => e = .returned (.tuple #[.agg #[.string ⟨#[]⟩, .int .i64 0], .bool false]) ∧ Below w.heap.size w w' := by
  have H0 := hidden h0
  clear h0
  go_enter Try.func45, Try.ntmps45
  go_wp2_with fail
  refine (specRdOk_no s a _ hs b1 b2 H0.out).mono ?_
  rintro e wa ⟨rfl, Ba⟩
  obtain ⟨Ca, Fa, La⟩ := bcell3 Ba
  have ya := Ba.size; (try simp at ya)
  go_wp2
  refine bodyPost_ret (v := .tuple #[.agg #[.string ⟨#[]⟩, .int .i64 0], .bool false]) (by simp [results, Try.results45, go_sem, Ca]) rfl ⟨rfl, ?_⟩
  repeat (first | exact Below.refl _ _ | assumption | refine Below.alloc ?_ (by (try simp); (try omega)) _ | refine Below.setCell ?_ (by (try simp); (try omega)) _ | refine Below.drew ?_ | refine bel_then (by assumption) (by (try simp); (try omega)) ?_ | refine only_then (by assumption) (by (try simp); (try omega)) (by (try simp); (try omega)) ?_ | refine bel_thenB (by assumption) (by (try simp); (try omega)) ?_)
end Go.Proofs.Ytagjafkleemffaa
