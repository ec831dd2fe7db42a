/- Chapter 1: numbers to bits, bits to bytes (the model). -/
import Derived.Test.YteaohgipndmciaaC1One
import Derived.Test.YteaohgipndmciaaMem
import Derived.Test.YteaohgipndmciaaStr
import Derived.RegionTactic
import Derived.ChangeAlike
import Derived.Deep.QuietTactic
import Derived.BigQuiet
import Derived.Maps.AppendAt
import Derived.Test.YteaohgipndmciaaMath2
import Derived.BigRegion
namespace Go.Proofs.Yteaohgipndmciaa
set_option linter.unusedVariables false
set_option linter.unusedSimpArgs false
open Go.RowKit

/-- The first k bits of v (n bits), then zeros. -/
def half (v n k : Nat) : List Nat := nbits (v / 2 ^ (n - k)) k ++ List.replicate (n - k) 0
theorem half_len (v n k : Nat) (h : k ≤ n) : (half v n k).length = n := by simp [half, nbits_len]; omega
theorem half_zero (v n : Nat) : half v n 0 = List.replicate n 0 := by simp [half, nbits]
theorem half_all (v n : Nat) : half v n n = nbits v n := by simp [half]
theorem half_set (v n k : Nat) (h : k < n) : (half v n k).set k (v / 2 ^ (n - 1 - k) % 2) = half v n (k + 1) := by
  have e : nbits (v / 2 ^ (n - (k + 1))) (k + 1) = nbits (v / 2 ^ (n - k)) k ++ [v / 2 ^ (n - 1 - k) % 2] := by
    rw [nbits_add, Nat.div_div_eq_div_mul, ← Nat.pow_add, show n - (k + 1) + 1 = n - k by omega, show n - (k + 1) = n - 1 - k by omega]
    simp [nbits]
  unfold half
  rw [e, show n - k = (n - (k + 1)) + 1 by omega, List.replicate_succ, List.set_append_right _ _ (by rw [nbits_len]; exact Nat.le_refl _), nbits_len]
  simp
theorem made_u8s (n : Nat) : (madeCells #[Value.int .u8 0] n).toList = u8s (List.replicate n 0) := by
  rw [toList_madeCells_one]; simp [u8s]

set_option maxHeartbeats 1000000 in
set_option maxRecDepth 100000 in
theorem l1close_any (l : List Nat) (hl1 : ∀ b ∈ l, b < 2) (g c base : Nat) (w : World) (hl : l.length ≤ 1000000) (hg0 : g < w.heap.size)
    (hown0 : w.ownsRow base 5 1 (.slice (some ⟨g, 0, none⟩) l.length c) l.length (u8s l)) :
    Calls Try.prog 62 #[.slice (some ⟨g, 0, none⟩) l.length c] w fun e w' =>
      ∃ D, Packs D l ∧ e = .returned (.agg #[.string (strOf D), .int .i64 l.length]) ∧ Below w.heap.size w w' := by
  obtain ⟨i0, hi, hz0, hz1, hz2⟩ := info_parts Try.info5
  obtain ⟨m, hm⟩ : ∃ m, m = (l.length + 7) / 8 := ⟨_, rfl⟩
  have hm2 : l.length ≤ 8 * m := by omega
  have hm3 : m ≤ 1000000 := by omega
  have HM := hidden hm
  clear hm
  go_enter Try.func62, Try.ntmps62
  go_wp2_with (at_make; refine wpList_make_full _ rfl _ _ 22 rfl (w.heap.size + 1) 5 i0 (.int .u8 0) 1 Try.underlying22 hi hz0 hz1 .i64 .i64 _ _ m rfl rfl ?c4 ?c5 ?c1 ?c2 ?c3 ?_)
  case c4 => have := HM.out; omega
  case c5 => have := HM.out; omega
  case c1 => rw [hz2]; omega
  case c2 => unfold maxLen; omega
  case c3 => simp
  intro w1 hown1 hg1
  have hb1 : Below w.heap.size w w1 := ((Below.refl _ _).alloc (Nat.le_refl _) _).grown hg1 (by simp) (by simp)
  have hR1 : Has w1 w.heap.size 25 #[.string ⟨#[]⟩, .int .i64 0] := (Has.fresh w _ _).grown hg1 (by simp)
  rw [made_u8s] at hown1
  (try simp only [World.size_alloc] at hown1)
  clear hg1
  go_wp2
  go_loopw [4] (fun i wr => ∃ (k : Nat) (D : List Nat), k ≤ l.length ∧ i = .int .i64 k ∧ D.length = m ∧ (∀ j, D.getD j 0 < 256) ∧ Hid (∀ j, j < 8 * m → bitL D j = (l.take k).getD j 0) ∧ wr.ownsRow (w.heap.size + 1) 5 1 (.slice (some ⟨w.heap.size + 1, 0, none⟩) m m) m (u8s D) ∧ Has wr w.heap.size 25 #[.string ⟨#[]⟩, .int .i64 0] ∧ Below w.heap.size w wr) (fun i _ => l.length - (intOf i).toNat)
  case atStart => exact ⟨0, List.replicate m 0, Nat.zero_le _, rfl, by simp, fun j => by simp [List.getD_eq_getElem?_getD, List.getElem?_replicate]; split <;> simp, hidden fun j hj => by simp [bitL, List.getD_eq_getElem?_getD, List.getElem?_replicate]; split <;> simp, hown1, hR1, hb1⟩
  case round =>
    obtain ⟨k, D, hk, rfl, hD, hDs, hDb, hown, hR, hbl⟩ := hrel
    clear hb1 hown1 hR1
    by_cases hlt : k < l.length
    · have HD := hidden hD
      have c0 : wr.cell? ⟨g, k, none⟩ = some (.int .u8 ((l.getD k 0 : Nat) : Int)) := by
        rw [hbl.cell (p := ⟨g, k, none⟩) hg0, hown0.cellAt k (by omega), u8s_get _ _ hlt]
      have c1 := hown.cellAt (k / 8) (by omega)
      rw [u8s_get _ _ (by omega)] at c1
      have f1 := hown.frozenAt (k / 8)
      have hi1 : 0 ≤ (k : Int) / 8 ∧ (k : Int) / 8 < m := by omega
      clear hD
      obtain ⟨W0, HW0⟩ : ∃ W0, Hid (W0 = wr) := ⟨_, hidden rfl⟩
      go_wp2
      go_region
      all_goals go_wp2
      have hb2 : l[k] < 2 := hl1 _ (List.getElem_mem _)
      have hp := packs_or (D := D) (l := l.take k) l[k] hb2 HD.out hDs (by rw [List.length_take]; omega) hDb.out
      rw [List.length_take, Nat.min_eq_left (by omega), ← List.take_succ_eq_append_getElem hlt] at hp
      refine ⟨⟨k + 1, D.set (k / 8) (D.getD (k / 8) 0 ||| l[k] * 2 ^ (7 - k % 8)), by omega, by go_num, ?_, hp.1, hidden hp.2, ?_, ?_, ?_⟩, by simp [intOf]; omega⟩
      · rw [List.length_set]; exact HD.out
      · have hs := (hown.stored (k / 8) (.int .u8 ((D.getD (k / 8) 0 ||| l[k] * 2 ^ (7 - k % 8) : Nat) : Int))).1
        rw [← u8s_set] at hs
        have hx : l[k] * 2 ^ (7 - k % 8) < 256 := by
          have h1 : 2 ^ (7 - k % 8) ≤ 2 ^ 7 := Nat.pow_le_pow_right (by omega) (by omega)
          have := Nat.mul_le_mul (show l[k] ≤ 1 by omega) h1
          omega
        have e2 : bits BinOp.or IntKind.u8 (↑(D[k / 8]?.getD 0)) ((l[k] : Int) * 2 ^ (7 - k % 8) % 256) = ((D.getD (k / 8) 0 ||| l[k] * 2 ^ (7 - k % 8) : Nat) : Int) := by
          rw [← u8_or_nat _ _ (hDs _) hx, List.getD_eq_getElem?_getD]
          congr 1
          rw [show ((l[k] : Int) * 2 ^ (7 - k % 8)) = ((l[k] * 2 ^ (7 - k % 8) : Nat) : Int) by simp]
          omega
        rw [e2]; exact hs
      · exact (hR.storeAway (by simp) _).drew
      · exact (hbl.setCell (by simp) _).drew
    · have hkn : k = l.length := by omega
      subst hkn
      have HD := hidden hD
      have e0 := hR.cell 0
      have e1 := hR.cell 1
      have g0 := hR.free 0
      have g1 := hR.free 1
      simp at e0 e1
      have hrun := run_string_own (P := Try.prog) (src := 22) (dst := 9) Try.underlying22 Try.underlying5 Try.underlying9 hown hD
      have hP : Packs D l := ⟨hD.trans HM.out, hDs, fun j hj => by have := hDb.out j (by omega); rwa [List.take_length] at this⟩
      clear hDs hown hR hD
      go_wp2
      refine bodyPost_ret (v := .agg #[.string (strOf D), .int .i64 l.length]) (by simp [results, Try.results62, go_sem, e0, e1, g0, g1]) rfl ⟨D, hP, rfl, ?_⟩
      repeat (first | exact Below.refl _ _ | refine Below.alloc ?_ (by (try simp); (try omega)) _ | refine Below.setCell ?_ (by (try simp); (try omega)) _ | refine Below.drew ?_ | refine bel_then (by assumption) (by (try simp); (try omega)) ?_ | refine only_then (by assumption) (by (try simp); (try omega)) (by (try simp); (try omega)) ?_)

theorem packs_nil : Packs [] [] := ⟨rfl, fun j => by simp, fun j hj => by simp at hj⟩
theorem l1close_nil (w : World) :
    Calls Try.prog 62 #[.slice none 0 0] w fun e w' =>
      e = .returned (.agg #[.string (strOf []), .int .i64 0]) ∧ Below w.heap.size w w' := by
  obtain ⟨i0, hi, hz0, hz1, hz2⟩ := info_parts Try.info5
  go_enter Try.func62, Try.ntmps62
  go_wp2_with (at_make; refine wpList_make_full _ rfl _ _ 22 rfl (w.heap.size + 1) 5 i0 (.int .u8 0) 1 Try.underlying22 hi hz0 hz1 .i64 .i64 _ _ 0 rfl rfl ?c4 ?c5 ?c1 ?c2 ?c3 ?_)
  case c4 => rfl
  case c5 => rfl
  case c1 => rw [hz2]; omega
  case c2 => unfold maxLen; omega
  case c3 => simp
  intro w1 hown1 hg1
  have hb1 : Below w.heap.size w w1 := ((Below.refl _ _).alloc (Nat.le_refl _) _).grown hg1 (by simp) (by simp)
  have hR : Has w1 w.heap.size 25 #[.string ⟨#[]⟩, .int .i64 0] := (Has.fresh w _ _).grown hg1 (by simp)
  rw [made_u8s] at hown1
  (try simp only [World.size_alloc] at hown1)
  have e0 := hR.cell 0
  have e1 := hR.cell 1
  have g0 := hR.free 0
  have g1 := hR.free 1
  simp at e0 e1
  have hrun := run_string_own (P := Try.prog) (src := 22) (dst := 9) Try.underlying22 Try.underlying5 Try.underlying9 hown1 (by simp)
  simp only [List.replicate_zero] at hrun
  clear hg1 hown1 hR
  go_wp2
  refine wp_loop_rounds 1 ?_
  rw [rounds_succ]
  go_wp2
  refine bodyPost_ret (v := .agg #[.string (strOf []), .int .i64 0]) (by simp [results, Try.results62, go_sem, e0, e1, g0, g1]) rfl ⟨rfl, ?_⟩
  repeat (first | exact Below.refl _ _ | refine Below.alloc ?_ (by (try simp); (try omega)) _ | refine Below.setCell ?_ (by (try simp); (try omega)) _ | refine Below.drew ?_ | refine bel_then (by assumption) (by (try simp); (try omega)) ?_ | refine only_then (by assumption) (by (try simp); (try omega)) (by (try simp); (try omega)) ?_)
theorem l1close_own (l : List Nat) (hl1 : ∀ b ∈ l, b < 2) (v : Value) (base : Nat) (w : World) (hl : l.length ≤ 1000000)
    (hown0 : w.ownsRow base 5 1 v l.length (u8s l)) :
    Calls Try.prog 62 #[v] w fun e w' =>
      ∃ D, Packs D l ∧ e = .returned (.agg #[.string (strOf D), .int .i64 l.length]) ∧ Below w.heap.size w w' := by
  rcases hown0.2 with ⟨rfl, h0⟩ | ⟨g, c, cur, rfl, _⟩
  · obtain rfl : l = [] := List.eq_nil_of_length_eq_zero h0
    exact (l1close_nil w).mono fun e w' ⟨he, hb⟩ => ⟨[], packs_nil, he, hb⟩
  · exact l1close_any l hl1 g c base w hl (hown0.lt g rfl).2 hown0
end Go.Proofs.Yteaohgipndmciaa
