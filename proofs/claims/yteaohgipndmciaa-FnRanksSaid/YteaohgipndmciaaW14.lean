/- Merged: WRanks. -/
import Derived.Test.YteaohgipndmciaaW13
import Derived.Test.YteaohgipndmciaaW7
import Derived.Test.YteaohgipndmciaaW9
namespace Go.Proofs.Yteaohgipndmciaa
set_option linter.unusedVariables false
set_option linter.unusedSimpArgs false
open Go.RowKit

theorem rk_fr {S O : List Nat} (h : rkOk S O = true) : (rkL S O).length = S.length ∧ frOk (rkL S O) O = true ∧ frL (rkL S O) O = S := by
  have h2 := (rkOk_iff S O).1 h
  have hL : rkL S O = S.map fun b => (O.idxOf b : Int) := by
    unfold rkL rkTo
    rw [if_pos h, List.take_length]
  have hlen : (rkL S O).length = S.length := by rw [hL, List.length_map]
  have hok : frOk (rkL S O) O = true := by
    rw [frOk_iff]
    refine ⟨by omega, h2.2.1, ?_⟩
    intro x hx
    rw [hL, List.mem_map] at hx
    obtain ⟨b, hb, rfl⟩ := hx
    have := List.idxOf_lt_length_of_mem (h2.2.2 b hb)
    omega
  refine ⟨hlen, hok, ?_⟩
  unfold frL frTo
  rw [if_pos hok, List.take_length, hL, List.map_map]
  conv => rhs; rw [← List.map_id S]
  apply List.map_congr_left
  intro b hb
  have hi := List.idxOf_lt_length_of_mem (h2.2.2 b hb)
  simp [List.getD_eq_getElem?_getD, hi]
theorem rk_range {S O : List Nat} (hO : O.length ≤ 1048576) (hS : S.length ≤ 1048576) : (rkL S O).length ≤ 1048576 ∧ ∀ x ∈ rkL S O, -9223372036854775808 ≤ x ∧ x ≤ 9223372036854775807 := by
  unfold rkL
  by_cases h : rkOk S O = true
  · rw [if_pos h]
    have h2 := (rkOk_iff S O).1 h
    unfold rkTo
    rw [List.take_length]
    refine ⟨by rw [List.length_map]; exact hS, ?_⟩
    intro x hx
    rw [List.mem_map] at hx
    obtain ⟨b, hb, rfl⟩ := hx
    have := List.idxOf_lt_length_of_mem (h2.2.2 b hb)
    omega
  · rw [if_neg h]; simp
set_option maxHeartbeats 2000000 in
set_option maxRecDepth 100000 in
theorem walk_FnRanks (w : World) (a0 : Option Addr) (len0 cap0 : Nat) (z0 : List Int) (w0 : IsRow .u8 w a0 len0 cap0 z0) :
    Calls Try.prog 5 #[.slice a0 len0 cap0] w fun e w' => e = .returned (.bool true) ∧ Below w.heap.size w w' := by
  have hcode := Code.ofRow w0
  have KL := hidden letters_any
  clear w0
  go_enter Try.func5, Try.ntmps5
  go_wp2_with fail
  refine (drawToRanks_any _ _ _ _ _ hcode).mono ?_
  rintro e wa ⟨s, o, rfl, hs, ho, Ba⟩
  clear hcode
  have KI := hidden (fun W => implToRanks_any s o W (by omega) (by omega))
  have KS := hidden (fun W => specToRanks_any s o W (by omega) (by omega))
  have hrr := hidden (rk_range (S := bytesOf s) (O := bytesOf o) (by rw [bytesOf_len]; omega) (by rw [bytesOf_len]; omega))
  by_cases hok : rkOk (bytesOf s) (bytesOf o) = true
  · obtain ⟨r1, r2, r3⟩ := rk_fr hok
    rw [bytesOf_len] at r1
    have KF : Hid (∀ (a : Option Addr) (c B : Nat) (W : World), Ints W B a (rkL (bytesOf s) (bytesOf o)) → B ≤ W.heap.size → Calls Try.prog 31 #[.slice a s.size c, .string o] W fun e w' => e = .returned (.tuple #[.string s, .bool true]) ∧ Below W.heap.size W w') := hidden fun a c B W hz hB => by
      have := implFromRanks_any a c B (rkL (bytesOf s) (bytesOf o)) o W hz hB hrr.out.1 (by omega)
      rw [r1, r2, r3, strOf_bytesOf] at this
      exact this
    rw [hok] at KI KS
    rw [r1] at KI KS
    have hrr2 := hidden hrr.out.2
    clear hrr hok r1 r2 r3
    generalize rkL (bytesOf s) (bytesOf o) = Z at KI KS KF hrr2
    go_wp2_with fail
    refine (KI.out _).mono ?_
    rintro e wb ⟨v, rfl, hown, Bb⟩
    obtain ⟨a, c, rfl⟩ := own_shape hown
    have hI := hidden (Ints.ofOwn hown (by omega) hrr2.out).2
    have bW := Ba.trans (Bb.mono Ba.size)
    clear hown Ba Bb
    go_wp2_with fail
    refine (KS.out _).mono ?_
    rintro e wc ⟨v2, rfl, hown2, Bc⟩
    replace hI := hidden (hI.out.below Bc)
    have bC := Bc.size
    replace bW := bW.trans (Bc.mono bW.size)
    clear hown2 Bc
    go_wp2_with fail
    refine (KF.out _ _ _ _ hI.out bC).mono ?_
    rintro e wd ⟨rfl, Bd⟩
    replace bW := bW.trans (Bd.mono bW.size)
    clear Bd hI bC
    go_wp2_with fail
    refine (KL.out _).mono ?_
    rintro e we ⟨rfl, Be⟩
    replace bW := bW.trans (Be.mono bW.size)
    go_wp2
    go_ret
    exact ⟨rfl, bW⟩
  · have hno := bool_false hok
    have h0 : (rkL (bytesOf s) (bytesOf o)).length = 0 := by unfold rkL; rw [if_neg hok]; rfl
    rw [hno, h0] at KI KS
    clear hrr hok hno h0
    go_wp2_with fail
    refine (KI.out _).mono ?_
    rintro e wb ⟨v, rfl, hown, Bb⟩
    obtain ⟨a, c, rfl⟩ := own_shape hown
    have bW := Ba.trans (Bb.mono Ba.size)
    clear hown Ba Bb
    go_wp2_with fail
    refine (KS.out _).mono ?_
    rintro e wc ⟨v2, rfl, hown2, Bc⟩
    replace bW := bW.trans (Bc.mono bW.size)
    clear hown2 Bc
    go_wp2_with fail
    refine (KL.out _).mono ?_
    rintro e we ⟨rfl, Be⟩
    replace bW := bW.trans (Be.mono bW.size)
    go_wp2
    go_ret
    exact ⟨rfl, bW⟩
end Go.Proofs.Yteaohgipndmciaa
