/- Chapter 2: the walks of the laws over steps and over parts. -/
import Derived.Test.YtbfkbiembbbbpaaDrCrc
import Derived.Test.YtbfkbiembbbbpaaMarks
import Derived.Deep.RegionHeld3
import Derived.Deep.DrawnRows
namespace Go.Proofs.Ytbfkbiembbbbpaa
set_option linter.unusedVariables false
set_option linter.unusedSimpArgs false
open Go.RowKit

theorem entI_top (m b : Nat) (hm : m < 4294967296) (hb : b < 256) : entI (top m b : Int) = (entry (top m b) : Int) := entI_yes _ (top_lt m b hm hb)
theorem top_i64 (m b : Nat) (hm : m < 4294967296) (hb : b < 256) : bits .xor .i64 ((m : Int) / 16777216) (b : Int) = (top m b : Int) :=
  (congrArg (fun z => bits .xor .i64 z (b : Int)) (show ((m : Int) / 16777216) = ((m / 16777216 : Nat) : Int) by omega)).trans (i64_xor_nat (m / 16777216) b (by omega) (by omega))
theorem step_i64 (m b : Nat) (hm : m < 4294967296) (hb : b < 256) : bits .xor .i64 (bits .and .i64 ((m : Int) * 256) 4294967295) (entry (top m b) : Int) = (step m b : Int) := by
  rw [mask32, step_table m b hm hb]
  exact (congrArg (fun z => bits .xor .i64 z (entry (top m b) : Int)) (show ((m : Int) * 256 % 4294967296) = ((m * 256 % 4294967296 : Nat) : Int) by omega)).trans (i64_xor_nat _ _ (by omega) (Nat.lt_trans (entry_lt _ (top_lt m b hm hb)) (by omega)))
set_option maxHeartbeats 2000000 in
set_option maxRecDepth 100000 in
theorem walk_FnEntries (w : World) (a0 : Option Addr) (len0 cap0 : Nat) (z0 : List Int) (w0 : IsRow .u8 w a0 len0 cap0 z0) :
    Calls Try.prog 6 #[.slice a0 len0 cap0] w fun e w' => e = .returned (.bool true) ∧ Below w.heap.size w w' := by
  have hcode := Code.ofRow w0
  clear w0
  go_enter Try.func6, Try.ntmps6
  go_wp2_with fail
  refine (drawCrcStep_any _ _ _ _ _ hcode).mono ?_
  rintro e wa ⟨m, b, rfl, m1, m2, b1, b2, Ba⟩
  by_cases hv : (0 ≤ m ∧ m ≤ 4294967295) ∧ 0 ≤ b ∧ b ≤ 255
  · obtain ⟨m, rfl⟩ : ∃ q : Nat, m = q := ⟨m.toNat, by omega⟩
    obtain ⟨b, rfl⟩ : ∃ q : Nat, b = q := ⟨b.toNat, by omega⟩
    have hm : m < 4294967296 := by omega
    have hb : b < 256 := by omega
    have ht := top_lt m b hm hb
    have hst := step_lt m b hm hb
    clear hv m1 m2 b1 b2
    have htop := top_i64 m b hm hb
    have hstep := step_i64 m b hm hb
    go_wp2_with (first | (go_at_call 28; refine (implCrcStep_any m b _ (by omega) (by omega) (by omega) (by omega)).mono ?_; rintro e w' ⟨rfl, rfl⟩; rw [stepI_yes m b hm hb]) | (go_at_call 29; refine (implCrcEntry_any _ _ (by omega) (by omega)).mono ?_; rintro e w' ⟨rfl, rfl⟩; rw [entI_top m b hm hb]) | (go_at_call 30; refine (specCrcStep_yes m b _ hm hb).mono ?_; rintro e w' ⟨rfl, rfl⟩) | (go_at_call 26; refine (marks_any _).mono ?_; rintro e w1 ⟨rfl, B1⟩))
    go_ret
    exact ⟨rfl, Ba.trans (B1.mono Ba.size)⟩
  · by_cases c1 : m < 0
    · go_wp2_with (first | (go_at_call 28; refine (implCrcStep_any m b _ (by omega) (by omega) (by omega) (by omega)).mono ?_; rintro e w' ⟨rfl, rfl⟩; rw [stepI_no m b hv]) | (go_at_call 26; refine (marks_any _).mono ?_; rintro e w1 ⟨rfl, B1⟩))
      go_ret
      exact ⟨rfl, Ba.trans (B1.mono Ba.size)⟩
    · by_cases c2 : 4294967295 < m
      · go_wp2_with (first | (go_at_call 28; refine (implCrcStep_any m b _ (by omega) (by omega) (by omega) (by omega)).mono ?_; rintro e w' ⟨rfl, rfl⟩; rw [stepI_no m b hv]) | (go_at_call 26; refine (marks_any _).mono ?_; rintro e w1 ⟨rfl, B1⟩))
        go_ret
        exact ⟨rfl, Ba.trans (B1.mono Ba.size)⟩
      · by_cases c3 : b < 0
        · go_wp2_with (first | (go_at_call 28; refine (implCrcStep_any m b _ (by omega) (by omega) (by omega) (by omega)).mono ?_; rintro e w' ⟨rfl, rfl⟩; rw [stepI_no m b hv]) | (go_at_call 26; refine (marks_any _).mono ?_; rintro e w1 ⟨rfl, B1⟩))
          go_ret
          exact ⟨rfl, Ba.trans (B1.mono Ba.size)⟩
        · have c4 : 255 < b := by omega
          have HV := hidden hv
          clear hv
          go_wp2_with (first | (go_at_call 28; refine (implCrcStep_any m b _ (by omega) (by omega) (by omega) (by omega)).mono ?_; rintro e w' ⟨rfl, rfl⟩; rw [stepI_no m b HV.out]) | (go_at_call 26; refine (marks_any _).mono ?_; rintro e w1 ⟨rfl, B1⟩))
          go_ret
          exact ⟨rfl, Ba.trans (B1.mono Ba.size)⟩
end Go.Proofs.Ytbfkbiembbbbpaa
