/- Merged: WUsed. -/
import Derived.Test.YteaohgipndmciaaV15
import Derived.Test.YteaohgipndmciaaV9
import Derived.Test.YteaohgipndmciaaV16
import Derived.Test.YteaohgipndmciaaV8
namespace Go.Proofs.Yteaohgipndmciaa
set_option linter.unusedVariables false
set_option linter.unusedSimpArgs false
open Go.RowKit

theorem bytesOf_append (s t : ByteArray) : bytesOf (s ++ t) = bytesOf s ++ bytesOf t := by
  unfold bytesOf
  rw [ByteArray.data_append, Array.toList_append, List.map_append]
theorem used_twice (l : List Nat) : usedL (l ++ l) = usedL l := by
  unfold usedL usedTo
  apply List.filter_congr
  intro b _
  rw [List.count_append]
  exact decide_eq_decide.2 (by omega)
theorem used_back {u : ByteArray} {D : List Nat} (hu : u.size ≤ 1000) (hok : setOk (bytesOf u) = true) (hD : Packs D (usedBits (bytesOf u))) : (strOf D).size ≤ 1048576 ∧ getU (strOf D) 0 = some (bytesOf u, (usedBits (bytesOf u)).length) := by
  have hl := usedBits_len (bytesOf u)
  have hp := packs_ok hD (by omega)
  have hz : (strOf D).size = ((usedBits (bytesOf u)).length + 7) / 8 := by rw [strOf_size, hD.len]
  have := getU_put (s := strOf D) (a := 0) (byt_bytesOf u) hok (by omega) hp.2
  rw [Nat.zero_add] at this
  exact ⟨by omega, this⟩
set_option maxHeartbeats 2000000 in
set_option maxRecDepth 100000 in
theorem walk_FnUsed (w : World) (a0 : Option Addr) (len0 cap0 : Nat) (z0 : List Int) (w0 : IsRow .u8 w a0 len0 cap0 z0) :
    Calls Try.prog 3 #[.slice a0 len0 cap0] w fun e w' => e = .returned (.bool true) ∧ Below w.heap.size w w' := by
  have hcode := Code.ofRow w0
  have KL := hidden letters_any
  clear w0
  go_enter Try.func3, Try.ntmps3
  go_wp2_with fail
  refine (drawPutUsed_any _ _ _ _ _ hcode).mono ?_
  rintro e wa ⟨u, rfl, hu, Ba⟩
  have ba := Ba.size
  clear hcode
  by_cases hok : setOk (bytesOf u) = true
  · have KI := hidden (fun W => implPutUsed_yes u W (by omega) hok)
    have KS := hidden (fun W => specPutUsed_yes u W (by omega) hok)
    have KG : Hid (∀ (D : List Nat) (W : World), Packs D (usedBits (bytesOf u)) → Calls Try.prog 18 #[.agg #[.string (strOf D), .int .i64 0]] W fun e w' => e = .returned (.tuple #[.string u, .agg #[.string (strOf D), .int .i64 ((usedBits (bytesOf u)).length : Int)], .bool true]) ∧ Below W.heap.size W w') := hidden fun D W hD => by
      obtain ⟨h1, h2⟩ := used_back (by omega) hok hD
      refine Calls.mono (implGetUsed_any (strOf D) 0 W h1 (Nat.zero_le _)) ?_
      intro e w' hp
      have h3 := gg7_yes hp h2
      rw [strOf_bytesOf] at h3
      exact h3
    have KU : Hid (∀ (W : World), Calls Try.prog 19 #[.string (u ++ u)] W fun e w' => e = .returned (.string u) ∧ Below W.heap.size W w') := hidden fun W => by
      have := implUsed_any (u ++ u) W (by rw [ByteArray.size_append]; omega)
      rw [bytesOf_append, used_twice, ((setOk_iff _).1 hok).2, strOf_bytesOf] at this
      exact this
    obtain ⟨L, hL⟩ : ∃ L, usedBits (bytesOf u) = L := ⟨_, rfl⟩
    obtain ⟨N, hN⟩ : ∃ N, L.length = N := ⟨_, rfl⟩
    rw [hL, hN] at KI KS KG
    clear hok hL hN
    go_wp2_with fail
    refine (KI.out _).mono ?_
    rintro e wb ⟨D, hD, rfl, Bb⟩
    have HD := hidden hD
    have Bw := Ba.trans (Bb.mono ba)
    have hB := Has.fresh wb 25 #[.string (strOf D), .int .i64 (N : Int)]
    have bB := Bw.alloc Bw.size (.cells #[.string (strOf D), .int .i64 (N : Int)] 25)
    clear Ba Bb hD Bw
    go_wp2_with fail
    refine (KS.out _).mono ?_
    rintro e wc ⟨D2, hD2, rfl, Bc⟩
    have bc := Bc.size
    simp at bc
    have hB5 := (hB.below Bc (by simp)).alloc (.cells #[.string (strOf D2), .int .i64 (N : Int)] 25)
    have bw5 := bel_then Bc bB.size bB
    have bW5 := bw5.alloc bw5.size (.cells #[.string (strOf D2), .int .i64 (N : Int)] 25)
    have e0 := hB5.cell 0
    simp at e0
    clear hB bB Bc bw5 hD2
    go_wp2_with fail
    refine (KG.out D _ HD.out).mono ?_
    rintro e wd ⟨rfl, Bd⟩
    have bd := Bd.size
    simp at bd
    have hB6 := (hB5.below Bd (by simp; omega)).alloc (.cells #[.string (strOf D), .int .i64 (N : Int)] 30)
    have hR6 := Has.fresh wd 30 #[.string (strOf D), .int .i64 (N : Int)]
    have bw6 := bel_then Bd bW5.size bW5
    have bW6 := bw6.alloc bw6.size (.cells #[.string (strOf D), .int .i64 (N : Int)] 30)
    have f1 := hB6.cell 1
    have g1 := hR6.cell 1
    simp at f1 g1
    clear hB5 hB6 hR6 bw6 bW5 Bd e0
    go_wp2_with fail
    refine (KU.out _).mono ?_
    rintro e we ⟨rfl, Be⟩
    have bw7 := bel_then Be bW6.size bW6
    clear Be bW6 f1 g1
    go_wp2_with fail
    refine (KL.out _).mono ?_
    rintro e wf ⟨rfl, Bf⟩
    have bw8 := bel_then Bf bw7.size bw7
    go_wp2
    go_ret
    exact ⟨rfl, bw8⟩
  · have hno := bool_false hok
    have KI := hidden (fun W => implPutUsed_no u W (by omega) hno)
    have KS := hidden (fun W => specPutUsed_no u W (by omega) hno)
    clear hok hno
    go_wp2_with fail
    refine (KI.out _).mono ?_
    rintro e wb ⟨rfl, Bb⟩
    have Bw := Ba.trans (Bb.mono ba)
    have hB := Has.fresh wb 25 #[.string ⟨#[]⟩, .int .i64 0]
    have bB := Bw.alloc Bw.size (.cells #[.string ⟨#[]⟩, .int .i64 0] 25)
    clear Ba Bb Bw
    go_wp2_with fail
    refine (KS.out _).mono ?_
    rintro e wc ⟨rfl, Bc⟩
    have bc := Bc.size
    simp at bc
    have hB5 := (hB.below Bc (by simp)).alloc (.cells #[.string ⟨#[]⟩, .int .i64 0] 25)
    have bw5 := bel_then Bc bB.size bB
    have bW5 := bw5.alloc bw5.size (.cells #[.string ⟨#[]⟩, .int .i64 0] 25)
    have e1 := hB5.cell 1
    simp at e1
    clear hB bB Bc bw5 hB5
    go_wp2_with fail
    refine (KL.out _).mono ?_
    rintro e wf ⟨rfl, Bf⟩
    have bw8 := bel_then Bf bW5.size bW5
    go_wp2
    go_ret
    exact ⟨rfl, bw8⟩
end Go.Proofs.Yteaohgipndmciaa
