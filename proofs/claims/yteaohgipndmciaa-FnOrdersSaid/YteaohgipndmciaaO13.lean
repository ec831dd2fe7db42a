/- Merged: Lett. -/
import Derived.Test.YteaohgipndmciaaO12
import Derived.Test.YteaohgipndmciaaO9
import Derived.Test.YteaohgipndmciaaO3
namespace Go.Proofs.Yteaohgipndmciaa
set_option linter.unusedVariables false
set_option linter.unusedSimpArgs false
open Go.RowKit

theorem lett_cab : strOf (usedL (bytesOf ⟨#[99, 97, 98]⟩)) = ⟨#[97, 98, 99]⟩ := by decide +kernel
theorem lett_ranked : Ranked (bytesOf ⟨#[97, 98, 98]⟩) [98, 97] := by
  have hb : bytesOf ⟨#[97, 98, 98]⟩ = [97, 98, 98] := by decide +kernel
  rw [hb]
  refine ⟨?_, fun b => by simp; omega⟩
  simp [befC]
theorem lett_ba : strOf [98, 97] = ⟨#[98, 97]⟩ := by decide +kernel
theorem lett_ok : ordOk (bytesOf ⟨#[98, 97]⟩) = true := by decide +kernel
theorem lett_no : ordOk (bytesOf ⟨#[97, 97]⟩) = false := by decide +kernel
theorem lett_rk : rkOk (bytesOf ⟨#[98, 97]⟩) (bytesOf ⟨#[97, 98]⟩) = true := by decide +kernel
theorem lett_rl : rkL (bytesOf ⟨#[98, 97]⟩) (bytesOf ⟨#[97, 98]⟩) = [1, 0] := by decide +kernel
theorem lit10 (w : World) : Ints (w.alloc (.cells #[.int .i64 1, .int .i64 0] 3)) (w.heap.size + 1) (some ⟨w.heap.size, 0, none⟩) [1, 0] := Ints.lit w [1, 0] (by decide) (by decide)
theorem same2 (a a2 : Addr) (c c2 B : Nat) (x y : Int) (w : World) (h : Ints w B (some a) [x, y]) (h2 : Ints w B (some a2) [x, y]) :
    Calls Try.prog 64 #[.slice (some a) 2 c, .slice (some a2) 2 c2] w fun e w' => e = .returned (.bool true) ∧ Below w.heap.size w w' := by
  have := sameInts_any (some a) (some a2) c c2 B [x, y] [x, y] w h h2
  rw [decide_eq_true rfl] at this
  exact this
set_option maxHeartbeats 1000000 in
set_option maxRecDepth 100000 in
theorem letters_any (w : World) : Calls Try.prog 17 #[] w fun e w' => e = .returned (.bool true) ∧ Below w.heap.size w w' := by
  have K1 := hidden (fun W => implToRanks_any ⟨#[98, 97]⟩ ⟨#[97, 98]⟩ W (by decide) (by decide))
  rw [lett_rk, lett_rl] at K1
  have K2 := hidden (fun W => implUsed_any ⟨#[99, 97, 98]⟩ W (by decide))
  rw [lett_cab] at K2
  have K3 := hidden (fun W => implByCount_any ⟨#[97, 98, 98]⟩ W (by decide))
  have K3' : Hid (∀ W : World, Calls Try.prog 24 #[.string ⟨#[97, 98, 98]⟩] W fun e w' => e = .returned (.string ⟨#[98, 97]⟩) ∧ Below W.heap.size W w') := hidden fun W => (K3.out W).mono fun e w' ⟨R, hR, he, hb⟩ => by
    rw [ranked_unique hR lett_ranked, lett_ba] at he
    exact ⟨he, hb⟩
  have K4 := hidden (fun W => implOrderOk_any ⟨#[98, 97]⟩ W (by decide))
  rw [lett_ok] at K4
  have K5 := hidden (fun W => implOrderOk_any ⟨#[97, 97]⟩ W (by decide))
  rw [lett_no] at K5
  clear K3
  go_enter Try.func17, Try.ntmps17
  go_wp2_with fail
  refine (K1.out _).mono ?_
  rintro e w1 ⟨v, rfl, hown, b1⟩
  obtain ⟨gv, cv, rfl⟩ := Joins.ownsRow_form hown (by decide)
  have hI := hidden (Ints.ofOwn hown (by decide) (by decide)).2
  clear hown
  go_wp2_with fail
  refine (K2.out _).mono ?_
  rintro e w2 ⟨rfl, b2⟩
  have bb2 := b1.trans (b2.mono b1.size)
  replace hI := hidden (hI.out.below b2)
  have s12 := b2.size
  clear b1 b2
  go_wp2_with fail
  refine (K3'.out _).mono ?_
  rintro e w3 ⟨rfl, b3⟩
  have bb3 := bb2.trans (b3.mono bb2.size)
  have s23 := b3.size
  replace hI := hidden (hI.out.below (b3.mono s12))
  clear bb2 b3
  go_wp2_with fail
  refine (same2 _ _ _ _ (w3.heap.size + 1) 1 0 _ ?_ ?_).mono ?_
  · exact (hI.out.below ((Below.refl _ _).alloc (by omega) _)).mono (by omega)
  · exact lit10 _
  rintro e w4 ⟨rfl, b4⟩
  have bb4 := bel_then b4 (by have := bb3.size; simp; omega) (bb3.alloc bb3.size _)
  clear b4 bb3 hI
  go_wp2_with fail
  refine (K4.out _).mono ?_
  rintro e w5 ⟨rfl, b5⟩
  have bb5 := bb4.trans (b5.mono bb4.size)
  clear b5 bb4
  go_wp2_with fail
  refine (K5.out _).mono ?_
  rintro e w6 ⟨rfl, b6⟩
  have bb6 := bb5.trans (b6.mono bb5.size)
  go_wp2
  go_ret
  exact ⟨rfl, bb6⟩
end Go.Proofs.Yteaohgipndmciaa
