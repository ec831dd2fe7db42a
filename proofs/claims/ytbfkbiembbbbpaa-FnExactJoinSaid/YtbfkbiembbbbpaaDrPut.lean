/- DrawPut. -/
import Derived.Test.YtbfkbiembbbbpaaDr7
namespace Go.Proofs.Ytbfkbiembbbbpaa
set_option linter.unusedVariables false
set_option linter.unusedSimpArgs false
open Go.RowKit

theorem pick3 (we : World) (M : Nat) (T : TypeId) : ∀ j, j < 3 → ((we.alloc (.cells #[.int .i64 (-1), .int .i64 (M : Int), .int .i64 (IntKind.i64.wrap ((M : Int) - 1))] T)).drew).cell? ⟨we.heap.size, j, none⟩ = some (.int .i64 (([-1, (M : Int), IntKind.i64.wrap ((M : Int) - 1)] : List Int).getD j 0)) := by
  intro j hj
  rw [((Has.fresh we T #[.int .i64 (-1), .int .i64 (M : Int), .int .i64 (IntKind.i64.wrap ((M : Int) - 1))]).drew).cell j]
  rcases j with _ | _ | _ | j <;> first | rfl | omega
theorem pick3_range (M : Nat) (h1 : 1 ≤ M) (h2 : M ≤ 4294967296) (j : Nat) (hj : j < 3) : -1 ≤ ([-1, (M : Int), IntKind.i64.wrap ((M : Int) - 1)] : List Int).getD j 0 ∧ ([-1, (M : Int), IntKind.i64.wrap ((M : Int) - 1)] : List Int).getD j 0 ≤ 4294967296 := by
  rw [IntWalk.i64_in ((M : Int) - 1) (by omega)]
  rcases j with _ | _ | _ | j <;> simp <;> omega
attribute [local go_sem ↓] Go.wp_at_zero Go.wp_at_succ
set_option maxRecDepth 100000 in
set_option maxHeartbeats 2000000 in
theorem drawPut_any (a : Option Addr) (len cap : Nat) (zs : List Int) (w : World) (hcode : Code w w.heap.size a len cap zs) :
    Calls Try.prog 13 #[.slice a len cap] w fun e w' => ∃ (s : ByteArray) (n v k : Int), e = .returned (.tuple #[.agg #[.string s, .int .i64 n], .int .i64 v, .int .i64 k]) ∧ s.size ≤ 100000 ∧ -1 ≤ n ∧ n ≤ 400000 ∧ -1 ≤ v ∧ v ≤ 4294967296 ∧ -1 ≤ k ∧ k ≤ 33 ∧ Below w.heap.size w w' := by
  have hc0 := hcode.keep (w' := w.alloc (.cells #[.string ⟨#[]⟩, .int .i64 0] 24)) (fun p hp => ((Below.refl w.heap.size w).alloc (Nat.le_refl _) _).cell hp)
  have hc1 : Code (w.alloc (.cells #[.string ⟨#[]⟩, .int .i64 0] 24)) (w.alloc (.cells #[.string ⟨#[]⟩, .int .i64 0] 24)).heap.size a len cap zs := by
    refine ⟨hc0.1, hc0.2.1, fun h => ?_⟩
    obtain ⟨b, off, e, hb, hcc⟩ := hc0.2.2 h
    exact ⟨b, off, e, by simp; omega, hcc⟩
  have hb0 : Below w.heap.size w (w.alloc (.cells #[.string ⟨#[]⟩, .int .i64 0] 24)) := (Below.refl _ _).alloc (Nat.le_refl _) _
  go_enter Try.func13, Try.ntmps13
  go_wp2_with fail
  refine (l1New_any a len cap zs _ hc1).mono ?_
  rintro e wa ⟨g, rfl, hcu, Ba⟩
  have hg := hcu.1
  (try simp at hg)
  have hga := hcu.lt
  have hRa := (Has.fresh w 24 #[.string ⟨#[]⟩, .int .i64 0]).below Ba (by simp)
  have hba : Below w.heap.size w wa := bel_then Ba (by simp) hb0
  clear Ba hb0 hc0 hc1 hcode
  go_wp2_with fail
  refine (l1bits_any g _ _ hcu).mono ?_
  rintro e wb ⟨s, n, rfl, hs, n1, n2, hcb, Ob⟩
  have hRb := Ob.has hRa (by omega)
  have hgb := hcb.lt
  have hbb : Below w.heap.size w wb := hba.trans (Ob.below (by omega) hba.size)
  have hX := Has.fresh wb 24 #[.string s, .int .i64 n]
  have hR := hRb.alloc (.cells #[.string s, .int .i64 n] 24)
  have hcX := hcb.alloc (.cells #[.string s, .int .i64 n] 24)
  have bb := hbb.alloc hbb.size (.cells #[.string s, .int .i64 n] 24)
  have hwb := hRb.lt
  clear hRa hba Ob hRb hcb hbb
  go_wp2_with fail
  refine (l1Below_any g _ 35 _ hcX (by omega)).mono ?_
  rintro e wc ⟨r, rfl, r0, r1, _, hcc, Oc⟩
  have r34 := r1 (by omega)
  have hX2 := Oc.has hX (by omega)
  have hR2 := Oc.has hR (by omega)
  have bc := bb.trans (Oc.below (by omega) bb.size)
  clear hX hR hcX bb Oc r1
  have n12 : ¬ w.heap.size = wb.heap.size := by omega
  have n21 : ¬ wb.heap.size = w.heap.size := by omega
  have x0 := hX2.cell 0
  have x1 := hX2.cell 1
  have e0 := hR2.cell 0
  have e1 := hR2.cell 1
  have g0 := hR2.free 0
  have g1 := hR2.free 1
  simp at x0 x1 e0 e1
  by_cases hbad : r = 0 ∨ r = 34
  · rcases hbad with rfl | rfl
    · go_wp2
      refine bodyPost_ret (v := .tuple #[.agg #[.string s, .int .i64 n], .int .i64 0, .int .i64 (-1)]) (by simp [results, Try.results13, go_sem, e0, e1, g0, g1]) rfl ⟨s, n, 0, -1, rfl, hs, n1, n2, by omega, by omega, by omega, by omega, ?_⟩
      exact (bc.setCell (Nat.le_refl _) _).setCell (Nat.le_refl _) _
    · go_wp2
      refine bodyPost_ret (v := .tuple #[.agg #[.string s, .int .i64 n], .int .i64 0, .int .i64 33]) (by simp [results, Try.results13, go_sem, e0, e1, g0, g1]) rfl ⟨s, n, 0, 33, rfl, hs, n1, n2, by omega, by omega, by omega, by omega, ?_⟩
      exact (bc.setCell (Nat.le_refl _) _).setCell (Nat.le_refl _) _
  · obtain ⟨k, rfl⟩ : ∃ k : Nat, r = ((k + 1 : Nat) : Int) := ⟨(r - 1).toNat, by omega⟩
    have hk : k ≤ 32 := by omega
    have hk2 : 2 ^ k ≤ 2 ^ 32 := Nat.pow_le_pow_right (by omega) hk
    have hk3 : 0 < 2 ^ k := Nat.two_pow_pos k
    obtain ⟨M, hM, hMI, M1, M2⟩ : ∃ M : Nat, wrap64 (2 ^ k) = (M : Int) ∧ IntKind.i64.wrap (2 ^ k) = (M : Int) ∧ 1 ≤ M ∧ M ≤ 4294967296 :=
      ⟨2 ^ k, by rw [show ((2 : Int) ^ k) = ((2 ^ k : Nat) : Int) by simp]; exact wrap64_n _ (by omega), by rw [show ((2 : Int) ^ k) = ((2 ^ k : Nat) : Int) by simp]; exact wrap_i64_n _ (by omega), by omega, by omega⟩
    clear hbad hk2 hk3 r0 r34
    go_wp2_with fail
    refine (l1Below_any g _ (M : Int) _ hcc (by omega)).mono ?_
    rintro e wd ⟨v, rfl, v0, v1, _, hcd, Od⟩
    have v2 := v1 (by omega)
    have hX3 := Od.has hX2 (by omega)
    have hR3 := Od.has hR2 (by omega)
    have bd := bc.trans (Od.below (by omega) bc.size)
    clear v1 hcc hX2 hR2 bc Od x0 x1 e0 e1 g0 g1
    go_wp2_with fail
    refine (l1Once_any g _ 8 _ hcd (by omega)).mono ?_
    rintro e we ⟨on, rfl, hce, Oe⟩
    have hX4 := Oe.has hX3 (by omega)
    have hR4 := Oe.has hR3 (by omega)
    have be := bd.trans (Oe.below (by omega) bd.size)
    have hge := hce.lt
    clear hX3 hR3 hcd bd Oe
    cases on
    · have x0 := hX4.cell 0
      have x1 := hX4.cell 1
      have e0 := hR4.cell 0
      have e1 := hR4.cell 1
      have g0 := hR4.free 0
      have g1 := hR4.free 1
      simp at x0 x1 e0 e1
      go_wp2
      refine bodyPost_ret (v := .tuple #[.agg #[.string s, .int .i64 n], .int .i64 v, .int .i64 k]) (by simp [results, Try.results13, go_sem, e0, e1, g0, g1]) rfl ⟨s, n, v, k, rfl, hs, n1, n2, by omega, by omega, by omega, by omega, ?_⟩
      exact (be.setCell (Nat.le_refl _) _).setCell (Nat.le_refl _) _
    · go_wp2
      have hz := pick3 we M 3
      have hpk := fun j hj => pick3_range M M1 M2 j hj
      go_region_with (go_at_call 42; refine (l1PickInt_any g _ we.heap.size 3 3 [-1, (M : Int), IntKind.i64.wrap ((M : Int) - 1)] _ (hce.alloc _).drew (by omega) (by omega) (by omega) hz).mono ?_; rintro e wf ⟨j, hj, rfl, hcf, Of⟩; have hxb := hpk j hj; obtain ⟨x, hx⟩ : ∃ x, ([-1, (M : Int), IntKind.i64.wrap ((M : Int) - 1)] : List Int).getD j 0 = x := ⟨_, rfl⟩; rw [hx] at hxb ⊢; clear hx hz hpk)
      all_goals
        have hX5 := Of.has ((hX4.alloc (.cells #[Value.int IntKind.i64 (-1), Value.int IntKind.i64 (M : Int), Value.int IntKind.i64 (IntKind.i64.wrap ((M : Int) - 1))] 3)).drew) (by omega)
        have hR5 := Of.has ((hR4.alloc (.cells #[Value.int IntKind.i64 (-1), Value.int IntKind.i64 (M : Int), Value.int IntKind.i64 (IntKind.i64.wrap ((M : Int) - 1))] 3)).drew) (by omega)
        have bz := be.alloc be.size (.cells #[Value.int IntKind.i64 (-1), Value.int IntKind.i64 (M : Int), Value.int IntKind.i64 (IntKind.i64.wrap ((M : Int) - 1))] 3)
        have bf := bz.drew.trans (Of.below (by omega) bz.drew.size)
        have x0 := hX5.cell 0
        have x1 := hX5.cell 1
        have e0 := hR5.cell 0
        have e1 := hR5.cell 1
        have g0 := hR5.free 0
        have g1 := hR5.free 1
        simp at x0 x1 e0 e1
        clear hX4 hR4 hX5 hR5 be bz Of
        go_wp2
        refine bodyPost_ret (v := .tuple #[.agg #[.string s, .int .i64 n], .int .i64 x, .int .i64 k]) (by simp [results, Try.results13, go_sem, e0, e1, g0, g1]) rfl ⟨s, n, x, k, rfl, hs, n1, n2, hxb.1, hxb.2, by omega, by omega, ?_⟩
        exact (Below.setCell (Below.setCell ⟨bf.os, bf.tape, bf.output, bf.size, bf.block⟩ (Nat.le_refl _) _) (Nat.le_refl _) _)
end Go.Proofs.Ytbfkbiembbbbpaa
