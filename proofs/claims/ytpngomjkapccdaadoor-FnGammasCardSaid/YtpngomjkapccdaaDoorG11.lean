/- Texts of one reach, one behind the other: DrPick, Dr6G. What each is about stands in its theorems. -/
import Derived.Test.YtpngomjkapccdaaDoorG4
import Derived.Test.YtpngomjkapccdaaDoorG10
import Derived.Test.YtpngomjkapccdaaDoorG1
import Derived.WalkLawsBesides
namespace Go.Proofs.YtpngomjkapccdaaDoor
set_option linter.unusedVariables false
set_option linter.unusedSimpArgs false
open Go.RowKit

theorem own_only {w w' : World} {base g : Nat} {e : TypeId} {size : Nat} {v : Value} {n : Nat} {xs : List Value} (h : w.ownsRow base e size v n xs) (ho : Only g w w') (hg : g < base) : w'.ownsRow base e size v n xs :=
  h.kept (row := some g) ho (.inr (own_ne h hg).symm)
theorem Cur.grown {w w' : World} {g B : Nat} {row : Option Nat} (h : Cur w g B) (hg : w.grownBy w' row) (hr : ∀ k, row = some k → g < k) : Cur w' g B := by
  have hl := h.lt
  refine h.below (B' := g + 1) ⟨hg.os, hg.tape, hg.output, hg.size, fun i hi => hg.block i (by omega) (fun e => by have := hr i e.symm; omega)⟩ (by omega)
theorem Cur.alloc {w : World} {g B : Nat} (h : Cur w g B) (o : Obj) : Cur (w.alloc o) g B := h.below (B' := w.heap.size) ((Below.refl _ _).alloc (Nat.le_refl _) o) h.lt
theorem Cur.store {w : World} {g B : Nat} (h : Cur w g B) {p : Addr} (hp : g < p.block) (u : Value) : Cur (w.setCell p u) g B := h.below (B' := g + 1) ((Below.refl _ _).setCell hp u) (by omega)
theorem Cur.drew {w : World} {g B : Nat} (h : Cur w g B) : Cur w.drew g B := h
theorem Cur.drewN {w : World} {g B : Nat} (h : Cur w g B) (n : Nat) : Cur (w.drewN n) g B := h

theorem l1PickInt_any (g B gl n c : Nat) (zs : List Int) (w : World) (hcr : Cur w g B) (hn : 0 < n) (hn2 : n ≤ 1000) (hne : gl ≠ g) (hz : ∀ j, j < n → w.cell? ⟨gl, j, none⟩ = some (.int .i64 (zs.getD j 0))) :
    Calls Tryd.prog 32 #[.pointer (some ⟨g, 0, none⟩), .slice (some ⟨gl, 0, none⟩) n c] w fun e w' => ∃ j : Nat, j < n ∧ e = .returned (.int .i64 (zs.getD j 0)) ∧ Cur w' g B ∧ Only g w w' := by
  have hgll : gl < w.heap.size := by have := cell_lt (hz 0 hn); simpa using this
  go_enter Tryd.func32, Tryd.ntmps32
  go_wp2_with fail
  refine (l1Below_any g B _ _ hcr (by omega)).mono ?_
  rintro e w1 ⟨r, rfl, hr0, hr1, _, hc1, hO⟩
  obtain ⟨j, rfl⟩ : ∃ j : Nat, r = j := ⟨r.toNat, by omega⟩
  have hjn : j < n := by have := hr1 (by omega); omega
  have hcj : w1.cell? ⟨gl, j, none⟩ = some (.int .i64 (zs.getD j 0)) := by rw [(ocell hO).1 gl j hgll hne]; exact hz j hjn
  clear hz hr1
  go_wp2
  go_ret
  refine ⟨j, hjn, ?_, hc1, hO⟩
  rw [List.getD_eq_getElem?_getD]
  rfl
end Go.Proofs.YtpngomjkapccdaaDoor
namespace Go.Proofs.YtpngomjkapccdaaDoor
set_option linter.unusedVariables false
set_option linter.unusedSimpArgs false
open Go.RowKit

theorem pick10 (j : Nat) (h : j < 10) : -1 ≤ ([-1, 0, 1, 2, 3, 4, 1048575, 1048576, 524287, 524288] : List Int).getD j 0 ∧ ([-1, 0, 1, 2, 3, 4, 1048575, 1048576, 524287, 524288] : List Int).getD j 0 ≤ 1048576 := by
  rcases j with _ | _ | _ | _ | _ | _ | _ | _ | _ | _ | j <;> first | decide | omega
set_option maxHeartbeats 2000000 in
set_option maxRecDepth 100000 in
theorem l6draw_any (g B : Nat) (w : World) (hc : Cur w g B) :
    Calls Tryd.prog 16 #[.pointer (some ⟨g, 0, none⟩)] w fun e w' => ∃ n : Int, e = .returned (.int .i64 n) ∧ -1 ≤ n ∧ n ≤ 1048576 ∧ Cur w' g B ∧ Only g w w' := by
  have hgl := hc.lt
  go_enter Tryd.func16, Tryd.ntmps16
  go_wp2_with fail
  refine (l1Once_any g B _ _ hc (by omega)).mono ?_
  rintro e wa ⟨b1, rfl, ha, Oa⟩
  have hsa := Oa.size
  have hal := ha.lt
  cases b1
  · go_wp2_with fail
    refine (l1Below_any g B 19 _ ha (by omega)).mono ?_
    rintro e wb ⟨r, rfl, r0, r1, _, hb, Ob⟩
    have r2 := r1 (by omega)
    obtain ⟨q, rfl⟩ : ∃ q : Nat, r = q := ⟨r.toNat, by omega⟩
    have OB := Oa.trans_ Ob
    have hp20 : 2 ^ (1 + q) ≤ 2 ^ 19 := Nat.pow_le_pow_right (by omega) (by omega)
    obtain ⟨p, hp⟩ : ∃ p, 2 ^ (1 + q) = p := ⟨_, rfl⟩
    have hp1 : 0 < p := by rw [← hp]; exact Nat.two_pow_pos _
    obtain ⟨d, hd⟩ : ∃ d, 1 + q = d := ⟨_, rfl⟩
    have hdI : (1 : Int) + (q : Int) = (d : Int) := by omega
    have hwd : Value.int .i64 (wrap64 (2 ^ d)) = Value.int .i64 (p : Int) := by
      rw [show ((2 : Int) ^ d) = ((2 ^ d : Nat) : Int) by simp, ← hd, hp, wrap64_n _ (by omega)]
    rw [hp] at hp20
    clear r1 Oa ha Ob hp hd
    go_wp2_with fail
    refine (l1Below_any g B (p : Int) _ hb (by omega)).mono ?_
    rintro e wc ⟨x, rfl, x0, x1, _, hcc, Oc⟩
    have x2 := x1 (by omega)
    have OC := OB.trans_ Oc
    clear x1 hwd hdI OB hb Oc
    go_wp2
    go_ret
    exact ⟨_, rfl, by omega, by omega, hcc, OC⟩
  · go_wp2_with fail
    refine (l1PickInt_any g B wa.heap.size 10 _ [-1, 0, 1, 2, 3, 4, 1048575, 1048576, 524287, 524288] _ (ha.alloc _) (by omega) (by omega) (by omega) ?_).mono ?_
    · intro j hj
      rw [(Has.fresh wa _ _).cell j]
      rcases j with _ | _ | _ | _ | _ | _ | _ | _ | _ | _ | j <;> first | rfl | omega
    rintro e wb ⟨j, hj, rfl, hb, Ob⟩
    have hpk := pick10 j hj
    have HP := hidden hpk
    have OB := (Oa.alloc (.cells #[.int .i64 (-1), .int .i64 0, .int .i64 1, .int .i64 2, .int .i64 3, .int .i64 4, .int .i64 1048575, .int .i64 1048576, .int .i64 524287, .int .i64 524288] 3)).trans_ Ob
    obtain ⟨x, hx⟩ : ∃ x, ([-1, 0, 1, 2, 3, 4, 1048575, 1048576, 524287, 524288] : List Int).getD j 0 = x := ⟨_, rfl⟩
    rw [hx] at HP ⊢
    clear hpk hx Ob Oa ha
    go_wp2
    go_ret
    exact ⟨x, rfl, HP.out.1, HP.out.2, hb, OB⟩
set_option maxHeartbeats 1000000 in
theorem drawPutGamma_any (a : Option Addr) (len cap : Nat) (zs : List Int) (w : World) (hcode : Code w w.heap.size a len cap zs) :
    Calls Tryd.prog 5 #[.slice a len cap] w fun e w' => ∃ n : Int, e = .returned (.int .i64 n) ∧ -1 ≤ n ∧ n ≤ 1048576 ∧ Below w.heap.size w w' := by
  go_enter Tryd.func5, Tryd.ntmps5
  go_wp2_with fail
  refine (l1New_any a len cap zs _ hcode).mono ?_
  rintro e wa ⟨g, rfl, hcu, Ba⟩
  have hg := hcu.1
  go_wp2_with fail
  refine (l6draw_any g _ _ hcu).mono ?_
  rintro e wb ⟨n, rfl, h1, h2, hb, Ob⟩
  go_wp2
  go_ret
  exact ⟨n, rfl, h1, h2, only_then Ob hg Ba.size Ba⟩
end Go.Proofs.YtpngomjkapccdaaDoor
