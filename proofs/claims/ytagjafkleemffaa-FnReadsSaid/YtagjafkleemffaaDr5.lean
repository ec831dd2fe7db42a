/- DrawGet. -/
import Derived.Test.YtagjafkleemffaaDr4
import Derived.Deep.RegionHeld3
namespace Go.Proofs.Ytagjafkleemffaa
set_option linter.unusedVariables false
set_option linter.unusedSimpArgs false
open Go.RowKit

attribute [local go_sem ↓] Go.wp_at_zero Go.wp_at_succ
set_option maxRecDepth 100000 in
set_option maxHeartbeats 2000000 in
theorem drawGet_any (a : Option Addr) (len cap : Nat) (zs : List Int) (w : World) (hcode : Code w w.heap.size a len cap zs) :
    Calls Try.prog 30 #[.slice a len cap] w fun e w' => ∃ (s : ByteArray) (at0 n : Int), e = .returned (.tuple #[.agg #[.string s, .int .i64 at0], .int .i64 n]) ∧ s.size ≤ 11 ∧ -1 ≤ at0 ∧ at0 ≤ 100 ∧ -1 ≤ n ∧ n ≤ 33 ∧ Below w.heap.size w w' := by
  have hc0 : Code (w.alloc (.cells #[.string ⟨#[]⟩, .int .i64 0] 31)) (w.alloc (.cells #[.string ⟨#[]⟩, .int .i64 0] 31)).heap.size a len cap zs := by
    have := hcode.below ((Below.refl w.heap.size w).alloc (Nat.le_refl _) (.cells #[.string ⟨#[]⟩, .int .i64 0] 31))
    refine ⟨this.1, this.2.1, fun h => ?_⟩
    obtain ⟨b, off, e, hb, hcc⟩ := this.2.2 h
    exact ⟨b, off, e, by simp; omega, hcc⟩
  have hb0 : Below w.heap.size w (w.alloc (.cells #[.string ⟨#[]⟩, .int .i64 0] 31)) := (Below.refl _ _).alloc (Nat.le_refl _) _
  go_enter Try.func30, Try.ntmps30
  go_wp2_with fail
  refine (l1New_any a len cap zs _ hc0).mono ?_
  rintro e wa ⟨g, rfl, hcu, Ba⟩
  have hg := hcu.1
  (try simp at hg)
  have hga := hcu.lt
  have hRa := (Has.fresh w 31 #[.string ⟨#[]⟩, .int .i64 0]).below Ba (by simp)
  have hba : Below w.heap.size w wa := bel_then Ba (by simp) hb0
  clear Ba hb0 hc0
  go_wp2_with fail
  refine (l1rd_any g _ _ hcu).mono ?_
  rintro e wb ⟨s, at0, rfl, hs, h1, h2, hcb, Ob⟩
  have hRb := Ob.has hRa (by omega)
  have hgb := hcb.lt
  have hbb : Below w.heap.size w wb := hba.trans (Ob.below (by omega) hba.size)
  have y0 := hRb.cell 0
  have y1 := hRb.cell 1
  have yf0 := hRb.free 0
  have yf1 := hRb.free 1
  simp at y0 y1
  have hX := Has.fresh wb 31 #[.string s, .int .i64 at0]
  have hR := hRb.alloc (.cells #[.string s, .int .i64 at0] 31)
  have hcX := hcb.alloc (.cells #[.string s, .int .i64 at0] 31)
  have bb := hbb.alloc hbb.size (.cells #[.string s, .int .i64 at0] 31)
  have e0 := hR.cell 0
  have e1 := hR.cell 1
  have g0 := hR.free 0
  have g1 := hR.free 1
  have hwb := hRb.lt
  simp at e0 e1
  have n1 : ¬ w.heap.size = g := by omega
  have n2 : ¬ wb.heap.size = g := by omega
  have n3 : ¬ w.heap.size = wb.heap.size := by omega
  have n4 : ¬ wb.heap.size = w.heap.size := by omega
  clear hRa hba Ob hRb hbb hcb
  go_wp2
  go_region_with (go_at_call 48; refine (l1Below_any g _ _ _ (by repeat (first | exact hcX | apply Cur.drew | refine Cur.store ?_ (by (try simp); (try omega)) _)) (by omega)).mono ?_; rintro e w1 ⟨n, rfl, hn0, hn1, _, hc1, hO⟩; obtain ⟨hcO, hfO⟩ := ocell hO; have sz := hO.size; (try simp at sz); have hn34 : n ≤ 34 := by (have := hn1 (by omega); omega))
  all_goals
    go_wp2
    have hR1 := hO.has hR.drew (by omega)
    have z0 := hR1.cell 0
    have z1 := hR1.cell 1
    have q0 := hR1.free 0
    have q1 := hR1.free 1
    simp at z0 z1
    have hwn : IntKind.i64.wrap (n - 1) = n - 1 := IntWalk.i64_in _ (by omega)
    refine bodyPost_ret (v := .tuple #[.agg #[.string s, .int .i64 at0], .int .i64 (n - 1)]) ?_ rfl ⟨s, at0, n - 1, rfl, hs, h1, h2, by omega, by omega, ?_⟩
    · simp [results, Try.results30, go_sem, z0, z1, q0, q1, hwn]
    · repeat (first | exact Below.refl _ _ | assumption | refine Below.alloc ?_ (by (try simp); (try omega)) _ | refine Below.setCell ?_ (by (try simp); (try omega)) _ | refine Below.drew ?_ | refine bel_then (by assumption) (by (try simp); (try omega)) ?_ | refine only_then (by assumption) (by (try simp); (try omega)) (by (try simp); (try omega)) ?_ | refine bel_thenB (by assumption) (by (try simp); (try omega)) ?_)
end Go.Proofs.Ytagjafkleemffaa
