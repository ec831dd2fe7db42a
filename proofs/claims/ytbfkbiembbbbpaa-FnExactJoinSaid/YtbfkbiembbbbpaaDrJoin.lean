/- DrawJoin. -/
import Derived.Test.YtbfkbiembbbbpaaDrPut
import Derived.Deep.RegionHeld3
namespace Go.Proofs.Ytbfkbiembbbbpaa
set_option linter.unusedVariables false
set_option linter.unusedSimpArgs false
open Go.RowKit

attribute [local go_sem ↓] Go.wp_at_zero Go.wp_at_succ
set_option maxRecDepth 100000 in
set_option maxHeartbeats 2000000 in
theorem drawJoin_any (a : Option Addr) (len cap : Nat) (zs : List Int) (w : World) (hcode : Code w w.heap.size a len cap zs) :
    Calls Try.prog 19 #[.slice a len cap] w fun e w' => ∃ (s : ByteArray) (n : Int) (s2 : ByteArray) (m : Int), e = .returned (.tuple #[.agg #[.string s, .int .i64 n], .agg #[.string s2, .int .i64 m]]) ∧ s.size ≤ 100000 ∧ -1 ≤ n ∧ n ≤ 400000 ∧ s2.size ≤ 100000 ∧ -1 ≤ m ∧ m ≤ 400000 ∧ Below w.heap.size w w' := by
  have hb0 : Below w.heap.size w ((w.alloc (.cells #[.string ⟨#[]⟩, .int .i64 0] 24)).alloc (.cells #[.string ⟨#[]⟩, .int .i64 0] 24)) := ((Below.refl _ _).alloc (Nat.le_refl _) _).alloc (by simp) _
  have hc0 := hcode.keep (w' := (w.alloc (.cells #[.string ⟨#[]⟩, .int .i64 0] 24)).alloc (.cells #[.string ⟨#[]⟩, .int .i64 0] 24)) (fun p hp => hb0.cell hp)
  have hc1 : Code ((w.alloc (.cells #[.string ⟨#[]⟩, .int .i64 0] 24)).alloc (.cells #[.string ⟨#[]⟩, .int .i64 0] 24)) ((w.alloc (.cells #[.string ⟨#[]⟩, .int .i64 0] 24)).alloc (.cells #[.string ⟨#[]⟩, .int .i64 0] 24)).heap.size a len cap zs := by
    refine ⟨hc0.1, hc0.2.1, fun h => ?_⟩
    obtain ⟨b, off, e, hb, hcc⟩ := hc0.2.2 h
    exact ⟨b, off, e, by simp; omega, hcc⟩
  go_enter Try.func19, Try.ntmps19
  go_wp2_with fail
  refine (l1New_any a len cap zs _ hc1).mono ?_
  rintro e wa ⟨g, rfl, hcu, Ba⟩
  have hg := hcu.1
  (try simp at hg)
  have hga := hcu.lt
  have hRa := ((Has.fresh w 24 #[.string ⟨#[]⟩, .int .i64 0]).alloc (.cells #[.string ⟨#[]⟩, .int .i64 0] 24)).below Ba (by (try simp); (try omega))
  have hSa := (Has.freshAt (w := w.alloc (.cells #[.string ⟨#[]⟩, .int .i64 0] 24)) (g := w.heap.size + 1) (by simp) 24 #[.string ⟨#[]⟩, .int .i64 0]).below Ba (by simp)
  have hba : Below w.heap.size w wa := bel_then Ba (by (try simp); (try omega)) hb0
  clear Ba hb0 hc0 hc1 hcode
  go_wp2_with fail
  refine (l1bits_any g _ _ hcu).mono ?_
  rintro e wb ⟨s, n, rfl, hs, n1, n2, hcb, Ob⟩
  have hRb := Ob.has hRa (by omega)
  have hSb := Ob.has hSa (by omega)
  have hgb := hcb.lt
  have hbb : Below w.heap.size w wb := hba.trans (Ob.below (by omega) hba.size)
  have hX := Has.fresh wb 24 #[.string s, .int .i64 n]
  have hR := hRb.alloc (.cells #[.string s, .int .i64 n] 24)
  have hS := hSb.alloc (.cells #[.string s, .int .i64 n] 24)
  have hcX := hcb.alloc (.cells #[.string s, .int .i64 n] 24)
  have bb := hbb.alloc hbb.size (.cells #[.string s, .int .i64 n] 24)
  have hwb := hSb.lt
  clear hRa hSa hba Ob hRb hSb hcb hbb hcu
  have n12 : ¬ w.heap.size = wb.heap.size := by omega
  have n21 : ¬ wb.heap.size = w.heap.size := by omega
  have n13 : ¬ w.heap.size + 1 = wb.heap.size := by omega
  have n31 : ¬ wb.heap.size = w.heap.size + 1 := by omega
  have x0 := hX.cell 0
  have x1 := hX.cell 1
  have e0 := hR.cell 0
  have e1 := hR.cell 1
  have g0 := hR.free 0
  have g1 := hR.free 1
  have d0 := hS.cell 0
  have d1 := hS.cell 1
  have q0 := hS.free 0
  have q1 := hS.free 1
  simp at x0 x1 e0 e1 d0 d1
  go_wp2
  go_region_held3? (fun w' => w'.cell? ⟨wb.heap.size, 0, none⟩ = some (.string s) ∧ w'.cell? ⟨wb.heap.size, 1, none⟩ = some (.int .i64 n)) (go_keep) (first | (go_at_call 39; (first | (refine (l1bits_any g _ _ hcX.drew).mono ?_) | (refine (l1bits_any g _ _ hcX.drew.drew).mono ?_)); rintro e wf ⟨s2, m, rfl, hs2, m1, m2, hcf, Of⟩; obtain ⟨hcO, hfO⟩ := ocell Of; have sz := Of.size; (try simp at sz); have hRf := Of.has hR.drew (by omega); have hSf := Of.has hS.drew (by omega); have hXf := Of.has hX.drew (by omega); have e0 := hRf.cell 0; have e1 := hRf.cell 1; have g0 := hRf.free 0; have g1 := hRf.free 1; have d0 := hSf.cell 0; have d1 := hSf.cell 1; have q0 := hSf.free 0; have q1 := hSf.free 1; have x0 := hXf.cell 0; have x1 := hXf.cell 1; simp at e0 e1 d0 d1 x0 x1; clear hcO hfO))
  all_goals
    have bf : Below w.heap.size w wf := bb.drew.trans (Of.below (by omega) bb.drew.size)
    clear hX hR hS
    go_wp2
    refine bodyPost_ret (v := .tuple #[.agg #[.string s, .int .i64 n], .agg #[.string s2, .int .i64 m]]) (by simp [results, Try.results19, go_sem, e0, e1, g0, g1, d0, d1, q0, q1]) rfl ⟨s, n, s2, m, rfl, hs, n1, n2, hs2, m1, m2, ?_⟩
    repeat (first | exact Below.refl _ _ | assumption | refine Below.alloc ?_ (by (try simp); (try omega)) _ | refine Below.setCell ?_ (by (try simp); (try omega)) _ | refine Below.drew ?_)
end Go.Proofs.Ytbfkbiembbbbpaa
