/- Chapter 4, the program: symbols are read, or not. -/
import Derived.Test.YtdfbpmkdmpdobaaI4G
import Derived.Test.YtdfbpmkdmpdobaaI4Q
namespace Go.Proofs.Ytdfbpmkdmpdobaa
set_option linter.unusedVariables false
set_option linter.unusedSimpArgs false
open Go.RowKit Go.Maps

set_option maxHeartbeats 4000000 in
set_option maxRecDepth 100000 in
theorem getSyms_no (a : Option Addr) (cap B : Nat) (at0 n : Int) (ls : List Int) (s : ByteArray) (w : World) (hz : Ints w B a ls) (hB : B ≤ w.heap.size) (hs : s.size ≤ 1048576) (b1 : -9223372036854775808 ≤ at0) (b2 : at0 ≤ 9223372036854775807) (b3 : -9223372036854775808 ≤ n) (b4 : n ≤ 9223372036854775807)
    (h : ¬ (lOk ls = true ∧ 0 ≤ at0 ∧ at0 ≤ 8 * s.size ∧ 0 ≤ n ∧ n ≤ 2000)) :
    Calls Try.prog 20 #[.slice a ls.length cap, .agg #[.string s, .int .i64 at0], .int .i64 n] w fun e w' => e = .returned (.tuple #[.slice none 0 0, .agg #[.string ⟨#[]⟩, .int .i64 0], .bool false]) ∧ Below w.heap.size w w' := by
  have K1 := hidden (fun W h => implLensOk_any a cap B ls W h)
  have HI := hidden hz
  have hR := (Has.fresh w 37 #[.string s, .int .i64 at0]).alloc (.cells #[.string ⟨#[]⟩, .int .i64 0] 37)
  have bb : Below w.heap.size w ((w.alloc (.cells #[.string s, .int .i64 at0] 37)).alloc (.cells #[.string ⟨#[]⟩, .int .i64 0] 37)) := ((Below.refl _ _).alloc (Nat.le_refl _) _).alloc (by simp) _
  have hS := Has.freshAt (w := w.alloc (.cells #[.string s, .int .i64 at0] 37)) (g := w.heap.size + 1) (by simp) 37 #[.string ⟨#[]⟩, .int .i64 0]
  by_cases h0 : n < 0
  · clear h K1 HI hz hR
    have e0 := hS.cell 0
    have e1 := hS.cell 1
    have f0 := hS.free 0
    have f1 := hS.free 1
    simp at e0 e1
    have hsb := bb.size
    clear hS
    go_enter Try.func20, Try.ntmps20
    go_wp2
    refine bodyPost_ret (v := .tuple #[.slice none 0 0, .agg #[.string ⟨#[]⟩, .int .i64 0], .bool false]) (by simp [results, Try.results20, go_sem, e0, e1, f0, f1]) rfl ⟨rfl, ?_⟩
    repeat (first | exact Below.refl _ _ | assumption | refine Below.alloc ?_ (by (try simp); (try omega)) _ | refine Below.setCell ?_ (by (try simp); (try omega)) _ | refine Below.drew ?_ | refine bel_then (by assumption) (by (try simp); (try omega)) ?_)
  · by_cases h1 : 2000 < n
    · clear h K1 HI hz hR
      have e0 := hS.cell 0
      have e1 := hS.cell 1
      have f0 := hS.free 0
      have f1 := hS.free 1
      simp at e0 e1
      have hsb := bb.size
      clear hS
      go_enter Try.func20, Try.ntmps20
      go_wp2
      refine bodyPost_ret (v := .tuple #[.slice none 0 0, .agg #[.string ⟨#[]⟩, .int .i64 0], .bool false]) (by simp [results, Try.results20, go_sem, e0, e1, f0, f1]) rfl ⟨rfl, ?_⟩
      repeat (first | exact Below.refl _ _ | assumption | refine Below.alloc ?_ (by (try simp); (try omega)) _ | refine Below.setCell ?_ (by (try simp); (try omega)) _ | refine Below.drew ?_ | refine bel_then (by assumption) (by (try simp); (try omega)) ?_)
    · obtain ⟨o1, ho1⟩ : ∃ o, lOk ls = o := ⟨_, rfl⟩
      rw [ho1] at K1
      obtain ⟨m, hm⟩ : ∃ m, ls.length = m := ⟨_, rfl⟩
      rw [hm] at K1 ⊢
      cases o1
      · clear h hz ho1 hm
        go_enter Try.func20, Try.ntmps20
        go_wp2_with fail
        refine (K1.out _ (HI.out.below (bb.mono hB))).mono ?_
        rintro e w1 ⟨rfl, hw1⟩
        rw [← hw1] at hS bb
        clear hw1 hR
        have e0 := hS.cell 0
        have e1 := hS.cell 1
        have f0 := hS.free 0
        have f1 := hS.free 1
        simp at e0 e1
        have hsb := bb.size
        clear hS
        go_wp2
        refine bodyPost_ret (v := .tuple #[.slice none 0 0, .agg #[.string ⟨#[]⟩, .int .i64 0], .bool false]) (by simp [results, Try.results20, go_sem, e0, e1, f0, f1]) rfl ⟨rfl, ?_⟩
        repeat (first | exact Below.refl _ _ | assumption | refine Below.alloc ?_ (by (try simp); (try omega)) _ | refine Below.setCell ?_ (by (try simp); (try omega)) _ | refine Below.drew ?_ | refine bel_then (by assumption) (by (try simp); (try omega)) ?_)
      · have hno : ¬ (0 ≤ at0 ∧ at0 ≤ 8 * s.size) := fun g => h ⟨ho1, g.1, g.2, by omega, by omega⟩
        have K2 := hidden (fun W => implRdOk_no s at0 W hs b1 b2 hno)
        clear h hz ho1 hm hno
        go_enter Try.func20, Try.ntmps20
        go_wp2_with fail
        refine (K1.out _ (HI.out.below (bb.mono hB))).mono ?_
        rintro e w1 ⟨rfl, hw1⟩
        rw [← hw1] at hS bb hR
        clear hw1
        have c0 := hR.cell 0
        have c1 := hR.cell 1
        simp at c0 c1
        have hs1 := bb.size
        go_wp2_with fail
        refine (K2.out _).mono ?_
        rintro e w2 ⟨rfl, b5⟩
        replace bb := bel_then b5 hs1 bb
        replace hS := hS.below b5 hS.lt
        clear b5 hR c0 c1
        have e0 := hS.cell 0
        have e1 := hS.cell 1
        have f0 := hS.free 0
        have f1 := hS.free 1
        simp at e0 e1
        have hsb := bb.size
        clear hS
        go_wp2
        refine bodyPost_ret (v := .tuple #[.slice none 0 0, .agg #[.string ⟨#[]⟩, .int .i64 0], .bool false]) (by simp [results, Try.results20, go_sem, e0, e1, f0, f1]) rfl ⟨rfl, ?_⟩
        repeat (first | exact Below.refl _ _ | assumption | refine Below.alloc ?_ (by (try simp); (try omega)) _ | refine Below.setCell ?_ (by (try simp); (try omega)) _ | refine Below.drew ?_ | refine bel_then (by assumption) (by (try simp); (try omega)) ?_)
end Go.Proofs.Ytdfbpmkdmpdobaa
