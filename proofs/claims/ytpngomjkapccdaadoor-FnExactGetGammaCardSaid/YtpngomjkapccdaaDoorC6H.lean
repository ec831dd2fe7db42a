/- Chapter 6: GetGamma (the model). -/
import Derived.Test.YtpngomjkapccdaaDoorC6G
namespace Go.Proofs.YtpngomjkapccdaaDoor
set_option linter.unusedVariables false
set_option linter.unusedSimpArgs false
open Go.RowKit

/-- What GetGamma answers. -/
def GG6 (s : ByteArray) (at0 : Nat) (w : World) (e : Ending) (w' : World) : Prop :=
  ((∃ k n : Nat, Gam s at0 k n ∧ e = .returned (.tuple #[.int .i64 n, .agg #[.string s, .int .i64 ((at0 + (2 * k + 1) : Nat) : Int)], .bool true])) ∨
   ((∀ k n, ¬ Gam s at0 k n) ∧ e = .returned (.tuple #[.int .i64 0, .agg #[.string ⟨#[]⟩, .int .i64 0], .bool false]))) ∧ Below w.heap.size w w'
set_option maxHeartbeats 2000000 in
set_option maxRecDepth 100000 in
theorem specGetGamma_any (s : ByteArray) (at0 : Nat) (w : World) (hs : s.size ≤ 1048576) (ha : at0 ≤ 8 * s.size) :
    Calls Tryd.prog 13 #[.agg #[.string s, .int .i64 at0]] w (GG6 s at0 w) := by
  have K2 := hidden (fun (W : World) (h : Has W w.heap.size 33 #[.string s, .int .i64 (at0 : Int)]) => l6get_any s at0 w.heap.size 33 W hs ha h)
  have hR := (Has.fresh w 33 #[.string s, .int .i64 at0]).alloc (.cells #[.string ⟨#[]⟩, .int .i64 0] 33)
  have bb : Below w.heap.size w ((w.alloc (.cells #[.string s, .int .i64 at0] 33)).alloc (.cells #[.string ⟨#[]⟩, .int .i64 0] 33)) := ((Below.refl _ _).alloc (Nat.le_refl _) _).alloc (by simp) _
  have hS := Has.freshAt (w := w.alloc (.cells #[.string s, .int .i64 at0] 33)) (g := w.heap.size + 1) (by simp) 33 #[.string ⟨#[]⟩, .int .i64 0]
  go_enter Tryd.func13, Tryd.ntmps13
  go_wp2_with fail
  refine (specRdOk_yes s at0 _ hs ha).mono ?_
  rintro e w2 ⟨rfl, b2⟩
  replace bb := bel_then b2 bb.size bb
  replace hR := hR.below b2 hR.lt
  replace hS := hS.below b2 hS.lt
  have hs2 := bb.size
  have hRl := hR.lt
  have hSl := hS.lt
  clear b2
  go_wp2_with fail
  refine (K2.out _ hR).mono ?_
  rintro e w3 ⟨hcase, hO⟩
  have hS3 := hO.has hS (by omega)
  have bb3 : Below w.heap.size w w3 := only_then hO (Nat.le_refl _) hs2 bb
  have hs3 := bb3.size
  have hSl3 := hS3.lt
  have e0 := hS3.cell 0
  have e1 := hS3.cell 1
  have g0 := hS3.free 0
  have g1 := hS3.free 1
  simp at e0 e1
  clear hR hS hO bb K2
  rcases hcase with ⟨k, n, hg, rfl, hR3⟩ | ⟨hno, rfl⟩
  · have HR := hidden hg
    have hn1 := (gam_range hg).2.2.1
    obtain ⟨c, hc⟩ : ∃ c, at0 + (2 * k + 1) = c := ⟨_, rfl⟩
    rw [hc] at hR3
    have HCC := hidden hc
    have d0 := hR3.cell 0
    have d1 := hR3.cell 1
    simp at d0 d1
    have hnz : ((n : Int) == 0) = false := by rw [beq_eq_false_iff_ne]; omega
    clear hg hR3 hc
    go_wp2
    (try go_region)
    all_goals (try go_wp2)
    all_goals
      refine bodyPost_ret (v := .tuple #[.int .i64 n, .agg #[.string s, .int .i64 (c : Int)], .bool true]) (by simp [results, Tryd.results13, go_sem, d0, d1, e0, e1, g0, g1]) rfl ⟨.inl ⟨k, n, HR.out, by rw [HCC.out]⟩, ?_⟩
      repeat (first | exact Below.refl _ _ | assumption | refine Below.alloc ?_ (by (try simp); (try omega)) _ | refine Below.setCell ?_ (by (try simp); (try omega)) _ | refine Below.drew ?_ | refine bel_then (by assumption) (by (try simp); (try omega)) ?_)
  · have HNO := hidden hno
    clear hno
    go_wp2
    refine bodyPost_ret (v := .tuple #[.int .i64 0, .agg #[.string ⟨#[]⟩, .int .i64 0], .bool false]) (by simp [results, Tryd.results13, go_sem, e0, e1, g0, g1]) rfl ⟨.inr ⟨HNO.out, rfl⟩, ?_⟩
    repeat (first | exact Below.refl _ _ | assumption | refine Below.alloc ?_ (by (try simp); (try omega)) _ | refine Below.setCell ?_ (by (try simp); (try omega)) _ | refine Below.drew ?_ | refine bel_then (by assumption) (by (try simp); (try omega)) ?_)
set_option maxHeartbeats 2000000 in
set_option maxRecDepth 100000 in
theorem specGetGamma_no (s : ByteArray) (at0 : Int) (w : World) (hs : s.size ≤ 1048576) (b1 : -9223372036854775808 ≤ at0) (b2 : at0 ≤ 9223372036854775807) (h : ¬ (0 ≤ at0 ∧ at0 ≤ 8 * s.size)) :
    Calls Tryd.prog 13 #[.agg #[.string s, .int .i64 at0]] w fun e w' => e = .returned (.tuple #[.int .i64 0, .agg #[.string ⟨#[]⟩, .int .i64 0], .bool false]) ∧ Below w.heap.size w w' := by
  have bb : Below w.heap.size w ((w.alloc (.cells #[.string s, .int .i64 at0] 33)).alloc (.cells #[.string ⟨#[]⟩, .int .i64 0] 33)) := ((Below.refl _ _).alloc (Nat.le_refl _) _).alloc (by simp) _
  have hS := Has.freshAt (w := w.alloc (.cells #[.string s, .int .i64 at0] 33)) (g := w.heap.size + 1) (by simp) 33 #[.string ⟨#[]⟩, .int .i64 0]
  have HX := hidden h
  clear h
  go_enter Tryd.func13, Tryd.ntmps13
  go_wp2_with fail
  refine (specRdOk_no s at0 _ hs b1 b2 HX.out).mono ?_
  rintro e w2 ⟨rfl, b2⟩
  replace bb := bel_then b2 bb.size bb
  replace hS := hS.below b2 hS.lt
  have hs2 := bb.size
  have e0 := hS.cell 0
  have e1 := hS.cell 1
  have g0 := hS.free 0
  have g1 := hS.free 1
  simp at e0 e1
  clear b2 hS
  go_wp2
  refine bodyPost_ret (v := .tuple #[.int .i64 0, .agg #[.string ⟨#[]⟩, .int .i64 0], .bool false]) (by simp [results, Tryd.results13, go_sem, e0, e1, g0, g1]) rfl ⟨rfl, ?_⟩
  repeat (first | exact Below.refl _ _ | assumption | refine Below.alloc ?_ (by (try simp); (try omega)) _ | refine Below.setCell ?_ (by (try simp); (try omega)) _ | refine Below.drew ?_ | refine bel_then (by assumption) (by (try simp); (try omega)) ?_)
end Go.Proofs.YtpngomjkapccdaaDoor
