/- Texts of one reach, one behind the other: I6G. What each is about stands in its theorems. -/
import Derived.Test.YtpngomjkapccdaaDoorG15
import Derived.Test.YtpngomjkapccdaaDoorG17
import Derived.Test.YtpngomjkapccdaaDoorG7
import Derived.Test.YtpngomjkapccdaaDoorG1
namespace Go.Proofs.YtpngomjkapccdaaDoor
set_option linter.unusedVariables false
set_option linter.unusedSimpArgs false
open Go.RowKit

set_option maxHeartbeats 4000000 in
set_option maxRecDepth 100000 in
theorem implGetGamma_yes (s : ByteArray) (at0 : Nat) (w : World) (hS : Sent w) (hs : s.size ≤ 1048576) (ha : at0 ≤ 8 * s.size) :
    Calls Tryd.prog 11 #[.agg #[.string s, .int .i64 at0]] w (GG6 s at0 w) := by
  have HS := hidden hS
  have K1 := hidden (fun W : World => implRdOk_yes s at0 W hs ha)
  have K2 := hidden (fun (W : World) (b : Nat) (h : Has W b 55 #[.string s, .int .i64 (at0 : Int)]) => gamma_any s at0 b 55 W hs ha h)
  have hR := (Has.fresh w 33 #[.string s, .int .i64 at0]).alloc (.cells #[.string ⟨#[]⟩, .int .i64 0] 33)
  have bb : Below w.heap.size w ((w.alloc (.cells #[.string s, .int .i64 at0] 33)).alloc (.cells #[.string ⟨#[]⟩, .int .i64 0] 33)) := ((Below.refl _ _).alloc (Nat.le_refl _) _).alloc (by simp) _
  have hZ := Has.freshAt (w := w.alloc (.cells #[.string s, .int .i64 at0] 33)) (g := w.heap.size + 1) (by simp) 33 #[.string ⟨#[]⟩, .int .i64 0]
  clear hS
  go_enter Tryd.func11, Tryd.ntmps11
  go_wp2_with fail
  refine (K1.out _).mono ?_
  rintro e w2 ⟨rfl, b2⟩
  replace bb := bel_then b2 bb.size bb
  replace hR := hR.below b2 hR.lt
  replace hZ := hZ.below b2 hZ.lt
  have hs2 := bb.size
  have hRl := hR.lt
  have hZl := hZ.lt
  have r0 := hR.cell 0
  have r1 := hR.cell 1
  simp at r0 r1
  clear b2
  have bb3 : Below w.heap.size w (w2.alloc (.cells #[.string s, .int .i64 at0] 55)) := bb.alloc hs2 _
  have hZ3 := hZ.alloc (.cells #[.string s, .int .i64 at0] 55)
  have hB3 := Has.fresh w2 55 #[.string s, .int .i64 at0]
  clear bb hZ hR
  go_wp2_with fail
  refine (K2.out _ _ hB3).mono ?_
  rintro e w4 ⟨hcase, hO⟩
  have hZ4 := hO.has hZ3 (by omega)
  have bb4 : Below w.heap.size w w4 := only_then hO hs2 (by have := bb3.size; exact this) bb3
  have hs4 := bb4.size
  have hZl4 := hZ4.lt
  have hS4 := HS.out.below bb4
  have h04 := hS4.1
  obtain ⟨a, hc4⟩ := hS4.2
  have e0 := hZ4.cell 0
  have e1 := hZ4.cell 1
  have g0 := hZ4.free 0
  have g1 := hZ4.free 1
  simp at e0 e1
  have N0 := hidden (fun W : World => is_none a W)
  clear hZ3 hZ4 hB3 hO bb3 K2 K1 r0 r1 hS4
  rcases hcase with ⟨k, n, hg, rfl, hR4⟩ | ⟨hno, ⟨m, rfl⟩ | rfl⟩
  · have HR := hidden hg
    have hnr := (gam_range hg).2.2
    have hn2 : ¬ 1048575 < (n : Int) := by omega
    obtain ⟨c, hc⟩ : ∃ c, at0 + (2 * k + 1) = c := ⟨_, rfl⟩
    rw [hc] at hR4
    have HCC := hidden hc
    have d0 := hR4.cell 0
    have d1 := hR4.cell 1
    simp at d0 d1
    have hRl4 := hR4.lt
    clear hg hR4 hc
    go_wp2_with fail
    refine (N0.out _).mono ?_
    rintro e w5 ⟨rfl, rfl⟩
    go_wp2
    (try go_region)
    all_goals (try go_wp2)
    all_goals
      refine bodyPost_ret (v := .tuple #[.int .i64 n, .agg #[.string s, .int .i64 (c : Int)], .bool true]) (by simp [results, Tryd.results11, go_sem, d0, d1, e0, e1, g0, g1]) rfl ⟨.inl ⟨k, n, HR.out, by rw [HCC.out]⟩, ?_⟩
      repeat (first | exact Below.refl _ _ | assumption | refine Below.alloc ?_ (by (try simp); (try omega)) _ | refine Below.setCell ?_ (by (try simp); (try omega)) _ | refine Below.drew ?_ | refine bel_then (by assumption) (by (try simp); (try omega)) ?_)
  · have HN := hidden hno
    have W1 := hidden (is_wraps m a w4 h04 hc4)
    clear hno
    go_wp2_with fail
    refine W1.out.mono ?_
    rintro e w5 ⟨rfl, b5⟩
    have bb5 : Below w.heap.size w w5 := bel_then b5 hs4 bb4
    have hs5 := bb5.size
    have hZl5 : w.heap.size + 1 < w5.heap.size := by have := b5.size; omega
    replace e0 := (b5.cell (p := ⟨w.heap.size + 1, 0, none⟩) hZl4).trans e0
    replace e1 := (b5.cell (p := ⟨w.heap.size + 1, 1, none⟩) hZl4).trans e1
    replace g0 := (b5.frozen (p := ⟨w.heap.size + 1, 0, none⟩) hZl4).trans g0
    replace g1 := (b5.frozen (p := ⟨w.heap.size + 1, 1, none⟩) hZl4).trans g1
    clear b5 bb4 W1 hc4
    go_wp2
    refine bodyPost_ret (v := .tuple #[.int .i64 0, .agg #[.string ⟨#[]⟩, .int .i64 0], .bool false]) (by simp [results, Tryd.results11, go_sem, e0, e1, g0, g1]) rfl ⟨.inr ⟨HN.out, rfl⟩, ?_⟩
    repeat (first | exact Below.refl _ _ | assumption | refine Below.alloc ?_ (by (try simp); (try omega)) _ | refine Below.setCell ?_ (by (try simp); (try omega)) _ | refine Below.drew ?_ | refine bel_then (by assumption) (by (try simp); (try omega)) ?_)
  · have HN := hidden hno
    clear hno
    go_wp2_with fail
    refine (N0.out _).mono ?_
    rintro e w5 ⟨rfl, rfl⟩
    go_wp2
    refine bodyPost_ret (v := .tuple #[.int .i64 0, .agg #[.string ⟨#[]⟩, .int .i64 0], .bool false]) (by simp [results, Tryd.results11, go_sem, e0, e1, g0, g1]) rfl ⟨.inr ⟨HN.out, rfl⟩, ?_⟩
    repeat (first | exact Below.refl _ _ | assumption | refine Below.alloc ?_ (by (try simp); (try omega)) _ | refine Below.setCell ?_ (by (try simp); (try omega)) _ | refine Below.drew ?_ | refine bel_then (by assumption) (by (try simp); (try omega)) ?_)
set_option maxHeartbeats 2000000 in
theorem implGetGamma_no (s : ByteArray) (at0 : Int) (w : World) (hs : s.size ≤ 1048576) (b1 : -9223372036854775808 ≤ at0) (b2 : at0 ≤ 9223372036854775807) (h : ¬ (0 ≤ at0 ∧ at0 ≤ 8 * s.size)) :
    Calls Tryd.prog 11 #[.agg #[.string s, .int .i64 at0]] w fun e w' => e = .returned (.tuple #[.int .i64 0, .agg #[.string ⟨#[]⟩, .int .i64 0], .bool false]) ∧ Below w.heap.size w w' := by
  have K1 := hidden (fun W : World => implRdOk_no s at0 W hs b1 b2 h)
  have bb : Below w.heap.size w ((w.alloc (.cells #[.string s, .int .i64 at0] 33)).alloc (.cells #[.string ⟨#[]⟩, .int .i64 0] 33)) := ((Below.refl _ _).alloc (Nat.le_refl _) _).alloc (by simp) _
  have hZ := Has.freshAt (w := w.alloc (.cells #[.string s, .int .i64 at0] 33)) (g := w.heap.size + 1) (by simp) 33 #[.string ⟨#[]⟩, .int .i64 0]
  clear h
  go_enter Tryd.func11, Tryd.ntmps11
  go_wp2_with fail
  refine (K1.out _).mono ?_
  rintro e w2 ⟨rfl, b2⟩
  replace bb := bel_then b2 bb.size bb
  replace hZ := hZ.below b2 hZ.lt
  have hs2 := bb.size
  have hZl := hZ.lt
  have e0 := hZ.cell 0
  have e1 := hZ.cell 1
  have g0 := hZ.free 0
  have g1 := hZ.free 1
  simp at e0 e1
  clear b2 hZ
  go_wp2
  refine bodyPost_ret (v := .tuple #[.int .i64 0, .agg #[.string ⟨#[]⟩, .int .i64 0], .bool false]) (by simp [results, Tryd.results11, go_sem, e0, e1, g0, g1]) rfl ⟨rfl, ?_⟩
  repeat (first | exact Below.refl _ _ | assumption | refine Below.alloc ?_ (by (try simp); (try omega)) _ | refine Below.setCell ?_ (by (try simp); (try omega)) _ | refine Below.drew ?_ | refine bel_then (by assumption) (by (try simp); (try omega)) ?_)
end Go.Proofs.YtpngomjkapccdaaDoor
