/- Chapter 5: GetLens (the model). -/
import Derived.Test.YtdeikdlbgjpooaaC5G
import Derived.RegionTactic
import Derived.ChangeAlike
namespace Go.Proofs.Ytdeikdlbgjpooaa
set_option linter.unusedVariables false
set_option linter.unusedSimpArgs false
open Go.RowKit

/-- What GetLens answers. -/
def GL5 (s : ByteArray) (at0 n : Nat) (w : World) (e : Ending) (w' : World) : Prop :=
  ((∃ (xs : List Nat) (c : Nat) (v : Value), reads5 s at0 n xs c ∧ e = .returned (.tuple #[v, .agg #[.string s, .int .i64 (c : Int)], .bool true]) ∧ w'.ownsRow w.heap.size 3 1 v n (natsL xs)) ∨
   ((¬ ∃ (xs : List Nat) (c : Nat), reads5 s at0 n xs c) ∧ e = .returned (.tuple #[.slice none 0 0, .agg #[.string ⟨#[]⟩, .int .i64 0], .bool false]))) ∧ Below w.heap.size w w'
set_option maxHeartbeats 2000000 in
set_option maxRecDepth 100000 in
theorem specGetLens_any (s : ByteArray) (at0 n : Nat) (w : World) (hs : s.size ≤ 1048576) (ha : at0 ≤ 8 * s.size) (hn1 : 1 ≤ n) (hn2 : n ≤ 260) :
    Calls Try.prog 14 #[.agg #[.string s, .int .i64 at0], .int .i64 n] w (GL5 s at0 n w) := by
  have K2 := hidden (fun (W : World) (h : Has W w.heap.size 35 #[.string s, .int .i64 (at0 : Int)]) => l5get_any s at0 n w.heap.size 35 W hs ha hn1 hn2 h)
  have hR := (Has.fresh w 35 #[.string s, .int .i64 at0]).alloc (.cells #[.string ⟨#[]⟩, .int .i64 0] 35)
  have bb : Below w.heap.size w ((w.alloc (.cells #[.string s, .int .i64 at0] 35)).alloc (.cells #[.string ⟨#[]⟩, .int .i64 0] 35)) := ((Below.refl _ _).alloc (Nat.le_refl _) _).alloc (by simp) _
  have hS := Has.freshAt (w := w.alloc (.cells #[.string s, .int .i64 at0] 35)) (g := w.heap.size + 1) (by simp) 35 #[.string ⟨#[]⟩, .int .i64 0]
  go_enter Try.func14, Try.ntmps14
  go_wp2_with fail
  refine (specRdOk_yes s at0 _ hs ha).mono ?_
  rintro e w2 ⟨rfl, b2⟩
  replace bb := bel_then b2 bb.size bb
  replace hR := hR.below b2 hR.lt
  replace hS := hS.below b2 hS.lt
  have hs2 := bb.size
  have hRl := hR.lt
  have hSl := hS.lt
  clear b2
  go_wp2_with fail
  refine (K2.out _ hR).mono ?_
  rintro e w3 ⟨hcase, hO⟩
  have hS3 := hO.has hS (by omega)
  have bb3 : Below w.heap.size w w3 := only_then hO (Nat.le_refl _) hs2 bb
  have hs3 := bb3.size
  have hSl3 := hS3.lt
  have e0 := hS3.cell 0
  have e1 := hS3.cell 1
  have g0 := hS3.free 0
  have g1 := hS3.free 1
  simp at e0 e1
  clear hR hS hO bb K2
  rcases hcase with ⟨xs, c, v, hr, rfl, hown, hR3⟩ | ⟨hno, rfl⟩
  · have HR := hidden hr
    obtain ⟨g, cp, hv⟩ := Joins.ownsRow_form hown (by omega)
    subst hv
    have hg := hown.lt g rfl
    have d0 := hR3.cell 0
    have d1 := hR3.cell 1
    simp at d0 d1
    have hnz : ((n : Int) == 0) = false := by rw [beq_eq_false_iff_ne]; omega
    have HOW := hidden hown
    clear hr hown hR3
    go_wp2
    go_region
    all_goals (try go_wp2)
    all_goals
      refine bodyPost_ret (v := .tuple #[.slice (some ⟨g, 0, none⟩) n cp, .agg #[.string s, .int .i64 (c : Int)], .bool true]) (by simp [results, Try.results14, go_sem, d0, d1, e0, e1, g0, g1]) rfl ⟨.inl ⟨xs, c, _, HR.out, rfl, ?_⟩, ?_⟩
      · exact Joins.ownsRow_le (own_away (own_away HOW.out (p := ⟨w.heap.size + 1, 0, none⟩) (by simp; omega) _) (p := ⟨w.heap.size + 1, 1, none⟩) (by simp; omega) _).drew hs2
      · repeat (first | exact Below.refl _ _ | assumption | refine Below.alloc ?_ (by (try simp); (try omega)) _ | refine Below.setCell ?_ (by (try simp); (try omega)) _ | refine Below.drew ?_ | refine bel_then (by assumption) (by (try simp); (try omega)) ?_)
  · have HNO := hidden hno
    clear hno
    go_wp2
    refine bodyPost_ret (v := .tuple #[.slice none 0 0, .agg #[.string ⟨#[]⟩, .int .i64 0], .bool false]) (by simp [results, Try.results14, go_sem, e0, e1, g0, g1]) rfl ⟨.inr ⟨HNO.out, rfl⟩, ?_⟩
    repeat (first | exact Below.refl _ _ | assumption | refine Below.alloc ?_ (by (try simp); (try omega)) _ | refine Below.setCell ?_ (by (try simp); (try omega)) _ | refine Below.drew ?_ | refine bel_then (by assumption) (by (try simp); (try omega)) ?_)
set_option maxHeartbeats 2000000 in
set_option maxRecDepth 100000 in
theorem specGetLens_no (s : ByteArray) (at0 n : Int) (w : World) (hs : s.size ≤ 1048576) (b1 : -9223372036854775808 ≤ at0) (b2 : at0 ≤ 9223372036854775807) (b3 : -9223372036854775808 ≤ n) (b4 : n ≤ 9223372036854775807)
    (h : ¬ (0 ≤ at0 ∧ at0 ≤ 8 * s.size ∧ 1 ≤ n ∧ n ≤ 260)) :
    Calls Try.prog 14 #[.agg #[.string s, .int .i64 at0], .int .i64 n] w fun e w' => e = .returned (.tuple #[.slice none 0 0, .agg #[.string ⟨#[]⟩, .int .i64 0], .bool false]) ∧ Below w.heap.size w w' := by
  have bb : Below w.heap.size w ((w.alloc (.cells #[.string s, .int .i64 at0] 35)).alloc (.cells #[.string ⟨#[]⟩, .int .i64 0] 35)) := ((Below.refl _ _).alloc (Nat.le_refl _) _).alloc (by simp) _
  have hS := Has.freshAt (w := w.alloc (.cells #[.string s, .int .i64 at0] 35)) (g := w.heap.size + 1) (by simp) 35 #[.string ⟨#[]⟩, .int .i64 0]
  by_cases hat : 0 ≤ at0 ∧ at0 ≤ 8 * s.size
  · obtain ⟨q, rfl⟩ : ∃ q : Nat, at0 = q := ⟨at0.toNat, by omega⟩
    have hq : q ≤ 8 * s.size := by omega
    have hn : n < 1 ∨ 260 < n := by omega
    clear h hat
    rcases hn with hn | hn
    all_goals
      go_enter Try.func14, Try.ntmps14
      go_wp2_with fail
      refine (specRdOk_yes s q _ hs hq).mono ?_
      rintro e w2 ⟨rfl, b2⟩
      replace bb := bel_then b2 bb.size bb
      replace hS := hS.below b2 hS.lt
      have hs2 := bb.size
      have e0 := hS.cell 0
      have e1 := hS.cell 1
      have g0 := hS.free 0
      have g1 := hS.free 1
      simp at e0 e1
      clear b2 hS
      go_wp2
      refine bodyPost_ret (v := .tuple #[.slice none 0 0, .agg #[.string ⟨#[]⟩, .int .i64 0], .bool false]) (by simp [results, Try.results14, go_sem, e0, e1, g0, g1]) rfl ⟨rfl, ?_⟩
      repeat (first | exact Below.refl _ _ | assumption | refine Below.alloc ?_ (by (try simp); (try omega)) _ | refine Below.setCell ?_ (by (try simp); (try omega)) _ | refine Below.drew ?_ | refine bel_then (by assumption) (by (try simp); (try omega)) ?_)
  · have HX := hidden hat
    clear h hat
    go_enter Try.func14, Try.ntmps14
    go_wp2_with fail
    refine (specRdOk_no s at0 _ hs b1 b2 HX.out).mono ?_
    rintro e w2 ⟨rfl, b2⟩
    replace bb := bel_then b2 bb.size bb
    replace hS := hS.below b2 hS.lt
    have hs2 := bb.size
    have e0 := hS.cell 0
    have e1 := hS.cell 1
    have g0 := hS.free 0
    have g1 := hS.free 1
    simp at e0 e1
    clear b2 hS
    go_wp2
    refine bodyPost_ret (v := .tuple #[.slice none 0 0, .agg #[.string ⟨#[]⟩, .int .i64 0], .bool false]) (by simp [results, Try.results14, go_sem, e0, e1, g0, g1]) rfl ⟨rfl, ?_⟩
    repeat (first | exact Below.refl _ _ | assumption | refine Below.alloc ?_ (by (try simp); (try omega)) _ | refine Below.setCell ?_ (by (try simp); (try omega)) _ | refine Below.drew ?_ | refine bel_then (by assumption) (by (try simp); (try omega)) ?_)
end Go.Proofs.Ytdeikdlbgjpooaa
