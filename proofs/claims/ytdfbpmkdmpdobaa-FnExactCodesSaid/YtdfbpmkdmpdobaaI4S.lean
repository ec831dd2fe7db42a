/- Chapter 4, the program: one symbol is read. -/
import Derived.Test.YtdfbpmkdmpdobaaI4R
namespace Go.Proofs.Ytdfbpmkdmpdobaa
set_option linter.unusedVariables false
set_option linter.unusedSimpArgs false
open Go.RowKit Go.Maps

theorem reads_one {ls : List Int} {s : ByteArray} {a c : Nat} {ys : List Nat} (h : Reads ls s a ys c) (hl : ys.length = 1) : ∃ n i, ys = [i] ∧ c = a + n ∧ hit ls s a n i := by
  cases h with
  | nil => simp at hl
  | cons _ n i xs _ hh hr =>
    cases hr with
    | nil => exact ⟨n, i, rfl, rfl, hh⟩
    | cons => simp at hl
set_option maxHeartbeats 4000000 in
set_option maxRecDepth 100000 in
theorem implGetSym_yes (a : Option Addr) (cap B at0 n0 i0 : Nat) (ls : List Int) (s : ByteArray) (w : World) (hz : Ints w B a ls) (hB : B ≤ w.heap.size) (hok : lOk ls = true) (hs : s.size ≤ 1048576) (ha : at0 ≤ 8 * s.size) (hh : hit ls s at0 n0 i0) :
    Calls Try.prog 24 #[.slice a ls.length cap, .agg #[.string s, .int .i64 at0]] w fun e w' => e = .returned (.tuple #[.int .i64 i0, .agg #[.string s, .int .i64 ((at0 + n0 : Nat) : Int)], .bool true]) ∧ Below w.heap.size w w' := by
  have hI := hidden hz
  have K1 : Hid (∀ W, Ints W B a ls → B ≤ W.heap.size → Calls Try.prog 20 #[.slice a ls.length cap, .agg #[.string s, .int .i64 at0], .int .i64 1] W (fun e w' => ∃ v, e = .returned (.tuple #[v, .agg #[.string s, .int .i64 ((at0 + n0 : Nat) : Int)], .bool true]) ∧ w'.ownsRow W.heap.size 3 1 v 1 (natsL [i0]) ∧ Below W.heap.size W w')) := hidden (fun W h h2 => by
    have h3 : Calls Try.prog 20 #[.slice a ls.length cap, .agg #[.string s, .int .i64 at0], .int .i64 1] W (SymsPost ls s at0 1 W) := getSyms_any a cap B at0 1 ls s W h h2 hok hs ha (by omega)
    refine h3.mono ?_
    rintro e w' ⟨⟨ys, c, v, hl, hrd, rfl, hown⟩ | ⟨hno, _⟩, hb⟩
    · obtain ⟨n, i, rfl, rfl, h4⟩ := reads_one hrd hl
      obtain ⟨rfl, rfl⟩ := hit_one hok h4 hh
      exact ⟨v, rfl, hown, hb⟩
    · exact absurd ⟨[i0], at0 + n0, rfl, .cons _ _ _ _ _ hh (.nil _)⟩ hno)
  have bb : Below w.heap.size w ((w.alloc (.cells #[.string s, .int .i64 at0] 37)).alloc (.cells #[.string ⟨#[]⟩, .int .i64 0] 37)) := ((Below.refl _ _).alloc (Nat.le_refl _) _).alloc (by simp) _
  have hS := Has.freshAt (w := w.alloc (.cells #[.string s, .int .i64 at0] 37)) (g := w.heap.size + 1) (by simp) 37 #[.string ⟨#[]⟩, .int .i64 0]
  obtain ⟨m, hm⟩ : ∃ m, ls.length = m := ⟨_, rfl⟩
  obtain ⟨c, hc⟩ : ∃ c, at0 + n0 = c := ⟨_, rfl⟩
  rw [hm, hc] at K1
  rw [hm, hc]
  clear hz hm hok hh hc
  go_enter Try.func24, Try.ntmps24
  go_wp2_with fail
  refine (K1.out _ (hI.out.below (bb.mono hB)) (Nat.le_trans hB bb.size)).mono ?_
  rintro e w2 ⟨v, rfl, hown, b2⟩
  replace hS := hS.below b2 (by simp)
  obtain ⟨g1, c1, hv⟩ := Joins.ownsRow_form hown (by omega)
  subst hv
  have o1 := hown.cellAt 0 (by omega)
  have hg := hown.lt g1 rfl
  simp at hg
  rw [natsL_get [i0] 0 (by simp)] at o1
  simp only [List.getElem_cons_zero] at o1
  replace bb := bel_then b2 bb.size bb
  have hSl := hS.lt
  have hsb := bb.size
  have e0 := hS.cell 0
  have e1 := hS.cell 1
  have f0 := hS.free 0
  have f1 := hS.free 1
  simp at e0 e1
  have HS := hidden hS
  clear b2 hown hS
  go_wp2
  go_region
  all_goals (try go_wp2)
  all_goals
    have hF := ((HS.out.store 0 (.string s)).store 1 (.int .i64 (c : Int))).alloc (.cells #[.string s, .int .i64 (c : Int)] 37)
    have z0 : World.cell? _ ⟨w.heap.size + 1, 0, none⟩ = some (.string s) := hF.cell 0
    have z1 : World.cell? _ ⟨w.heap.size + 1, 1, none⟩ = some (.int .i64 (c : Int)) := hF.cell 1
    refine bodyPost_ret (v := .tuple #[.int .i64 i0, .agg #[.string s, .int .i64 (c : Int)], .bool true]) (by simp [results, Try.results24, go_sem, e0, e1, f0, f1, z0, z1]) rfl ⟨rfl, ?_⟩
    repeat (first | exact Below.refl _ _ | assumption | refine Below.alloc ?_ (by (try simp); (try omega)) _ | refine Below.setCell ?_ (by (try simp); (try omega)) _ | refine Below.drew ?_ | refine bel_then (by assumption) (by (try simp); (try omega)) ?_)
set_option maxHeartbeats 4000000 in
set_option maxRecDepth 100000 in
theorem implGetSym_no (a : Option Addr) (cap B : Nat) (at0 : Int) (ls : List Int) (s : ByteArray) (w : World) (hz : Ints w B a ls) (hB : B ≤ w.heap.size) (hs : s.size ≤ 1048576) (b1 : -9223372036854775808 ≤ at0) (b2 : at0 ≤ 9223372036854775807)
    (h : ¬ (lOk ls = true ∧ 0 ≤ at0 ∧ at0 ≤ 8 * s.size ∧ ∃ n i, hit ls s at0.toNat n i)) :
    Calls Try.prog 24 #[.slice a ls.length cap, .agg #[.string s, .int .i64 at0]] w fun e w' => e = .returned (.tuple #[.int .i64 (-1), .agg #[.string ⟨#[]⟩, .int .i64 0], .bool false]) ∧ Below w.heap.size w w' := by
  have hI := hidden hz
  have K1 : Hid (∀ W, Ints W B a ls → B ≤ W.heap.size → Calls Try.prog 20 #[.slice a ls.length cap, .agg #[.string s, .int .i64 at0], .int .i64 1] W (fun e w' => e = .returned (.tuple #[.slice none 0 0, .agg #[.string ⟨#[]⟩, .int .i64 0], .bool false]) ∧ Below W.heap.size W w')) := hidden (fun W h1 h2 => by
    by_cases h3 : lOk ls = true ∧ 0 ≤ at0 ∧ at0 ≤ 8 * s.size
    · obtain ⟨hok, h4, h5⟩ := h3
      obtain ⟨q, rfl⟩ : ∃ q : Nat, at0 = q := ⟨at0.toNat, by omega⟩
      have h6 : Calls Try.prog 20 #[.slice a ls.length cap, .agg #[.string s, .int .i64 (q : Int)], .int .i64 1] W (SymsPost ls s q 1 W) := getSyms_any a cap B q 1 ls s W h1 h2 hok hs (by omega) (by omega)
      refine h6.mono ?_
      rintro e w' ⟨⟨ys, c, v, hl, hrd, rfl, hown⟩ | ⟨hno, he⟩, hb⟩
      · obtain ⟨n, i, rfl, rfl, h4⟩ := reads_one hrd hl
        exact absurd ⟨hok, by omega, by omega, n, i, by simpa using h4⟩ h
      · exact ⟨he, hb⟩
    · exact getSyms_no a cap B at0 1 ls s W h1 h2 hs b1 b2 (by omega) (by omega) (fun g => h3 ⟨g.1, g.2.1, g.2.2.1⟩))
  have bb : Below w.heap.size w ((w.alloc (.cells #[.string s, .int .i64 at0] 37)).alloc (.cells #[.string ⟨#[]⟩, .int .i64 0] 37)) := ((Below.refl _ _).alloc (Nat.le_refl _) _).alloc (by simp) _
  have hS := Has.freshAt (w := w.alloc (.cells #[.string s, .int .i64 at0] 37)) (g := w.heap.size + 1) (by simp) 37 #[.string ⟨#[]⟩, .int .i64 0]
  obtain ⟨m, hm⟩ : ∃ m, ls.length = m := ⟨_, rfl⟩
  rw [hm] at K1 ⊢
  clear hz hm h
  go_enter Try.func24, Try.ntmps24
  go_wp2_with fail
  refine (K1.out _ (hI.out.below (bb.mono hB)) (Nat.le_trans hB bb.size)).mono ?_
  rintro e w2 ⟨rfl, b5⟩
  replace hS := hS.below b5 (by simp)
  replace bb := bel_then b5 bb.size bb
  have hSl := hS.lt
  have hsb := bb.size
  have e0 := hS.cell 0
  have e1 := hS.cell 1
  have f0 := hS.free 0
  have f1 := hS.free 1
  simp at e0 e1
  have HS := hidden hS
  clear b5 hS
  go_wp2
  have hF := ((HS.out.store 0 (.string ⟨#[]⟩)).store 1 (.int .i64 0)).alloc (.cells #[.string ⟨#[]⟩, .int .i64 0] 37)
  have z0 : World.cell? _ ⟨w.heap.size + 1, 0, none⟩ = some (.string ⟨#[]⟩) := hF.cell 0
  have z1 : World.cell? _ ⟨w.heap.size + 1, 1, none⟩ = some (.int .i64 0) := hF.cell 1
  refine bodyPost_ret (v := .tuple #[.int .i64 (-1), .agg #[.string ⟨#[]⟩, .int .i64 0], .bool false]) (by simp [results, Try.results24, go_sem, e0, e1, f0, f1, z0, z1]) rfl ⟨rfl, ?_⟩
  repeat (first | exact Below.refl _ _ | assumption | refine Below.alloc ?_ (by (try simp); (try omega)) _ | refine Below.setCell ?_ (by (try simp); (try omega)) _ | refine Below.drew ?_ | refine bel_then (by assumption) (by (try simp); (try omega)) ?_)
end Go.Proofs.Ytdfbpmkdmpdobaa
