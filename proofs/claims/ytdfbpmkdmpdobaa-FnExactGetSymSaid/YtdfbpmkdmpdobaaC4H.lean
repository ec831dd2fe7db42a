/- Chapter 4: GetSym of the model. -/
import Derived.Test.YtdfbpmkdmpdobaaC4G
namespace Go.Proofs.Ytdfbpmkdmpdobaa
set_option linter.unusedVariables false
set_option linter.unusedSimpArgs false
open Go.RowKit

set_option maxHeartbeats 2000000 in
set_option maxRecDepth 100000 in
theorem specGetSym_yes (a : Option Addr) (cap B at0 n0 i0 : Nat) (ls : List Int) (s : ByteArray) (w : World) (hz : Ints w B a ls) (hB : B ≤ w.heap.size) (hok : lOk ls = true) (hs : s.size ≤ 1048576) (ha : at0 ≤ 8 * s.size) (hh : hit ls s at0 n0 i0) :
    Calls Try.prog 35 #[.slice a ls.length cap, .agg #[.string s, .int .i64 at0]] w fun e w' => e = .returned (.tuple #[.int .i64 i0, .agg #[.string s, .int .i64 ((at0 + n0 : Nat) : Int)], .bool true]) ∧ Below w.heap.size w w' := by
  have K1 := hidden (fun W h => specLensOk_any a cap B ls W h)
  rw [hok] at K1
  have K2 := hidden (fun W h1 h2 => specCodes_yes a cap B ls W h1 h2 hok)
  have K3 : Hid (∀ (W : World) (b cb : Nat) (vc : Value), Ints W B a ls → W.ownsRow cb 3 1 vc ls.length (nats ls.length (cdF ls)) → B ≤ b → vc.ownBlock ≠ some b → Has W b 37 #[.string s, .int .i64 at0] →
      Calls Try.prog 60 #[.slice a ls.length cap, vc, .pointer (some ⟨b, 0, none⟩)] W fun e w' => Only b W w' ∧ e = .returned (.int .i64 i0) ∧ Has w' b 37 #[.string s, .int .i64 ((at0 + n0 : Nat) : Int)]) := hidden (fun W b cb vc h1 h2 h3 h4 h5 => by
    refine (l4get_any a cap B cb b at0 _ vc ls s W h1 hok h2 h3 h4 hs ha h5).mono ?_
    rintro e w' ⟨hO, ⟨n, i, hni, rfl, hH⟩ | ⟨hno, _⟩⟩
    · obtain ⟨rfl, rfl⟩ := hit_one hok hni hh
      exact ⟨hO, rfl, hH⟩
    · exact absurd hh (hno _ _))
  have hI := hz.below (((Below.refl w.heap.size w).alloc (Nat.le_refl _) (.cells #[.string s, .int .i64 at0] 37)).mono hB)
  have HI := hidden hz
  obtain ⟨n, hn⟩ : ∃ n, ls.length = n := ⟨_, rfl⟩
  rw [hn] at K1 K2 K3 ⊢
  have hR := (Has.fresh w 37 #[.string s, .int .i64 at0]).alloc (.cells #[.string ⟨#[]⟩, .int .i64 0] 37)
  have bb : Below w.heap.size w ((w.alloc (.cells #[.string s, .int .i64 at0] 37)).alloc (.cells #[.string ⟨#[]⟩, .int .i64 0] 37)) := ((Below.refl _ _).alloc (Nat.le_refl _) _).alloc (by simp) _
  have hS := Has.freshAt (w := w.alloc (.cells #[.string s, .int .i64 at0] 37)) (g := w.heap.size + 1) (by simp) 37 #[.string ⟨#[]⟩, .int .i64 0]
  clear hz hn hh hok hI
  go_enter Try.func35, Try.ntmps35
  go_wp2_with fail
  refine (K1.out _ (HI.out.below (bb.mono hB))).mono ?_
  rintro e w1 ⟨rfl, hw1⟩
  rw [← hw1] at hR hS bb
  clear hw1
  have c0 := hR.cell 0
  have c1 := hR.cell 1
  simp at c0 c1
  have hs1 := bb.size
  go_wp2_with fail
  refine (specRdOk_yes s at0 _ hs ha).mono ?_
  rintro e w2 ⟨rfl, b2⟩
  replace bb := bel_then b2 hs1 bb
  replace hR := hR.below b2 hR.lt
  replace hS := hS.below b2 hS.lt
  have hs2 := bb.size
  have hRl := hR.lt
  have hSl := hS.lt
  clear c0 c1 b2
  go_wp2_with fail
  refine (K2.out _ (HI.out.below (bb.mono hB)) (Nat.le_trans hB hs2)).mono ?_
  rintro e w3 ⟨vc, rfl, hown, b3⟩
  replace bb := bel_then b3 hs2 bb
  replace hR := hR.below b3 hR.lt
  replace hS := hS.below b3 hS.lt
  have hs3 := bb.size
  go_wp2_with fail
  refine (K3.out _ w.heap.size _ vc (HI.out.below (bb.mono hB)) hown hB (fun he => by have := (hown.lt _ he).1; omega) hR).mono ?_
  rintro e w4 ⟨hO4, rfl, hR4⟩
  have hS4 := hO4.has hS (by omega)
  have bb4 : Below w.heap.size w w4 := only_then hO4 (Nat.le_refl _) hs3 bb
  have hk0 : ¬ (i0 : Int) < 0 := by omega
  have d0 := hR4.cell 0
  have d1 := hR4.cell 1
  have e0 := hS4.cell 0
  have e1 := hS4.cell 1
  have g0 := hS4.free 0
  have g1 := hS4.free 1
  simp at d0 d1 e0 e1
  have hSl4 := hS4.lt
  clear hR4 hS4 hR hS hown b3 bb hO4
  go_wp2
  (try go_region)
  all_goals (try go_wp2)
  all_goals
    refine bodyPost_ret (v := .tuple #[.int .i64 i0, .agg #[.string s, .int .i64 ((at0 + n0 : Nat) : Int)], .bool true]) (by simp [results, Try.results35, go_sem, d0, d1, e0, e1, g0, g1]) rfl ⟨rfl, ?_⟩
    repeat (first | exact Below.refl _ _ | assumption | refine Below.alloc ?_ (by (try simp); (try omega)) _ | refine Below.setCell ?_ (by (try simp); (try omega)) _ | refine Below.drew ?_)
set_option maxHeartbeats 2000000 in
set_option maxRecDepth 100000 in
theorem specGetSym_no (a : Option Addr) (cap B : Nat) (at0 : Int) (ls : List Int) (s : ByteArray) (w : World) (hz : Ints w B a ls) (hB : B ≤ w.heap.size) (hs : s.size ≤ 1048576) (b1 : -9223372036854775808 ≤ at0) (b2 : at0 ≤ 9223372036854775807)
    (h : ¬ (lOk ls = true ∧ 0 ≤ at0 ∧ at0 ≤ 8 * s.size ∧ ∃ n i, hit ls s at0.toNat n i)) :
    Calls Try.prog 35 #[.slice a ls.length cap, .agg #[.string s, .int .i64 at0]] w fun e w' => e = .returned (.tuple #[.int .i64 (-1), .agg #[.string ⟨#[]⟩, .int .i64 0], .bool false]) ∧ Below w.heap.size w w' := by
  have K1 := hidden (fun W h => specLensOk_any a cap B ls W h)
  have HI := hidden hz
  have hR := (Has.fresh w 37 #[.string s, .int .i64 at0]).alloc (.cells #[.string ⟨#[]⟩, .int .i64 0] 37)
  have bb : Below w.heap.size w ((w.alloc (.cells #[.string s, .int .i64 at0] 37)).alloc (.cells #[.string ⟨#[]⟩, .int .i64 0] 37)) := ((Below.refl _ _).alloc (Nat.le_refl _) _).alloc (by simp) _
  have hS := Has.freshAt (w := w.alloc (.cells #[.string s, .int .i64 at0] 37)) (g := w.heap.size + 1) (by simp) 37 #[.string ⟨#[]⟩, .int .i64 0]
  obtain ⟨n, hn⟩ : ∃ n, ls.length = n := ⟨_, rfl⟩
  by_cases hok : lOk ls = true
  · rw [hok] at K1
    by_cases ha : 0 ≤ at0 ∧ at0 ≤ 8 * s.size
    · obtain ⟨q, rfl⟩ : ∃ q : Nat, at0 = q := ⟨at0.toNat, by omega⟩
      have hq : q ≤ 8 * s.size := by omega
      have hno : ∀ n i, ¬ hit ls s q n i := fun n i hh => h ⟨hok, ha.1, ha.2, n, i, by simpa using hh⟩
      have K2 := hidden (fun W h1 h2 => specCodes_yes a cap B ls W h1 h2 hok)
      have K3 : Hid (∀ (W : World) (b cb : Nat) (vc : Value), Ints W B a ls → W.ownsRow cb 3 1 vc ls.length (nats ls.length (cdF ls)) → B ≤ b → vc.ownBlock ≠ some b → Has W b 37 #[.string s, .int .i64 q] →
          Calls Try.prog 60 #[.slice a ls.length cap, vc, .pointer (some ⟨b, 0, none⟩)] W fun e w' => Only b W w' ∧ e = .returned (.int .i64 (-1)) ∧ Has w' b 37 #[.string s, .int .i64 q]) := hidden (fun W b cb vc h1 h2 h3 h4 h5 => by
        refine (l4get_any a cap B cb b q _ vc ls s W h1 hok h2 h3 h4 hs hq h5).mono ?_
        rintro e w' ⟨hO, ⟨n, i, hni, rfl, hH⟩ | ⟨_, rfl, hH⟩⟩
        · exact absurd hni (hno _ _)
        · exact ⟨hO, rfl, hH⟩)
      rw [hn] at K1 K2 K3 ⊢
      clear hz hn hok h ha hno
      go_enter Try.func35, Try.ntmps35
      go_wp2_with fail
      refine (K1.out _ (HI.out.below (bb.mono hB))).mono ?_
      rintro e w1 ⟨rfl, hw1⟩
      rw [← hw1] at hR hS bb
      clear hw1
      have c0 := hR.cell 0
      have c1 := hR.cell 1
      simp at c0 c1
      have hs1 := bb.size
      go_wp2_with fail
      refine (specRdOk_yes s q _ hs hq).mono ?_
      rintro e w2 ⟨rfl, b2⟩
      replace bb := bel_then b2 hs1 bb
      replace hR := hR.below b2 hR.lt
      replace hS := hS.below b2 hS.lt
      have hs2 := bb.size
      have hRl := hR.lt
      clear c0 c1 b2
      go_wp2_with fail
      refine (K2.out _ (HI.out.below (bb.mono hB)) (Nat.le_trans hB hs2)).mono ?_
      rintro e w3 ⟨vc, rfl, hown, b3⟩
      replace bb := bel_then b3 hs2 bb
      replace hR := hR.below b3 hR.lt
      replace hS := hS.below b3 hS.lt
      have hs3 := bb.size
      go_wp2_with fail
      refine (K3.out _ w.heap.size _ vc (HI.out.below (bb.mono hB)) hown hB (fun he => by have := (hown.lt _ he).1; omega) hR).mono ?_
      rintro e w4 ⟨hO4, rfl, hR4⟩
      have hS4 := hO4.has hS (by omega)
      have bb4 : Below w.heap.size w w4 := only_then hO4 (Nat.le_refl _) hs3 bb
      have e0 := hS4.cell 0
      have e1 := hS4.cell 1
      have g0 := hS4.free 0
      have g1 := hS4.free 1
      simp at e0 e1
      clear hR4 hS4 hR hS hown b3 bb hO4
      go_wp2
      refine bodyPost_ret (v := .tuple #[.int .i64 (-1), .agg #[.string ⟨#[]⟩, .int .i64 0], .bool false]) (by simp [results, Try.results35, go_sem, e0, e1, g0, g1]) rfl ⟨rfl, ?_⟩
      repeat (first | exact Below.refl _ _ | assumption | refine Below.alloc ?_ (by (try simp); (try omega)) _ | refine Below.setCell ?_ (by (try simp); (try omega)) _ | refine Below.drew ?_)
    · rw [hn] at K1 ⊢
      clear hz hn hok h
      go_enter Try.func35, Try.ntmps35
      go_wp2_with fail
      refine (K1.out _ (HI.out.below (bb.mono hB))).mono ?_
      rintro e w1 ⟨rfl, hw1⟩
      rw [← hw1] at hR hS bb
      clear hw1
      have c0 := hR.cell 0
      have c1 := hR.cell 1
      simp at c0 c1
      have hs1 := bb.size
      go_wp2_with fail
      refine (specRdOk_no s at0 _ hs b1 b2 ha).mono ?_
      rintro e w2 ⟨rfl, b3⟩
      replace bb := bel_then b3 hs1 bb
      replace hS := hS.below b3 hS.lt
      have hs2 := bb.size
      have e0 := hS.cell 0
      have e1 := hS.cell 1
      have g0 := hS.free 0
      have g1 := hS.free 1
      simp at e0 e1
      clear c0 c1 b3 hR hS
      go_wp2
      refine bodyPost_ret (v := .tuple #[.int .i64 (-1), .agg #[.string ⟨#[]⟩, .int .i64 0], .bool false]) (by simp [results, Try.results35, go_sem, e0, e1, g0, g1]) rfl ⟨rfl, ?_⟩
      repeat (first | exact Below.refl _ _ | assumption | refine Below.alloc ?_ (by (try simp); (try omega)) _ | refine Below.setCell ?_ (by (try simp); (try omega)) _ | refine Below.drew ?_)
  · have hok' : lOk ls = false := by simpa using hok
    rw [hok', hn] at K1
    rw [hn]
    clear hz hn hok h hok'
    go_enter Try.func35, Try.ntmps35
    go_wp2_with fail
    refine (K1.out _ (HI.out.below (bb.mono hB))).mono ?_
    rintro e w1 ⟨rfl, hw1⟩
    rw [← hw1] at hR hS bb
    clear hw1
    have hs1 := bb.size
    have e0 := hS.cell 0
    have e1 := hS.cell 1
    have g0 := hS.free 0
    have g1 := hS.free 1
    simp at e0 e1
    clear hR hS
    go_wp2
    refine bodyPost_ret (v := .tuple #[.int .i64 (-1), .agg #[.string ⟨#[]⟩, .int .i64 0], .bool false]) (by simp [results, Try.results35, go_sem, e0, e1, g0, g1]) rfl ⟨rfl, ?_⟩
    repeat (first | exact Below.refl _ _ | assumption | refine Below.alloc ?_ (by (try simp); (try omega)) _ | refine Below.setCell ?_ (by (try simp); (try omega)) _ | refine Below.drew ?_)
end Go.Proofs.Ytdfbpmkdmpdobaa
