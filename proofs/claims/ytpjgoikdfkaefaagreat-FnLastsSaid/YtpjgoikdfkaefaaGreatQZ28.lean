/- Merged: Dr10U. -/
import Derived.Test.YtpjgoikdfkaefaaGreatQZ13
import Derived.Test.YtpjgoikdfkaefaaGreatQZ16
import Derived.Test.YtpjgoikdfkaefaaGreatQZ25
import Derived.Test.YtpjgoikdfkaefaaGreatQZ21
namespace Go.Proofs.YtpjgoikdfkaefaaGreat
set_option linter.unusedVariables false
set_option linter.unusedSimpArgs false
open Go.RowKit

theorem only_bel10 {g : Nat} {a b c : World} (h : Only g a b) (k : Below b.heap.size b c) : Only g a c :=
  ⟨k.os.trans h.os, k.tape.trans h.tape, k.output.trans h.output, Nat.le_trans h.size k.size, fun i hi hne => (k.block i (Nat.lt_of_lt_of_le hi h.size)).trans (h.block i hi hne)⟩
set_option maxHeartbeats 1000000 in
set_option maxRecDepth 100000 in
theorem drawUnrotate_any (a : Option Addr) (len cap : Nat) (zs : List Int) (w : World) (hcode : Code w w.heap.size a len cap zs) :
    Calls Tryz.prog 7 #[.slice a len cap] w fun e w' => ∃ (s : ByteArray) (f : Int), e = .returned (.tuple #[.string s, .int .i64 f]) ∧ s.size ≤ 1000 ∧ -1 ≤ f ∧ f ≤ 2000 ∧ Below w.heap.size w w' := by
  have hl := hcode.1
  go_enter Tryz.func7, Tryz.ntmps7
  go_wp2_with fail
  refine (l1New_any _ _ _ _ _ hcode).mono ?_
  rintro e w1 ⟨g, rfl, hc1, b1⟩
  have hg := hc1.1
  go_wp2_with (go_at_call 19; refine (l1Size_any _ _ _ _ _ (by omega) (by omega) (by omega)).mono ?_; rintro e w2 ⟨m, rfl, m1, m2, rfl⟩)
  go_wp2_with fail
  refine (l10text_any g _ m _ hc1 (by omega) (by omega)).mono ?_
  rintro e w3 ⟨t, rfl, ht, hc3, O3⟩
  have B3 := only_then O3 hg b1.size b1
  clear O3 hc1 b1
  go_wp2_with fail
  refine (specLast_any t _ (by omega)).mono ?_
  rintro e w4 ⟨rfl, b4⟩
  have B4 := bel_then b4 B3.size B3
  have hc4 := hc3.below b4 hc3.lt
  have hL := lstZ_le t
  have hF := fstZ_range t
  generalize lstZ t = L at hL ⊢
  generalize fstZ t = F at hF ⊢
  obtain ⟨hF1, hF2⟩ := hF
  clear hc3 b4 B3
  go_wp2_with fail
  refine (l1Below_any g _ 5 _ hc4 (by omega)).mono ?_
  rintro e w5 ⟨k, rfl, hk0, hk1, _, hc5, O5⟩
  have B5 := only_then O5 hg B4.size B4
  clear O5 hc4 B4 hk1
  by_cases e0 : k = 0
  · subst e0
    go_wp2_with fail
    refine (l1Below_any g _ _ _ hc5 (by omega)).mono ?_
    rintro e w6 ⟨n, rfl, hn0, hn1, _, hc6, O6⟩
    have hn2 : n < (L.size : Int) + 2 := hn1 (by omega)
    have B6 := only_then O6 hg B5.size B5
    clear hn1
    go_wp2
    go_ret2
    exact ⟨L, _, rfl, by omega, by omega, by omega, B6⟩
  by_cases e1 : k = 1
  · subst e1
    go_wp2_with fail
    refine (l1bend_any g _ L _ hc5 (by omega)).mono ?_
    rintro e w6 ⟨x, rfl, hx, hc6, O6⟩
    have B6 := only_then O6 hg B5.size B5
    go_wp2
    go_ret2
    exact ⟨x, F, rfl, by omega, by omega, by omega, B6⟩
  · go_wp2
    go_ret2
    exact ⟨L, F, rfl, by omega, by omega, by omega, B5⟩
end Go.Proofs.YtpjgoikdfkaefaaGreat
