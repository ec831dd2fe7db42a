/- Chapter 6: what is asked of the program's functions, as named propositions; the exact laws out of them. -/
import Derived.Test.YtpngomjkapccdaaDoorC6
import Derived.Test.YtpngomjkapccdaaDoorSent
import Derived.Test.YtpngomjkapccdaaDoorC6H
import Derived.Test.YtpngomjkapccdaaDoorWExPutGamma
import Derived.Test.YtpngomjkapccdaaDoorWExGammaBits
import Derived.Test.YtpngomjkapccdaaDoorWExGetGamma
namespace Go.Proofs.YtpngomjkapccdaaDoor
set_option linter.unusedVariables false
set_option linter.unusedSimpArgs false
open Go.RowKit

def AskPutGamma : Prop := ∀ (n : Nat) (w : World), 1 ≤ n → n ≤ 1048575 →
  Calls Tryd.prog 6 #[.int .i64 n] w fun e w' => ∃ D, Packs D (gamL n) ∧ e = .returned (.agg #[.string (strOf D), .int .i64 ((gamL n).length : Int)]) ∧ Below w.heap.size w w'
def AskPutGammaNo : Prop := ∀ (n : Int) (w : World), -9223372036854775808 ≤ n → n ≤ 9223372036854775807 → gamOk n = false →
  Calls Tryd.prog 6 #[.int .i64 n] w fun e w' => e = .returned (.agg #[.string ⟨#[]⟩, .int .i64 0]) ∧ Below w.heap.size w w'
def AskGammaBits : Prop := ∀ (n : Int) (w : World), -9223372036854775808 ≤ n → n ≤ 9223372036854775807 →
  Calls Tryd.prog 7 #[.int .i64 n] w fun e w' => e = .returned (.int .i64 (gamB n)) ∧ Below w.heap.size w w'
def AskGetGamma : Prop := ∀ (s : ByteArray) (at0 : Nat) (w : World), Sent w → s.size ≤ 1048576 → at0 ≤ 8 * s.size →
  Calls Tryd.prog 11 #[.agg #[.string s, .int .i64 at0]] w (GG6 s at0 w)
def AskGetGammaNo : Prop := ∀ (s : ByteArray) (at0 : Int) (w : World), s.size ≤ 1048576 → -9223372036854775808 ≤ at0 → at0 ≤ 9223372036854775807 → ¬ (0 ≤ at0 ∧ at0 ≤ 8 * s.size) →
  Calls Tryd.prog 11 #[.agg #[.string s, .int .i64 at0]] w fun e w' => e = .returned (.tuple #[.int .i64 0, .agg #[.string ⟨#[]⟩, .int .i64 0], .bool false]) ∧ Below w.heap.size w w'

theorem gg6_yes {s : ByteArray} {at0 k n : Nat} {w : World} {e : Ending} {w' : World} (h : GG6 s at0 w e w') (hg : Gam s at0 k n) :
    e = .returned (.tuple #[.int .i64 (n : Int), .agg #[.string s, .int .i64 ((at0 + (2 * k + 1) : Nat) : Int)], .bool true]) ∧ Below w.heap.size w w' := by
  obtain ⟨⟨j, m, h2, rfl⟩ | ⟨hno, _⟩, hb⟩ := h
  · obtain ⟨rfl, rfl⟩ := gam_one h2 hg
    exact ⟨rfl, hb⟩
  · exact absurd hg (hno k n)
theorem gg6_no {s : ByteArray} {at0 : Nat} {w : World} {e : Ending} {w' : World} (h : GG6 s at0 w e w') (hg : ¬ ∃ k n, Gam s at0 k n) :
    e = .returned (.tuple #[.int .i64 0, .agg #[.string ⟨#[]⟩, .int .i64 0], .bool false]) ∧ Below w.heap.size w w' := by
  obtain ⟨⟨j, m, h2, rfl⟩ | ⟨hno, rfl⟩, hb⟩ := h
  · exact absurd ⟨j, m, h2⟩ hg
  · exact ⟨rfl, hb⟩
theorem meetsGetGamma (hA : AskGetGamma) (hN : AskGetGammaNo) : MeetsGetGamma := fun s0 a0 hs b1 b2 => by
  by_cases h : 0 ≤ a0 ∧ a0 ≤ 8 * s0.size
  · obtain ⟨q, rfl⟩ : ∃ q : Nat, a0 = q := ⟨a0.toNat, by omega⟩
    by_cases hex : ∃ k n, Gam s0 q k n
    · obtain ⟨k, n, hg⟩ := hex
      exact ⟨(n : Int), s0, ((q + (2 * k + 1) : Nat) : Int), true, fun W => (specGetGamma_any s0 q W hs (by omega)).mono fun e w' hp => gg6_yes hp hg, fun W hS => (hA s0 q W hS hs (by omega)).mono fun e w' hp => gg6_yes hp hg⟩
    · exact ⟨0, ⟨#[]⟩, 0, false, fun W => (specGetGamma_any s0 q W hs (by omega)).mono fun e w' hp => gg6_no hp hex, fun W hS => (hA s0 q W hS hs (by omega)).mono fun e w' hp => gg6_no hp hex⟩
  · exact ⟨0, ⟨#[]⟩, 0, false, fun W => specGetGamma_no s0 a0 W hs b1 b2 h, fun W _ => hN s0 a0 W hs b1 b2 h⟩
end Go.Proofs.YtpngomjkapccdaaDoor
