/- Chapter 6: what is asked of the program's functions, as named propositions; the exact laws out of them. -/
import Derived.Test.YtpngomjkapccdaaC6
import Derived.Test.YtpngomjkapccdaaSent
import Derived.Test.YtpngomjkapccdaaC6H
import Derived.Test.YtpngomjkapccdaaWExPutGamma
import Derived.Test.YtpngomjkapccdaaWExGammaBits
import Derived.Test.YtpngomjkapccdaaWExGetGamma
namespace Go.Proofs.Ytpngomjkapccdaa
set_option linter.unusedVariables false
set_option linter.unusedSimpArgs false
open Go.RowKit

def AskPutGamma : Prop := ∀ (n : Nat) (w : World), 1 ≤ n → n ≤ 1048575 →
  Calls Try.prog 14 #[.int .i64 n] w fun e w' => ∃ D, Packs D (gamL n) ∧ e = .returned (.agg #[.string (strOf D), .int .i64 ((gamL n).length : Int)]) ∧ Below w.heap.size w w'
def AskPutGammaNo : Prop := ∀ (n : Int) (w : World), -9223372036854775808 ≤ n → n ≤ 9223372036854775807 → gamOk n = false →
  Calls Try.prog 14 #[.int .i64 n] w fun e w' => e = .returned (.agg #[.string ⟨#[]⟩, .int .i64 0]) ∧ Below w.heap.size w w'
def AskGammaBits : Prop := ∀ (n : Int) (w : World), -9223372036854775808 ≤ n → n ≤ 9223372036854775807 →
  Calls Try.prog 17 #[.int .i64 n] w fun e w' => e = .returned (.int .i64 (gamB n)) ∧ Below w.heap.size w w'
theorem meetsPutGamma (hA : AskPutGamma) (hN : AskPutGammaNo) : MeetsPutGamma := fun a0 b1 b2 => by
  by_cases hok : gamOk a0 = true
  · have hr := (gamOk_iff a0).1 hok
    obtain ⟨n, rfl⟩ : ∃ q : Nat, a0 = q := ⟨a0.toNat, by omega⟩
    by_cases hex : ∃ D, Packs D (gamL n)
    · obtain ⟨D, hD⟩ := hex
      refine ⟨strOf D, ((gamL n).length : Int), ?_, ?_⟩
      · intro W
        refine (specPutGamma_yes n W (by omega) (by omega)).mono ?_
        rintro e w' ⟨D2, hD2, he, hb⟩
        rw [hD2.unique hD] at he
        exact ⟨he, hb⟩
      · intro W
        refine (hA n W (by omega) (by omega)).mono ?_
        rintro e w' ⟨D2, hD2, he, hb⟩
        rw [hD2.unique hD] at he
        exact ⟨he, hb⟩
    · refine ⟨⟨#[]⟩, 0, ?_, ?_⟩
      · intro W
        refine (specPutGamma_yes n W (by omega) (by omega)).mono ?_
        rintro e w' ⟨D2, hD2, he, hb⟩
        exact absurd ⟨D2, hD2⟩ hex
      · intro W
        refine (hA n W (by omega) (by omega)).mono ?_
        rintro e w' ⟨D2, hD2, he, hb⟩
        exact absurd ⟨D2, hD2⟩ hex
  · have hno : gamOk a0 = false := by simpa using hok
    exact ⟨⟨#[]⟩, 0, fun W => specPutGamma_no a0 W hno, fun W => hN a0 W b1 b2 hno⟩
theorem meetsGammaBits (hA : AskGammaBits) : MeetsGammaBits := fun a0 b1 b2 => ⟨gamB a0, fun W => specGammaBits_any a0 W, fun W => hA a0 W b1 b2⟩
theorem gg6_yes {s : ByteArray} {at0 k n : Nat} {w : World} {e : Ending} {w' : World} (h : GG6 s at0 w e w') (hg : Gam s at0 k n) :
    e = .returned (.tuple #[.int .i64 (n : Int), .agg #[.string s, .int .i64 ((at0 + (2 * k + 1) : Nat) : Int)], .bool true]) ∧ Below w.heap.size w w' := by
  obtain ⟨⟨j, m, h2, rfl⟩ | ⟨hno, _⟩, hb⟩ := h
  · obtain ⟨rfl, rfl⟩ := gam_one h2 hg
    exact ⟨rfl, hb⟩
  · exact absurd hg (hno k n)
theorem gg6_no {s : ByteArray} {at0 : Nat} {w : World} {e : Ending} {w' : World} (h : GG6 s at0 w e w') (hg : ¬ ∃ k n, Gam s at0 k n) :
    e = .returned (.tuple #[.int .i64 0, .agg #[.string ⟨#[]⟩, .int .i64 0], .bool false]) ∧ Below w.heap.size w w' := by
  obtain ⟨⟨j, m, h2, rfl⟩ | ⟨hno, rfl⟩, hb⟩ := h
  · exact absurd ⟨j, m, h2⟩ hg
  · exact ⟨rfl, hb⟩
end Go.Proofs.Ytpngomjkapccdaa
