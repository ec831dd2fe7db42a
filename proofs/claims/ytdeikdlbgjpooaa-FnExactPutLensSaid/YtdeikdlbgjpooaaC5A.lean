/- Chapter 5: what is asked of the program's functions, as named propositions; the exact laws out of them. -/
import Derived.Test.YtdeikdlbgjpooaaC5B
import Derived.Test.YtdeikdlbgjpooaaC5H
import Derived.Test.YtdeikdlbgjpooaaWExPutLens
import Derived.Test.YtdeikdlbgjpooaaWExLensCost
import Derived.Test.YtdeikdlbgjpooaaWExGetLens
namespace Go.Proofs.Ytdeikdlbgjpooaa
set_option linter.unusedVariables false
set_option linter.unusedSimpArgs false
open Go.RowKit

def AskPutLens : Prop := ∀ (a : Option Addr) (cap B : Nat) (ls : List Int) (w : World), Ints w B a ls → B ≤ w.heap.size → lOk ls = true →
  Calls Try.prog 8 #[.slice a ls.length cap] w fun e w' => ∃ D, Packs D (put5 ls) ∧ e = .returned (.tuple #[.agg #[.string (strOf D), .int .i64 ((put5 ls).length : Int)], .bool true]) ∧ Below w.heap.size w w'
def AskPutLensNo : Prop := ∀ (a : Option Addr) (cap B : Nat) (ls : List Int) (w : World), Ints w B a ls → B ≤ w.heap.size → lOk ls = false →
  Calls Try.prog 8 #[.slice a ls.length cap] w fun e w' => e = .returned (.tuple #[.agg #[.string ⟨#[]⟩, .int .i64 0], .bool false]) ∧ Below w.heap.size w w'
def AskLensCost : Prop := ∀ (a : Option Addr) (cap B : Nat) (ls : List Int) (w : World), Ints w B a ls → B ≤ w.heap.size →
  Calls Try.prog 12 #[.slice a ls.length cap] w fun e w' => e = .returned (.int .i64 (costL ls)) ∧ Below w.heap.size w w'
def AskGetLens : Prop := ∀ (s : ByteArray) (at0 n : Nat) (w : World), s.size ≤ 1048576 → at0 ≤ 8 * s.size → 1 ≤ n → n ≤ 260 →
  Calls Try.prog 16 #[.agg #[.string s, .int .i64 at0], .int .i64 n] w (GL5 s at0 n w)
def AskGetLensNo : Prop := ∀ (s : ByteArray) (at0 n : Int) (w : World), s.size ≤ 1048576 → -9223372036854775808 ≤ at0 → at0 ≤ 9223372036854775807 → -9223372036854775808 ≤ n → n ≤ 9223372036854775807 → ¬ (0 ≤ at0 ∧ at0 ≤ 8 * s.size ∧ 1 ≤ n ∧ n ≤ 260) →
  Calls Try.prog 16 #[.agg #[.string s, .int .i64 at0], .int .i64 n] w fun e w' => e = .returned (.tuple #[.slice none 0 0, .agg #[.string ⟨#[]⟩, .int .i64 0], .bool false]) ∧ Below w.heap.size w w'

theorem meetsPutLens (hA : AskPutLens) (hN : AskPutLensNo) : MeetsPutLens := fun z0 hl hr => by
  by_cases hok : lOk z0 = true
  · by_cases hex : ∃ D, Packs D (put5 z0)
    · obtain ⟨D, hD⟩ := hex
      refine ⟨strOf D, ((put5 z0).length : Int), true, ?_, ?_⟩
      · intro W p0 c0 h
        refine (specPutLens_yes (some p0) c0 W.heap.size z0 W h (Nat.le_refl _) hok).mono ?_
        rintro e w' ⟨D2, hD2, he, hb⟩
        rw [hD2.unique hD] at he
        exact ⟨he, hb⟩
      · intro W p0 c0 h
        refine (hA (some p0) c0 W.heap.size z0 W h (Nat.le_refl _) hok).mono ?_
        rintro e w' ⟨D2, hD2, he, hb⟩
        rw [hD2.unique hD] at he
        exact ⟨he, hb⟩
    · refine ⟨⟨#[]⟩, 0, true, ?_, ?_⟩
      · intro W p0 c0 h
        refine (specPutLens_yes (some p0) c0 W.heap.size z0 W h (Nat.le_refl _) hok).mono ?_
        rintro e w' ⟨D2, hD2, he, hb⟩
        exact absurd ⟨D2, hD2⟩ hex
      · intro W p0 c0 h
        refine (hA (some p0) c0 W.heap.size z0 W h (Nat.le_refl _) hok).mono ?_
        rintro e w' ⟨D2, hD2, he, hb⟩
        exact absurd ⟨D2, hD2⟩ hex
  · have hno : lOk z0 = false := by simpa using hok
    refine ⟨⟨#[]⟩, 0, false, ?_, ?_⟩
    · intro W p0 c0 h
      exact specPutLens_no (some p0) c0 W.heap.size z0 W h (Nat.le_refl _) hno
    · intro W p0 c0 h
      exact hN (some p0) c0 W.heap.size z0 W h (Nat.le_refl _) hno
theorem meetsLensCost (hA : AskLensCost) : MeetsLensCost := fun z0 hl hr => by
  refine ⟨costL z0, ?_, ?_⟩
  · intro W p0 c0 h
    exact specLensCost_any (some p0) c0 W.heap.size z0 W h
  · intro W p0 c0 h
    exact hA (some p0) c0 W.heap.size z0 W h (Nat.le_refl _)
theorem iL_cells (xs : List Nat) : intsV (iL xs) = natsL xs := by simp [iL, intsV, natsL]
theorem gl5_yes {s : ByteArray} {at0 n c : Nat} {xs : List Nat} {w : World} {e : Ending} {w' : World} (h : GL5 s at0 n w e w') (hr : reads5 s at0 n xs c) :
    ∃ v, e = .returned (.tuple #[v, .agg #[.string s, .int .i64 (c : Int)], .bool true]) ∧ w'.ownsRow w.heap.size 3 1 v (iL xs).length (intsV (iL xs)) ∧ Below w.heap.size w w' := by
  obtain ⟨⟨ys, d, v, h2, rfl, hown⟩ | ⟨hno, _⟩, hb⟩ := h
  · obtain ⟨rfl, rfl⟩ := reads5_one h2 hr
    refine ⟨v, rfl, ?_, hb⟩
    rw [iL_cells, iL_len, h2.1]; exact hown
  · exact absurd ⟨xs, c, hr⟩ hno
theorem gl5_no {s : ByteArray} {at0 n : Nat} {w : World} {e : Ending} {w' : World} (h : GL5 s at0 n w e w') (hr : ¬ ∃ xs c, reads5 s at0 n xs c) :
    ∃ v, e = .returned (.tuple #[v, .agg #[.string ⟨#[]⟩, .int .i64 0], .bool false]) ∧ w'.ownsRow w.heap.size 3 1 v ([] : List Int).length (intsV []) ∧ Below w.heap.size w w' := by
  obtain ⟨⟨ys, d, v, h2, rfl, hown⟩ | ⟨hno, rfl⟩, hb⟩ := h
  · exact absurd ⟨ys, d, h2⟩ hr
  · exact ⟨_, rfl, World.ownsRow_nil _ _ _ _, hb⟩
theorem meetsGetLens (hA : AskGetLens) (hN : AskGetLensNo) : MeetsGetLens := fun s0 a0 a1 hs b1 b2 b3 b4 => by
  by_cases h : 0 ≤ a0 ∧ a0 ≤ 8 * s0.size ∧ 1 ≤ a1 ∧ a1 ≤ 260
  · obtain ⟨q, rfl⟩ : ∃ q : Nat, a0 = q := ⟨a0.toNat, by omega⟩
    obtain ⟨m, rfl⟩ : ∃ q : Nat, a1 = q := ⟨a1.toNat, by omega⟩
    by_cases hex : ∃ xs c, reads5 s0 q m xs c
    · obtain ⟨xs, c, hr⟩ := hex
      refine ⟨iL xs, s0, (c : Int), true, ⟨by rw [iL_len, hr.1]; omega, fun x hx => ?_⟩, ?_, ?_⟩
      · simp only [iL, List.mem_map] at hx
        obtain ⟨y, hy, rfl⟩ := hx
        have := hr.2.1.range y hy
        omega
      · intro W
        exact (specGetLens_any s0 q m W hs (by omega) (by omega) (by omega)).mono fun e w' hp => gl5_yes hp hr
      · intro W
        exact (hA s0 q m W hs (by omega) (by omega) (by omega)).mono fun e w' hp => gl5_yes hp hr
    · refine ⟨[], ⟨#[]⟩, 0, false, ⟨by simp, by simp⟩, ?_, ?_⟩
      · intro W
        exact (specGetLens_any s0 q m W hs (by omega) (by omega) (by omega)).mono fun e w' hp => gl5_no hp hex
      · intro W
        exact (hA s0 q m W hs (by omega) (by omega) (by omega)).mono fun e w' hp => gl5_no hp hex
  · refine ⟨[], ⟨#[]⟩, 0, false, ⟨by simp, by simp⟩, ?_, ?_⟩
    · intro W
      refine (specGetLens_no s0 a0 a1 W hs b1 b2 b3 b4 h).mono ?_
      rintro e w' ⟨rfl, hb⟩
      exact ⟨_, rfl, World.ownsRow_nil _ _ _ _, hb⟩
    · intro W
      refine (hN s0 a0 a1 W hs b1 b2 b3 b4 h).mono ?_
      rintro e w' ⟨rfl, hb⟩
      exact ⟨_, rfl, World.ownsRow_nil _ _ _ _, hb⟩
end Go.Proofs.Ytdeikdlbgjpooaa
