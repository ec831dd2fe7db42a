/- Chapter 4: what is asked of the program's functions, as named propositions; the exact laws out of them. -/
import Derived.Test.YtdfbpmkdmpdobaaC4W
import Derived.Test.YtdfbpmkdmpdobaaC4I
import Derived.Test.YtdfbpmkdmpdobaaWExOrder
import Derived.Test.YtdfbpmkdmpdobaaWExCodes
import Derived.Test.YtdfbpmkdmpdobaaWExPutSyms
import Derived.Test.YtdfbpmkdmpdobaaWExSymBits
import Derived.Test.YtdfbpmkdmpdobaaWExGetSym
import Derived.Test.YtdfbpmkdmpdobaaWExGetSyms
namespace Go.Proofs.Ytdfbpmkdmpdobaa
set_option linter.unusedVariables false
set_option linter.unusedSimpArgs false
open Go.RowKit

def AskOrder : Prop := ∀ (a : Option Addr) (cap B : Nat) (ls : List Int) (w : World), Ints w B a ls → B ≤ w.heap.size →
  Calls Try.prog 27 #[.slice a ls.length cap] w fun e w' => ∃ v, e = .returned v ∧ w'.ownsRow w.heap.size 3 1 v (ordL ls).length (natsL (ordL ls)) ∧ Below w.heap.size w w'
def AskCodes : Prop := ∀ (a : Option Addr) (cap B : Nat) (ls : List Int) (w : World), Ints w B a ls → B ≤ w.heap.size →
  Calls Try.prog 13 #[.slice a ls.length cap] w fun e w' => ∃ v, e = .returned v ∧ w'.ownsRow w.heap.size 3 1 v (cdL ls).length (natsL (cdL ls)) ∧ Below w.heap.size w w'
def AskPut : Prop := ∀ (a a2 : Option Addr) (cap cap2 B : Nat) (ls ss : List Int) (w : World), Ints w B a ls → Ints w B a2 ss → B ≤ w.heap.size → putOk ls ss = true →
  Calls Try.prog 17 #[.slice a ls.length cap, .slice a2 ss.length cap2] w fun e w' => ∃ D, Packs D (putL ls ss ss.length) ∧ e = .returned (.tuple #[.agg #[.string (strOf D), .int .i64 (lenSum ls ss ss.length)], .bool true]) ∧ Below w.heap.size w w'
def AskPutNo : Prop := ∀ (a a2 : Option Addr) (cap cap2 B : Nat) (ls ss : List Int) (w : World), Ints w B a ls → Ints w B a2 ss → B ≤ w.heap.size → putOk ls ss = false →
  Calls Try.prog 17 #[.slice a ls.length cap, .slice a2 ss.length cap2] w fun e w' => e = .returned (.tuple #[.agg #[.string ⟨#[]⟩, .int .i64 0], .bool false]) ∧ Below w.heap.size w w'
def AskSymBits : Prop := ∀ (a a2 : Option Addr) (cap cap2 B : Nat) (ls ss : List Int) (w : World), Ints w B a ls → Ints w B a2 ss → B ≤ w.heap.size →
  Calls Try.prog 19 #[.slice a ls.length cap, .slice a2 ss.length cap2] w fun e w' => e = .returned (.int .i64 (symBitsI ls ss)) ∧ Below w.heap.size w w'
def AskGetSym : Prop := ∀ (a : Option Addr) (cap B at0 n0 i0 : Nat) (ls : List Int) (s : ByteArray) (w : World), Ints w B a ls → B ≤ w.heap.size → lOk ls = true → s.size ≤ 1048576 → at0 ≤ 8 * s.size → hit ls s at0 n0 i0 →
  Calls Try.prog 24 #[.slice a ls.length cap, .agg #[.string s, .int .i64 at0]] w fun e w' => e = .returned (.tuple #[.int .i64 i0, .agg #[.string s, .int .i64 ((at0 + n0 : Nat) : Int)], .bool true]) ∧ Below w.heap.size w w'
def AskGetSymNo : Prop := ∀ (a : Option Addr) (cap B : Nat) (at0 : Int) (ls : List Int) (s : ByteArray) (w : World), Ints w B a ls → B ≤ w.heap.size → s.size ≤ 1048576 → -9223372036854775808 ≤ at0 → at0 ≤ 9223372036854775807 →
  ¬ (lOk ls = true ∧ 0 ≤ at0 ∧ at0 ≤ 8 * s.size ∧ ∃ n i, hit ls s at0.toNat n i) →
  Calls Try.prog 24 #[.slice a ls.length cap, .agg #[.string s, .int .i64 at0]] w fun e w' => e = .returned (.tuple #[.int .i64 (-1), .agg #[.string ⟨#[]⟩, .int .i64 0], .bool false]) ∧ Below w.heap.size w w'
def AskGetSyms : Prop := ∀ (a : Option Addr) (cap B at0 n c0 : Nat) (ls : List Int) (xs : List Nat) (s : ByteArray) (w : World), Ints w B a ls → B ≤ w.heap.size → lOk ls = true → s.size ≤ 1048576 → at0 ≤ 8 * s.size → n ≤ 2000 → xs.length = n → Reads ls s at0 xs c0 →
  Calls Try.prog 20 #[.slice a ls.length cap, .agg #[.string s, .int .i64 at0], .int .i64 n] w fun e w' => ∃ v, e = .returned (.tuple #[v, .agg #[.string s, .int .i64 c0], .bool true]) ∧ w'.ownsRow w.heap.size 3 1 v n (natsL xs) ∧ Below w.heap.size w w'
def AskGetSymsNo : Prop := ∀ (a : Option Addr) (cap B : Nat) (at0 n : Int) (ls : List Int) (s : ByteArray) (w : World), Ints w B a ls → B ≤ w.heap.size → s.size ≤ 1048576 → -9223372036854775808 ≤ at0 → at0 ≤ 9223372036854775807 → -9223372036854775808 ≤ n → n ≤ 9223372036854775807 →
  ¬ (lOk ls = true ∧ 0 ≤ at0 ∧ at0 ≤ 8 * s.size ∧ 0 ≤ n ∧ n ≤ 2000 ∧ ∃ xs c, xs.length = n.toNat ∧ Reads ls s at0.toNat xs c) →
  Calls Try.prog 20 #[.slice a ls.length cap, .agg #[.string s, .int .i64 at0], .int .i64 n] w fun e w' => ∃ v, e = .returned (.tuple #[v, .agg #[.string ⟨#[]⟩, .int .i64 0], .bool false]) ∧ w'.ownsRow w.heap.size 3 1 v 0 [] ∧ Below w.heap.size w w'

def ofN (D : List Nat) : List Int := D.map fun (x : Nat) => (x : Int)
theorem ofN_len (D : List Nat) : (ofN D).length = D.length := by simp [ofN]
theorem ofN_cells (D : List Nat) : intsV (ofN D) = natsL D := by simp [ofN, intsV, natsL]
theorem ofN_range (D : List Nat) (b : Nat) (hb : b ≤ 4611686018427387904) (h : ∀ x ∈ D, x ≤ b) : ∀ x ∈ ofN D, -9223372036854775808 ≤ x ∧ x ≤ 9223372036854775807 := by
  intro x hx
  simp only [ofN, List.mem_map] at hx
  obtain ⟨y, hy, rfl⟩ := hx
  have := h y hy
  omega
theorem ordL_bound (ls : List Int) : (ordL ls).length ≤ 260 ∧ ∀ x ∈ ordL ls, x ≤ 260 := by
  unfold ordL
  by_cases h : lOk ls = true
  · rw [if_pos h]
    have hr := lOk_range h
    exact ⟨by rw [ordF_len hr]; exact hr.2.1, fun x hx => by have := ordF_mem x hx; have := hr.2.1; omega⟩
  · rw [if_neg h]; exact ⟨Nat.zero_le _, fun x hx => by simp at hx⟩
theorem cdL_bound (ls : List Int) : (cdL ls).length ≤ 260 ∧ ∀ x ∈ cdL ls, x ≤ 1048576 := by
  by_cases h : lOk ls = true
  · have hr := lOk_range h
    refine ⟨by rw [cdL_len h]; exact hr.2.1, fun x hx => ?_⟩
    unfold cdL at hx; rw [if_pos h] at hx
    simp only [List.mem_map, List.mem_range] at hx
    obtain ⟨s, hs, rfl⟩ := hx
    exact Nat.le_of_lt (cdF_lt20 h s hs)
  · unfold cdL; rw [if_neg h]; exact ⟨Nat.zero_le _, fun x hx => by simp at hx⟩
theorem meetsOrder (hA : AskOrder) : MeetsOrder := fun z0 hl hr => by
  have hb := ordL_bound z0
  refine ⟨ofN (ordL z0), ⟨by rw [ofN_len]; omega, ofN_range _ 260 (by omega) hb.2⟩, ?_, ?_⟩
  · intro W p c h
    rw [ofN_len, ofN_cells]
    exact specOrder_any (some p) c W.heap.size z0 W h (Nat.le_refl _)
  · intro W p c h
    rw [ofN_len, ofN_cells]
    exact hA (some p) c W.heap.size z0 W h (Nat.le_refl _)
theorem meetsCodes (hA : AskCodes) : MeetsCodes := fun z0 hl hr => by
  have hb := cdL_bound z0
  refine ⟨ofN (cdL z0), ⟨by rw [ofN_len]; omega, ofN_range _ 1048576 (by omega) hb.2⟩, ?_, ?_⟩
  · intro W p c h
    rw [ofN_len, ofN_cells]
    exact specCodes_any (some p) c W.heap.size z0 W h (Nat.le_refl _)
  · intro W p c h
    rw [ofN_len, ofN_cells]
    exact hA (some p) c W.heap.size z0 W h (Nat.le_refl _)
theorem meetsSymBits (hA : AskSymBits) : MeetsSymBits := fun z0 z1 hl hr hl1 hr1 => by
  refine ⟨symBitsI z0 z1, ?_, ?_⟩
  · intro W p0 c0 p1 c1 h h1
    exact specSymBits_any (some p0) (some p1) c0 c1 W.heap.size z0 z1 W h h1
  · intro W p0 c0 p1 c1 h h1
    exact hA (some p0) (some p1) c0 c1 W.heap.size z0 z1 W h h1 (Nat.le_refl _)
theorem meetsPutSyms (hA : AskPut) (hN : AskPutNo) : MeetsPutSyms := fun z0 z1 hl hr hl1 hr1 => by
  by_cases hok : putOk z0 z1 = true
  · by_cases hex : ∃ D, Packs D (putL z0 z1 z1.length)
    · obtain ⟨D, hD⟩ := hex
      refine ⟨strOf D, (lenSum z0 z1 z1.length : Int), true, ?_, ?_⟩
      · intro W p0 c0 p1 c1 h h1
        refine (specPutSyms_yes (some p0) (some p1) c0 c1 W.heap.size z0 z1 W h h1 (Nat.le_refl _) hok).mono ?_
        rintro e w' ⟨D2, hD2, he, hb⟩
        rw [hD2.unique hD] at he
        exact ⟨he, hb⟩
      · intro W p0 c0 p1 c1 h h1
        refine (hA (some p0) (some p1) c0 c1 W.heap.size z0 z1 W h h1 (Nat.le_refl _) hok).mono ?_
        rintro e w' ⟨D2, hD2, he, hb⟩
        rw [hD2.unique hD] at he
        exact ⟨he, hb⟩
    · refine ⟨⟨#[]⟩, 0, true, ?_, ?_⟩
      · intro W p0 c0 p1 c1 h h1
        refine (specPutSyms_yes (some p0) (some p1) c0 c1 W.heap.size z0 z1 W h h1 (Nat.le_refl _) hok).mono ?_
        rintro e w' ⟨D2, hD2, he, hb⟩
        exact absurd ⟨D2, hD2⟩ hex
      · intro W p0 c0 p1 c1 h h1
        refine (hA (some p0) (some p1) c0 c1 W.heap.size z0 z1 W h h1 (Nat.le_refl _) hok).mono ?_
        rintro e w' ⟨D2, hD2, he, hb⟩
        exact absurd ⟨D2, hD2⟩ hex
  · have hno : putOk z0 z1 = false := by simpa using hok
    refine ⟨⟨#[]⟩, 0, false, ?_, ?_⟩
    · intro W p0 c0 p1 c1 h h1
      exact specPutSyms_no (some p0) (some p1) c0 c1 W.heap.size z0 z1 W h h1 (Nat.le_refl _) hno
    · intro W p0 c0 p1 c1 h h1
      exact hN (some p0) (some p1) c0 c1 W.heap.size z0 z1 W h h1 (Nat.le_refl _) hno
theorem meetsGetSym (hA : AskGetSym) (hN : AskGetSymNo) : MeetsGetSym := fun z0 s1 a1 hl hr hs b1 b2 => by
  by_cases h : lOk z0 = true ∧ 0 ≤ a1 ∧ a1 ≤ 8 * s1.size ∧ ∃ n i, hit z0 s1 a1.toNat n i
  · obtain ⟨hok, h0, h1, n, i, hh⟩ := h
    obtain ⟨q, rfl⟩ : ∃ q : Nat, a1 = q := ⟨a1.toNat, by omega⟩
    rw [Int.toNat_natCast] at hh
    refine ⟨(i : Int), s1, ((q + n : Nat) : Int), true, ?_, ?_⟩
    · intro W p c hI
      exact specGetSym_yes (some p) c W.heap.size q n i z0 s1 W hI (Nat.le_refl _) hok hs (by omega) hh
    · intro W p c hI
      exact hA (some p) c W.heap.size q n i z0 s1 W hI (Nat.le_refl _) hok hs (by omega) hh
  · refine ⟨-1, ⟨#[]⟩, 0, false, ?_, ?_⟩
    · intro W p c hI
      exact specGetSym_no (some p) c W.heap.size a1 z0 s1 W hI (Nat.le_refl _) hs b1 b2 h
    · intro W p c hI
      exact hN (some p) c W.heap.size a1 z0 s1 W hI (Nat.le_refl _) hs b1 b2 h
theorem meetsGetSyms (hA : AskGetSyms) (hN : AskGetSymsNo) : MeetsGetSyms := fun z0 s1 a1 a2 hl hr hs b1 b2 b3 b4 => by
  by_cases h : lOk z0 = true ∧ 0 ≤ a1 ∧ a1 ≤ 8 * s1.size ∧ 0 ≤ a2 ∧ a2 ≤ 2000 ∧ ∃ xs c, xs.length = a2.toNat ∧ Reads z0 s1 a1.toNat xs c
  · obtain ⟨hok, h0, h1, h2, h3, xs, c0, hx, hrd⟩ := h
    obtain ⟨q, rfl⟩ : ∃ q : Nat, a1 = q := ⟨a1.toNat, by omega⟩
    obtain ⟨m, rfl⟩ : ∃ q : Nat, a2 = q := ⟨a2.toNat, by omega⟩
    rw [Int.toNat_natCast] at hx hrd
    have hlr := lOk_range hok
    refine ⟨ofN xs, s1, (c0 : Int), true, ⟨by rw [ofN_len]; omega, ofN_range _ 260 (by omega) (fun x hx => by have := hrd.mem x hx; have := hlr.2.1; omega)⟩, ?_, ?_⟩
    · intro W p c hI
      rw [ofN_len, ofN_cells, hx]
      exact specGetSyms_yes (some p) c W.heap.size q m c0 z0 xs s1 W hI (Nat.le_refl _) hok hs (by omega) (by omega) hx hrd
    · intro W p c hI
      rw [ofN_len, ofN_cells, hx]
      exact hA (some p) c W.heap.size q m c0 z0 xs s1 W hI (Nat.le_refl _) hok hs (by omega) (by omega) hx hrd
  · refine ⟨[], ⟨#[]⟩, 0, false, ⟨by simp, by simp⟩, ?_, ?_⟩
    · intro W p c hI
      refine (specGetSyms_no (some p) c W.heap.size a1 a2 z0 s1 W hI (Nat.le_refl _) hs b1 b2 b3 b4 h).mono ?_
      rintro e w' ⟨rfl, hb⟩
      exact ⟨_, rfl, World.ownsRow_nil _ _ _ _, hb⟩
    · intro W p c hI
      exact hN (some p) c W.heap.size a1 a2 z0 s1 W hI (Nat.le_refl _) hs b1 b2 b3 b4 h
end Go.Proofs.Ytdfbpmkdmpdobaa
