/- Chapter 4: what was asked of the program, all proved. -/
import Derived.Test.YtdfbpmkdmpdobaaC4A
import Derived.Test.YtdfbpmkdmpdobaaI4S
namespace Go.Proofs.Ytdfbpmkdmpdobaa
set_option linter.unusedVariables false
set_option linter.unusedSimpArgs false
open Go.RowKit Go.Maps

theorem askLensOk4 (a : Option Addr) (cap B : Nat) (zs : List Int) (w : World) (h : Ints w B a zs) :
    Calls Try.prog 40 #[.slice a zs.length cap] w fun e w' => e = .returned (.bool (lOk zs)) ∧ w' = w := implLensOk_any a cap B zs w h
theorem askOrder : AskOrder := fun a cap B ls w hz hB => implOrder_any a cap B ls w hz hB
set_option maxHeartbeats 1000000 in
theorem askCodes : AskCodes := fun a cap B ls w hz hB => by
  have K1 := hidden (implLensOk_any a cap B ls w hz)
  by_cases h : lOk ls = true
  · have K2 := hidden (codesOf_any a cap B ls w hz hB h)
    have HE : Hid ((cdL ls).length = ls.length ∧ natsL (cdL ls) = nats ls.length (cdF ls)) := hidden ⟨cdL_len h, cdL_nats h⟩
    rw [h] at K1
    clear hz h
    go_enter Try.func13, Try.ntmps13
    go_wp2_with fail
    refine K1.out.mono ?_
    rintro e w' ⟨rfl, rfl⟩
    go_wp2_with fail
    refine K2.out.mono ?_
    rintro e w1 ⟨v, rfl, hown, hb⟩
    go_wp2
    go_ret
    rw [HE.out.1, HE.out.2]
    exact ⟨_, rfl, hown, hb⟩
  · have HE : Hid (cdL ls = []) := hidden (by unfold cdL; rw [if_neg h])
    have h2 : lOk ls = false := by simpa using h
    rw [h2] at K1
    clear hz h h2
    go_enter Try.func13, Try.ntmps13
    go_wp2_with fail
    refine K1.out.mono ?_
    rintro e w' ⟨rfl, rfl⟩
    go_wp2
    go_ret
    rw [HE.out]
    exact ⟨_, rfl, World.ownsRow_nil _ _ _ _, Below.refl _ _⟩
theorem askPut : AskPut := fun a a2 cap cap2 B ls ss w h h2 hB hok => implPutSyms_yes a a2 cap cap2 B ls ss w h h2 hB hok
theorem askPutNo : AskPutNo := fun a a2 cap cap2 B ls ss w h h2 hB hok => implPutSyms_no a a2 cap cap2 B ls ss w h h2 hB hok
theorem askSymBits : AskSymBits := fun a a2 cap cap2 B ls ss w h h2 hB => implSymBits_any a a2 cap cap2 B ls ss w h h2
theorem askGetSym : AskGetSym := fun a cap B at0 n0 i0 ls s w hz hB hok hs ha hh => implGetSym_yes a cap B at0 n0 i0 ls s w hz hB hok hs ha hh
theorem askGetSymNo : AskGetSymNo := fun a cap B at0 ls s w hz hB hs b1 b2 h => implGetSym_no a cap B at0 ls s w hz hB hs b1 b2 h
theorem askGetSyms : AskGetSyms := fun a cap B at0 n c0 ls xs s w hz hB hok hs ha hn hx hr => by
  refine (getSyms_any a cap B at0 n ls s w hz hB hok hs ha hn).mono ?_
  rintro e w' ⟨⟨ys, c, v, hl, hrd, rfl, hown⟩ | ⟨hno, _⟩, hb⟩
  · obtain ⟨rfl, rfl⟩ := Reads.one hok hrd hr (by omega)
    exact ⟨v, rfl, hown, hb⟩
  · exact absurd ⟨xs, c0, hx, hr⟩ hno
theorem askGetSymsNo : AskGetSymsNo := fun a cap B at0 n ls s w hz hB hs b1 b2 b3 b4 h => by
  by_cases h3 : lOk ls = true ∧ 0 ≤ at0 ∧ at0 ≤ 8 * s.size ∧ 0 ≤ n ∧ n ≤ 2000
  · obtain ⟨hok, h4, h5, h6, h7⟩ := h3
    obtain ⟨q, rfl⟩ : ∃ q : Nat, at0 = q := ⟨at0.toNat, by omega⟩
    obtain ⟨m, rfl⟩ : ∃ m : Nat, n = m := ⟨n.toNat, by omega⟩
    refine (getSyms_any a cap B q m ls s w hz hB hok hs (by omega) (by omega)).mono ?_
    rintro e w' ⟨⟨ys, c, v, hl, hrd, rfl, hown⟩ | ⟨hno, he⟩, hb⟩
    · exact absurd ⟨hok, by omega, by omega, by omega, by omega, ys, c, by simpa using hl, by simpa using hrd⟩ h
    · exact ⟨_, he, World.ownsRow_nil _ _ _ _, hb⟩
  · refine (getSyms_no a cap B at0 n ls s w hz hB hs b1 b2 b3 b4 h3).mono ?_
    rintro e w' ⟨rfl, hb⟩
    exact ⟨_, rfl, World.ownsRow_nil _ _ _ _, hb⟩
end Go.Proofs.Ytdfbpmkdmpdobaa
