/- Chapter 3: the law's own check that lengths are alive; what is asked of the program's functions, as named propositions. -/
import Derived.Test.YtpmiphnjnbkjlaaC3Plain
import Derived.RegionTactic
import Derived.ChangeAlike
import Derived.Deep.QuietTactic
import Derived.BigQuiet
import Derived.OwnWalk
namespace Go.Proofs.Ytpmiphnjnbkjlaa
set_option linter.unusedVariables false
set_option linter.unusedSimpArgs false
open Go.RowKit

theorem sameInts_any (a a2 : Option Addr) (cap cap2 B : Nat) (zs ys : List Int) (w : World) (hz : Ints w B a zs) (hy : Ints w B a2 ys) :
    Calls Try.prog 39 #[.slice a zs.length cap, .slice a2 ys.length cap2] w fun e w' => e = .returned (.bool (decide (zs = ys))) ∧ Below w.heap.size w w' := by
  obtain ⟨n, hn⟩ : ∃ n, zs.length = n := ⟨_, rfl⟩
  obtain ⟨m, hm⟩ : ∃ m, ys.length = m := ⟨_, rfl⟩
  have HN := hidden hn
  have HM := hidden hm
  have HZ := hidden hz
  have HY := hidden hy
  have hl := hz.1
  have hl2 := hy.1
  rw [hn] at hl ⊢
  rw [hm] at hl2 ⊢
  obtain ⟨r, hr⟩ : ∃ r, decide (zs = ys) = r := ⟨_, rfl⟩
  rw [hr]
  have HR := hidden hr
  clear hn hm hz hy hr
  by_cases hnm : n = m
  · subst hnm
    have hne : ((n : Int) != (n : Int)) = false := by simp
    go_enter Try.func39, Try.ntmps39
    go_wp2
    go_loopw [5] (fun si wr => ∃ k nq : Nat, k ≤ n ∧ si = .int .i64 k ∧ Hid (∀ j, j < k → zs.getD j 0 = ys.getD j 0) ∧ wr = w.drewN nq) (fun si _ => n - (intOf si).toNat)
    case atStart => exact ⟨0, 0, Nat.zero_le _, rfl, hidden (fun j hj => by omega), rfl⟩
    case round =>
      obtain ⟨k, nq, hk, rfl, HE, rfl⟩ := hrel
      by_cases hlt : k < n
      · obtain ⟨b, off, rfl, hb, hc⟩ := HZ.out.2.2 (by rw [HN.out]; omega)
        obtain ⟨b2, off2, rfl, hb2, hc2⟩ := HY.out.2.2 (by rw [HM.out]; omega)
        have ck := hc k (by rw [HN.out]; exact hlt)
        have ck2 := hc2 k (by rw [HM.out]; exact hlt)
        obtain ⟨x, hx⟩ : ∃ x, zs.getD k 0 = x := ⟨_, rfl⟩
        obtain ⟨y, hy⟩ : ∃ y, ys.getD k 0 = y := ⟨_, rfl⟩
        rw [hx] at ck
        rw [hy] at ck2
        have HX := hidden hx
        have HYy := hidden hy
        clear hx hy hc hc2
        by_cases hxy : x = y
        · have hxb : (x != y) = false := by simp [hxy]
          have HE2 : Hid (∀ j, j < k + 1 → zs.getD j 0 = ys.getD j 0) := hidden (fun j hj => by
            rcases Nat.lt_or_ge j k with h | h
            · exact HE.out j h
            · rw [show j = k by omega, HX.out, HYy.out, hxy])
          clear hxy
          go_wp2
          go_quiet (fail)
          go_wp2
          exact ⟨⟨k + 1, _, by omega, by go_num, HE2, rfl⟩, by simp [intOf]; omega⟩
        · have hxb : (x != y) = true := by simp [hxy]
          have HF : Hid (r = false) := hidden (by
            rw [← HR.out, decide_eq_false_iff_not]
            intro e
            exact hxy (by rw [← HX.out, ← HYy.out, e]))
          clear hxy
          go_wp2
          go_quiet (fail)
          go_wp2
          go_ret
          exact ⟨ret_bool HF.out.symm, bel_drewN (bel_drewN (Below.refl _ _) _) _⟩
      · have HF : Hid (r = true) := hidden (by
          rw [← HR.out, decide_eq_true_eq]
          apply List.ext_getElem (by rw [HN.out, HM.out])
          intro j h1 h2
          have := HE.out j (by rw [HN.out] at h1; omega)
          simpa [List.getD_eq_getElem?_getD, h1, h2] using this)
        go_wp2
        go_ret
        exact ⟨ret_bool HF.out.symm, bel_drewN (Below.refl _ _) _⟩
  · have hne : ((n : Int) != (m : Int)) = true := by simp; omega
    have HF : Hid (r = false) := hidden (by
      rw [← HR.out, decide_eq_false_iff_not]
      intro e
      have := congrArg List.length e
      rw [HN.out, HM.out] at this
      exact hnm this)
    clear hnm
    go_enter Try.func39, Try.ntmps39
    go_wp2
    go_ret
    exact ⟨ret_bool HF.out.symm, Below.refl _ _⟩


theorem Ints.lit (w : World) (cs : List Int) (hm : cs.length ≤ 140737488355328) (hr : ∀ x ∈ cs, -9223372036854775808 ≤ x ∧ x ≤ 9223372036854775807) : Ints (w.alloc (.cells (intsV cs).toArray 3)) (w.heap.size + 1) (some ⟨w.heap.size, 0, none⟩) cs := by
  refine ⟨hm, hr, fun h0 => ⟨w.heap.size, 0, rfl, by omega, fun i hi => ?_⟩⟩
  have h := (Has.fresh w 3 (intsV cs).toArray).cell i
  rw [Nat.zero_add]
  refine h.trans ?_
  rw [List.getElem?_toArray]
  exact intsV_get cs i hi
theorem specLens_on (a : Option Addr) (cap B lim : Nat) (zs : List Int) (w : World) (hz : Ints w B a zs) (hB : B ≤ w.heap.size) (h : lensOn zs lim) :
    Calls Try.prog 14 #[.slice a zs.length cap, .int .i64 lim] w fun e w' => ∃ v, e = .returned (.tuple #[v, .bool true]) ∧ w'.ownsRow w.heap.size 3 1 v zs.length (intsV (lensF zs lim)) ∧ Below w.heap.size w w' := by
  obtain ⟨hf, h1, h20, hp⟩ := h
  rw [Int.toNat_natCast] at hp
  have hn := (fOk_iff zs).1 hf
  by_cases e1 : zs.length = 1
  · refine (specLens_one a cap B lim zs w hz hB hf (by omega) (by omega) e1).mono ?_
    rintro e w' ⟨rfl, rfl⟩
    refine ⟨_, rfl, ?_, (Below.refl _ _).alloc (Nat.le_refl _) _⟩
    have e2 : lensF zs lim = [1] := by unfold lensF; rw [if_pos e1]
    rw [e2, e1]
    exact World.ownsRow_lit w #[.int .i64 1] 1 (Nat.le_refl _) (by decide) rfl
  · refine (specLens_yes a cap B lim zs w hz hB hf (by omega) (by omega) (by omega) hp).mono ?_
    rintro e w' ⟨v, L, rfl, hL, hs, hown, hb⟩
    rw [lensF_nats hL hs (by omega)] at hown
    exact ⟨v, rfl, hown, hb⟩

/-! ### what is asked of the program -/
def AskLens : Prop := ∀ (a : Option Addr) (cap B lim : Nat) (zs : List Int) (w : World), Ints w B a zs → B ≤ w.heap.size → lensOn zs lim →
  Calls Try.prog 13 #[.slice a zs.length cap, .int .i64 lim] w fun e w' => ∃ v, e = .returned (.tuple #[v, .bool true]) ∧ w'.ownsRow w.heap.size 3 1 v zs.length (intsV (lensF zs lim)) ∧ Below w.heap.size w w'
def AskLensNo : Prop := ∀ (a : Option Addr) (cap B : Nat) (lim : Int) (zs : List Int) (w : World), Ints w B a zs → -9223372036854775808 ≤ lim → lim ≤ 9223372036854775807 → ¬ lensOn zs lim →
  Calls Try.prog 13 #[.slice a zs.length cap, .int .i64 lim] w fun e w' => e = .returned (.tuple #[.slice none 0 0, .bool false]) ∧ Below w.heap.size w w'
def AskKraft : Prop := ∀ (a : Option Addr) (cap B : Nat) (zs : List Int) (w : World), Ints w B a zs → B ≤ w.heap.size →
  Calls Try.prog 17 #[.slice a zs.length cap] w fun e w' => e = .returned (.int .i64 (kraftI zs)) ∧ Below w.heap.size w w'
def AskLensOk : Prop := ∀ (a : Option Addr) (cap B : Nat) (zs : List Int) (w : World), Ints w B a zs → B ≤ w.heap.size →
  Calls Try.prog 16 #[.slice a zs.length cap] w fun e w' => e = .returned (.bool (lOk zs)) ∧ Below w.heap.size w w'
def AskCost : Prop := ∀ (a a2 : Option Addr) (cap cap2 B : Nat) (zs ls : List Int) (w : World), Ints w B a zs → Ints w B a2 ls → B ≤ w.heap.size →
  Calls Try.prog 18 #[.slice a zs.length cap, .slice a2 ls.length cap2] w fun e w' => e = .returned (.int .i64 (costI zs ls)) ∧ Below w.heap.size w w'
def AskHuff : Prop := ∀ (a : Option Addr) (cap B : Nat) (zs : List Int) (w : World), Ints w B a zs → B ≤ w.heap.size → fOk zs = true →
  Calls Try.prog 21 #[.slice a zs.length cap] w fun e w' => ∃ c : Nat, e = .returned (.int .i64 c) ∧ HuffIs zs c ∧ Below w.heap.size w w'

/-! ### the check that they are alive -/
theorem lens112 : lensF [1, 1, 2] 20 = [2, 2, 1] := by
  have hp : List.Perm [((1 : Nat), (0 : Int)), (1, 1), (2, 2)] (items [1, 1, 2] ([1, 1, 2] : List Int).length) := List.Perm.of_eq (by decide)
  have hs : LexS [((1 : Nat), (0 : Int)), (1, 1), (2, 2)] := by unfold LexS lex; decide
  have e := leafL_eq hp hs
  unfold lensF
  rw [← e]
  decide +kernel
theorem huff112 {c : Nat} (h : HuffIs [1, 1, 2] c) : c = 6 := by
  have h1 : Huff [1, 1, 2] (1 + 1 + (2 + 2 + 0)) := Huff.two _ 1 1 [2] [2, 2] _ (List.Perm.refl _) (by decide) (by decide) (List.Perm.refl _)
    (Huff.two _ 2 2 [] [4] _ (List.Perm.refl _) (by decide) (by decide) (List.Perm.refl _) (Huff.one 4))
  exact huff_same (h.2.1 (by decide)) h1 (List.Perm.refl _)
theorem on112 : lensOn [1, 1, 2] (20 : Nat) := by decide +kernel
theorem kraft112 : kraftI [2, 2, 1] = 1048576 := by decide +kernel

theorem lit112 (w : World) : Ints (w.alloc (.cells #[.int .i64 1, .int .i64 1, .int .i64 2] 3)) (w.heap.size + 1) (some ⟨w.heap.size, 0, none⟩) [1, 1, 2] := Ints.lit w [1, 1, 2] (by decide) (by decide)
theorem lit221 (w : World) : Ints (w.alloc (.cells #[.int .i64 2, .int .i64 2, .int .i64 1] 3)) (w.heap.size + 1) (some ⟨w.heap.size, 0, none⟩) [2, 2, 1] := Ints.lit w [2, 2, 1] (by decide) (by decide)
theorem size_alloc (w : World) (o : Obj) : (w.alloc o).heap.size = w.heap.size + 1 := by simp
theorem same221 (a a2 : Addr) (c c2 B : Nat) (w : World) (h : Ints w B (some a) [2, 2, 1]) (h2 : Ints w B (some a2) [2, 2, 1]) :
    Calls Try.prog 39 #[.slice (some a) 3 c, .slice (some a2) 3 c2] w fun e w' => e = .returned (.bool true) ∧ Below w.heap.size w w' :=
  sameInts_any (some a) (some a2) c c2 B [2, 2, 1] [2, 2, 1] w h h2
theorem kraft221 (hK : AskKraft) (a : Addr) (c B : Nat) (w : World) (h : Ints w B (some a) [2, 2, 1]) (hB : B ≤ w.heap.size) :
    Calls Try.prog 17 #[.slice (some a) 3 c] w fun e w' => e = .returned (.int .i64 1048576) ∧ Below w.heap.size w w' := by
  have := hK (some a) c B [2, 2, 1] w h hB
  rw [kraft112] at this
  exact this
theorem huff6 (hH : AskHuff) (a : Addr) (c B : Nat) (w : World) (h : Ints w B (some a) [1, 1, 2]) (hB : B ≤ w.heap.size) :
    Calls Try.prog 21 #[.slice (some a) 3 c] w fun e w' => e = .returned (.int .i64 6) ∧ Below w.heap.size w w' := by
  refine (hH (some a) c B [1, 1, 2] w h hB (by decide)).mono ?_
  rintro e w' ⟨x, rfl, hx, hb⟩
  exact ⟨by rw [huff112 hx]; rfl, hb⟩
set_option maxHeartbeats 2000000 in
theorem spans_any (hL : AskLens) (hK : AskKraft) (hH : AskHuff) (w : World) : Calls Try.prog 15 #[] w fun e w' => e = .returned (.bool true) ∧ Below w.heap.size w w' := by
  have KL := hidden (hL (some ⟨w.heap.size, 0, none⟩) 3 (w.heap.size + 1) 20 [1, 1, 2] _ (lit112 w) (by rw [size_alloc]; omega) on112)
  rw [lens112] at KL
  go_enter Try.func15, Try.ntmps15
  go_wp2_with fail
  refine KL.out.mono ?_
  rintro e w1 ⟨v, rfl, hown, hb⟩
  obtain ⟨gv, cv, rfl⟩ := Joins.ownsRow_form hown (by decide)
  have hI := (Ints.ofOwn hown (by decide) (by decide)).2
  have h1 := hb.size
  simp at h1
  have bw : Below w.heap.size w w1 := bel_then hb (by simp) ((Below.refl _ _).alloc (Nat.le_refl _) _)
  have HK := hidden (kraft221 hK)
  have HH := hidden (huff6 hH)
  have HO := hidden hown
  clear hown KL hL hK hH hb
  go_wp2_with fail
  refine (same221 _ _ _ _ (w1.heap.size + 1) _ ?_ ?_).mono ?_
  · exact (hI.below ((Below.refl _ _).alloc (Nat.le_refl _) _)).mono (by omega)
  · exact lit221 _
  rintro e w2 ⟨rfl, b2⟩
  have h2 := b2.size
  simp at h2
  have b12 : Below w1.heap.size w1 w2 := bel_then b2 (by simp) ((Below.refl _ _).alloc (Nat.le_refl _) _)
  go_wp2_with fail
  refine (HK.out _ _ (w1.heap.size + 1) _ ?_ ?_).mono ?_
  · exact (hI.below b12).mono (by omega)
  · omega
  rintro e w3 ⟨rfl, b3⟩
  have h3 := b3.size
  go_wp2_with fail
  refine (HH.out _ _ _ _ (lit112 _) ?_).mono ?_
  · rw [size_alloc]; omega
  rintro e w4 ⟨rfl, b4⟩
  go_wp2
  go_ret
  refine ⟨rfl, bel_then b4 (by simp; omega) ?_⟩
  exact ((bw.trans (b12.mono (by omega))).trans (b3.mono (by omega))).alloc (by omega) _
end Go.Proofs.Ytpmiphnjnbkjlaa
