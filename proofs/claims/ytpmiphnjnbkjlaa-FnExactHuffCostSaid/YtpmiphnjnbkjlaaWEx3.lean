/- Chapter 3: the walks of the exact laws on one list (what is asked of the program's functions as hypotheses). -/
import Derived.Test.YtpmiphnjnbkjlaaC3I
import Derived.Test.YtpmiphnjnbkjlaaBase
import Derived.Test.YtpmiphnjnbkjlaaDr
namespace Go.Proofs.Ytpmiphnjnbkjlaa
set_option linter.unusedVariables false
set_option linter.unusedSimpArgs false
open Go.RowKit Go.ChangeShapes Go.WideShapes Go.ChangeAt

theorem Ints.ofRow {w : World} {a : Option Addr} {len cap : Nat} {zs : List Int} (h : IsRow .i64 w a len cap zs) (hle : len ≤ 1048576) : ∃ ys : List Int, ys.length = len ∧ Ints w w.heap.size a ys := by
  rcases h with ⟨rfl, rfl, rfl, rfl⟩ | ⟨x, rfl, hl, hm, hz, hc, hwz⟩
  · exact ⟨[], rfl, by simp, by simp, fun h => by simp at h⟩
  · have hlen : (zs.take len).length = len := by rw [List.length_take]; omega
    refine ⟨zs.take len, hlen, by rw [hlen]; omega, fun n hn => ?_, fun h0 => ?_⟩
    · exact bounds_i64 (hwz n (List.mem_of_mem_take hn))
    · have h1 := hc 0 (by omega)
      obtain ⟨b, off, spot⟩ := x
      have hspot : spot = none := by simpa [Addr.add] using World.cell?_spot h1
      subst hspot
      refine ⟨b, off, rfl, ?_, fun i hi => ?_⟩
      · have := cell_lt h1
        simpa [Addr.add] using this
      · rw [hlen] at hi
        have := hc i (by omega)
        have e2 : (zs.take len).getD i 0 = zs.getD i 0 := by simp [List.getD_eq_getElem?_getD, List.getElem?_take, hi]
        rw [e2]
        by_cases e : i = 0
        · subst e; simpa [Addr.add] using this
        · simpa [Addr.add, e] using this
theorem isrow_len {w : World} {a : Option Addr} {len cap : Nat} {zs : List Int} (h : IsRow .i64 w a len cap zs) : len ≤ maxLen := by
  rcases h with ⟨rfl, rfl, rfl, rfl⟩ | ⟨x, rfl, hl, hm, hz, hc, hwz⟩ <;> omega
def AskFreqs : Prop := ∀ (a : Option Addr) (cap B : Nat) (zs : List Int) (w : World), Ints w B a zs → B ≤ w.heap.size →
  Calls Try.prog 24 #[.slice a zs.length cap] w fun e w' => e = .returned (.bool (fOk zs)) ∧ Below w.heap.size w w'
def AskHuffNo : Prop := ∀ (a : Option Addr) (cap B : Nat) (zs : List Int) (w : World), Ints w B a zs → B ≤ w.heap.size → fOk zs = false →
  Calls Try.prog 21 #[.slice a zs.length cap] w fun e w' => e = .returned (.int .i64 (-1)) ∧ Below w.heap.size w w'
theorem toIntS_n {n : Nat} (a : Option Addr) (cap B : Nat) (zs : List Int) (w : World) (hn : zs.length = n) (hz : Ints w B a zs) (hB : B ≤ w.heap.size) (hlen : n ≤ 1048576) :
    Calls Try.prog 23 #[.slice a n cap] w fun e w' => ∃ g, e = .returned (.slice (some ⟨g, 0, none⟩) n n) ∧ Ints w' w'.heap.size (some ⟨g, 0, none⟩) zs ∧ w'.ownsRow w.heap.size 3 1 (.slice (some ⟨g, 0, none⟩) n n) n (intsV zs) ∧ Below w.heap.size w w' := by
  subst hn
  refine (toIntS_any a cap B zs w hz hB hlen).mono ?_
  rintro e w' ⟨g, rfl, hown, hb⟩
  exact ⟨g, rfl, (Ints.ofOwn hown (by omega) hz.2.1).2, hown, hb⟩
theorem eqSame_n {n : Nat} (p q : Option Addr) (c c2 B : Nat) (zs : List Int) (w : World) (hn : zs.length = n) (hz : Ints w B p zs) (hy : Ints w B q zs) :
    Calls Try.prog 25 #[.slice p n c, .slice q n c2] w fun e w' => e = .returned (.bool true) ∧ Below w.heap.size w w' := by
  subst hn
  have := eqIntS_any p q c c2 B zs zs w hz hy
  simpa using this

set_option maxHeartbeats 2000000 in
theorem walk_FnExactFreqsOk (hA : AskFreqs) (w : World) (a0 : Option Addr) (len0 cap0 : Nat) (z0 : List Int) (w0 : IsRow .i64 w a0 len0 cap0 z0) :
    Calls Try.prog 6 #[.slice a0 len0 cap0] w fun e w' => e = .returned (.bool true) ∧ Below w.heap.size w w' := by
  have hl1 := isrow_len w0
  by_cases hbig : len0 ≤ 1048576
  · obtain ⟨zs, hzl, hI⟩ := Ints.ofRow w0 hbig
    have HI := hidden hI
    have HL := hidden hzl
    clear w0 hI hzl
    have hbI : ¬ (1048576 : Int) < (len0 : Int) := by omega
    obtain ⟨V, hV⟩ : ∃ V, fOk zs = V := ⟨_, rfl⟩
    have KS : Hid (∀ (W : World) (p : Addr) (c : Nat), Ints W W.heap.size (some p) zs → W.heap.size ≤ W.heap.size → Calls Try.prog 22 #[.slice (some p) len0 c] W fun e w' => e = .returned (.bool V) ∧ Below W.heap.size W w') := hidden (fun W p c h _ => by
      have : Calls Try.prog _ _ W _ := (specFreqsOk_any (some p) c W.heap.size zs W h).mono (fun e w' h => (⟨h.1, by rw [h.2]; exact Below.refl _ _⟩ : _ ∧ Below W.heap.size W w'))
      rwa [HL.out, hV] at this)
    have KI : Hid (∀ (W : World) (p : Addr) (c : Nat), Ints W W.heap.size (some p) zs → W.heap.size ≤ W.heap.size → Calls Try.prog 24 #[.slice (some p) len0 c] W fun e w' => e = .returned (.bool V) ∧ Below W.heap.size W w') := hidden (fun W p c h hB => by
      have := hA (some p) c W.heap.size zs W h hB
      rwa [HL.out, hV] at this)
    clear hV hA
    go_enter Try.func6, Try.ntmps6
    go_wp2_with fail
    refine (toIntS_n a0 cap0 _ zs w HL.out HI.out (Nat.le_refl _) hbig).mono ?_
    rintro e w1 ⟨g1, rfl, hJ1, hown1, b1⟩
    have HJ1 := hidden hJ1
    have s1 := b1.size
    have HI1 := hidden (HI.out.below b1)
    clear hJ1 hown1
    go_wp2_with fail
    refine (KS.out _ _ _ HJ1.out (Nat.le_refl _)).mono ?_
    rintro e w2 ⟨rfl, b2⟩
    have s2 := b2.size
    have HI2 := hidden (HI1.out.below (b2.mono s1))
    go_wp2_with fail
    refine (toIntS_n a0 cap0 _ zs w2 HL.out HI2.out (by omega) hbig).mono ?_
    rintro e w3 ⟨g3, rfl, hJ3, hown3, b3⟩
    have HJ3 := hidden hJ3
    have s3 := b3.size
    have HI3 := hidden (HI2.out.below (b3.mono (by omega)))
    clear hJ3 hown3
    go_wp2_with fail
    refine (KI.out _ _ _ HJ3.out (Nat.le_refl _)).mono ?_
    rintro e w4 ⟨rfl, b4⟩
    have s4 := b4.size
    have HI4 := hidden (HI3.out.below (b4.mono (by omega)))
    have HJ4 := hidden (HJ3.out.below b4)
    go_wp2_with fail
    refine (toIntS_n a0 cap0 _ zs w4 HL.out HI4.out (by omega) hbig).mono ?_
    rintro e w5 ⟨g5, rfl, hJ5, hown5, b5⟩
    have s5 := b5.size
    have HJ45 := hidden (HJ4.out.below (b5.mono s4))
    have HJ5 := hidden hJ5
    clear hJ5 hown5
    go_wp2_with fail
    refine (eqSame_n _ _ _ _ w5.heap.size zs w5 HL.out (HJ45.out.mono (by omega)) HJ5.out).mono ?_
    rintro e w6 ⟨rfl, b6⟩
    go_wp2
    go_ret
    exact ⟨rfl, ((((b1.trans (b2.mono (by omega))).trans (b3.mono (by omega))).trans (b4.mono (by omega))).trans (b5.mono (by omega))).trans (b6.mono (by omega))⟩
  · have hbI : (1048576 : Int) < (len0 : Int) := by omega
    go_enter Try.func6, Try.ntmps6
    go_wp2
    go_ret
    exact ⟨rfl, Below.refl _ _⟩

set_option maxHeartbeats 2000000 in
theorem walk_FnExactKraft (hA : AskKraft) (w : World) (a0 : Option Addr) (len0 cap0 : Nat) (z0 : List Int) (w0 : IsRow .i64 w a0 len0 cap0 z0) :
    Calls Try.prog 9 #[.slice a0 len0 cap0] w fun e w' => e = .returned (.bool true) ∧ Below w.heap.size w w' := by
  have hl1 := isrow_len w0
  by_cases hbig : len0 ≤ 1048576
  · obtain ⟨zs, hzl, hI⟩ := Ints.ofRow w0 hbig
    have HI := hidden hI
    have HL := hidden hzl
    clear w0 hI hzl
    have hbI : ¬ (1048576 : Int) < (len0 : Int) := by omega
    obtain ⟨V, hV⟩ : ∃ V, kraftI zs = V := ⟨_, rfl⟩
    have KS : Hid (∀ (W : World) (p : Addr) (c : Nat), Ints W W.heap.size (some p) zs → W.heap.size ≤ W.heap.size → Calls Try.prog 29 #[.slice (some p) len0 c] W fun e w' => e = .returned (.int .i64 V) ∧ Below W.heap.size W w') := hidden (fun W p c h _ => by
      have : Calls Try.prog _ _ W _ := (specKraft_any (some p) c W.heap.size zs W h).mono (fun e w' h => (⟨h.1, by rw [h.2]; exact Below.refl _ _⟩ : _ ∧ Below W.heap.size W w'))
      rwa [HL.out, hV] at this)
    have KI : Hid (∀ (W : World) (p : Addr) (c : Nat), Ints W W.heap.size (some p) zs → W.heap.size ≤ W.heap.size → Calls Try.prog 17 #[.slice (some p) len0 c] W fun e w' => e = .returned (.int .i64 V) ∧ Below W.heap.size W w') := hidden (fun W p c h hB => by
      have := hA (some p) c W.heap.size zs W h hB
      rwa [HL.out, hV] at this)
    clear hV hA
    go_enter Try.func9, Try.ntmps9
    go_wp2_with fail
    refine (toIntS_n a0 cap0 _ zs w HL.out HI.out (Nat.le_refl _) hbig).mono ?_
    rintro e w1 ⟨g1, rfl, hJ1, hown1, b1⟩
    have HJ1 := hidden hJ1
    have s1 := b1.size
    have HI1 := hidden (HI.out.below b1)
    clear hJ1 hown1
    go_wp2_with fail
    refine (KS.out _ _ _ HJ1.out (Nat.le_refl _)).mono ?_
    rintro e w2 ⟨rfl, b2⟩
    have s2 := b2.size
    have HI2 := hidden (HI1.out.below (b2.mono s1))
    go_wp2_with fail
    refine (toIntS_n a0 cap0 _ zs w2 HL.out HI2.out (by omega) hbig).mono ?_
    rintro e w3 ⟨g3, rfl, hJ3, hown3, b3⟩
    have HJ3 := hidden hJ3
    have s3 := b3.size
    have HI3 := hidden (HI2.out.below (b3.mono (by omega)))
    clear hJ3 hown3
    go_wp2_with fail
    refine (KI.out _ _ _ HJ3.out (Nat.le_refl _)).mono ?_
    rintro e w4 ⟨rfl, b4⟩
    have s4 := b4.size
    have HI4 := hidden (HI3.out.below (b4.mono (by omega)))
    have HJ4 := hidden (HJ3.out.below b4)
    go_wp2_with fail
    refine (toIntS_n a0 cap0 _ zs w4 HL.out HI4.out (by omega) hbig).mono ?_
    rintro e w5 ⟨g5, rfl, hJ5, hown5, b5⟩
    have s5 := b5.size
    have HJ45 := hidden (HJ4.out.below (b5.mono s4))
    have HJ5 := hidden hJ5
    clear hJ5 hown5
    go_wp2_with fail
    refine (eqSame_n _ _ _ _ w5.heap.size zs w5 HL.out (HJ45.out.mono (by omega)) HJ5.out).mono ?_
    rintro e w6 ⟨rfl, b6⟩
    go_wp2
    go_ret
    exact ⟨rfl, ((((b1.trans (b2.mono (by omega))).trans (b3.mono (by omega))).trans (b4.mono (by omega))).trans (b5.mono (by omega))).trans (b6.mono (by omega))⟩
  · have hbI : (1048576 : Int) < (len0 : Int) := by omega
    go_enter Try.func9, Try.ntmps9
    go_wp2
    go_ret
    exact ⟨rfl, Below.refl _ _⟩

set_option maxHeartbeats 2000000 in
theorem walk_FnExactLensOk (hA : AskLensOk) (w : World) (a0 : Option Addr) (len0 cap0 : Nat) (z0 : List Int) (w0 : IsRow .i64 w a0 len0 cap0 z0) :
    Calls Try.prog 8 #[.slice a0 len0 cap0] w fun e w' => e = .returned (.bool true) ∧ Below w.heap.size w w' := by
  have hl1 := isrow_len w0
  by_cases hbig : len0 ≤ 1048576
  · obtain ⟨zs, hzl, hI⟩ := Ints.ofRow w0 hbig
    have HI := hidden hI
    have HL := hidden hzl
    clear w0 hI hzl
    have hbI : ¬ (1048576 : Int) < (len0 : Int) := by omega
    obtain ⟨V, hV⟩ : ∃ V, lOk zs = V := ⟨_, rfl⟩
    have KS : Hid (∀ (W : World) (p : Addr) (c : Nat), Ints W W.heap.size (some p) zs → W.heap.size ≤ W.heap.size → Calls Try.prog 28 #[.slice (some p) len0 c] W fun e w' => e = .returned (.bool V) ∧ Below W.heap.size W w') := hidden (fun W p c h _ => by
      have : Calls Try.prog _ _ W _ := (specLensOk_any (some p) c W.heap.size zs W h).mono (fun e w' h => (⟨h.1, by rw [h.2]; exact Below.refl _ _⟩ : _ ∧ Below W.heap.size W w'))
      rwa [HL.out, hV] at this)
    have KI : Hid (∀ (W : World) (p : Addr) (c : Nat), Ints W W.heap.size (some p) zs → W.heap.size ≤ W.heap.size → Calls Try.prog 16 #[.slice (some p) len0 c] W fun e w' => e = .returned (.bool V) ∧ Below W.heap.size W w') := hidden (fun W p c h hB => by
      have := hA (some p) c W.heap.size zs W h hB
      rwa [HL.out, hV] at this)
    clear hV hA
    go_enter Try.func8, Try.ntmps8
    go_wp2_with fail
    refine (toIntS_n a0 cap0 _ zs w HL.out HI.out (Nat.le_refl _) hbig).mono ?_
    rintro e w1 ⟨g1, rfl, hJ1, hown1, b1⟩
    have HJ1 := hidden hJ1
    have s1 := b1.size
    have HI1 := hidden (HI.out.below b1)
    clear hJ1 hown1
    go_wp2_with fail
    refine (KS.out _ _ _ HJ1.out (Nat.le_refl _)).mono ?_
    rintro e w2 ⟨rfl, b2⟩
    have s2 := b2.size
    have HI2 := hidden (HI1.out.below (b2.mono s1))
    go_wp2_with fail
    refine (toIntS_n a0 cap0 _ zs w2 HL.out HI2.out (by omega) hbig).mono ?_
    rintro e w3 ⟨g3, rfl, hJ3, hown3, b3⟩
    have HJ3 := hidden hJ3
    have s3 := b3.size
    have HI3 := hidden (HI2.out.below (b3.mono (by omega)))
    clear hJ3 hown3
    go_wp2_with fail
    refine (KI.out _ _ _ HJ3.out (Nat.le_refl _)).mono ?_
    rintro e w4 ⟨rfl, b4⟩
    have s4 := b4.size
    have HI4 := hidden (HI3.out.below (b4.mono (by omega)))
    have HJ4 := hidden (HJ3.out.below b4)
    go_wp2_with fail
    refine (toIntS_n a0 cap0 _ zs w4 HL.out HI4.out (by omega) hbig).mono ?_
    rintro e w5 ⟨g5, rfl, hJ5, hown5, b5⟩
    have s5 := b5.size
    have HJ45 := hidden (HJ4.out.below (b5.mono s4))
    have HJ5 := hidden hJ5
    clear hJ5 hown5
    go_wp2_with fail
    refine (eqSame_n _ _ _ _ w5.heap.size zs w5 HL.out (HJ45.out.mono (by omega)) HJ5.out).mono ?_
    rintro e w6 ⟨rfl, b6⟩
    go_wp2
    go_ret
    exact ⟨rfl, ((((b1.trans (b2.mono (by omega))).trans (b3.mono (by omega))).trans (b4.mono (by omega))).trans (b5.mono (by omega))).trans (b6.mono (by omega))⟩
  · have hbI : (1048576 : Int) < (len0 : Int) := by omega
    go_enter Try.func8, Try.ntmps8
    go_wp2
    go_ret
    exact ⟨rfl, Below.refl _ _⟩

set_option maxHeartbeats 2000000 in
theorem huffCost_yes (hH : AskHuff) (w : World) (a0 : Option Addr) (len0 cap0 : Nat) (zs : List Int) (HI : Hid (Ints w w.heap.size a0 zs)) (HL : Hid (zs.length = len0)) (hbig : len0 ≤ 1048576) (hf : fOk zs = true) :
    Calls Try.prog 11 #[.slice a0 len0 cap0] w fun e w' => e = .returned (.bool true) ∧ Below w.heap.size w w' := by
  have KS : Hid (∀ (W : World) (p : Addr) (c : Nat), Ints W W.heap.size (some p) zs → W.heap.size ≤ W.heap.size → Calls Try.prog 30 #[.slice (some p) len0 c] W fun e w' =>  ∃ c : Nat, e = .returned (.int .i64 c) ∧ HuffIs zs c ∧ Below W.heap.size W w') := hidden (fun W p c h hB => by
    have := specHuff_yes (some p) c W.heap.size zs W h (Nat.le_refl _) hf
    rwa [HL.out] at this)
  have KI : Hid (∀ (W : World) (p : Addr) (c : Nat), Ints W W.heap.size (some p) zs → W.heap.size ≤ W.heap.size → Calls Try.prog 21 #[.slice (some p) len0 c] W fun e w' =>  ∃ c : Nat, e = .returned (.int .i64 c) ∧ HuffIs zs c ∧ Below W.heap.size W w') := hidden (fun W p c h hB => by
    have := hH (some p) c W.heap.size zs W h (Nat.le_refl _) hf
    rwa [HL.out] at this)
  clear hH
  have hbI : ¬ (1048576 : Int) < (len0 : Int) := by omega
  go_enter Try.func11, Try.ntmps11
  go_wp2_with fail
  refine (toIntS_n a0 cap0 _ zs w HL.out HI.out (Nat.le_refl _) hbig).mono ?_
  rintro e w1 ⟨g1, rfl, hJ1, hown1, b1⟩
  have HJ1 := hidden hJ1
  have s1 := b1.size
  have HI1 := hidden (HI.out.below b1)
  clear hJ1 hown1
  go_wp2_with fail
  refine (KS.out _ _ _ HJ1.out (Nat.le_refl _)).mono ?_
  rintro e w2 ⟨x, rfl, hx, b2⟩
  have s2 := b2.size
  have HI2 := hidden (HI1.out.below (b2.mono s1))
  go_wp2_with fail
  refine (toIntS_n a0 cap0 _ zs w2 HL.out HI2.out (by omega) hbig).mono ?_
  rintro e w3 ⟨g3, rfl, hJ3, hown3, b3⟩
  have HJ3 := hidden hJ3
  have s3 := b3.size
  have HI3 := hidden (HI2.out.below (b3.mono (by omega)))
  clear hJ3 hown3
  go_wp2_with fail
  refine (KI.out _ _ _ HJ3.out (Nat.le_refl _)).mono ?_
  rintro e w4 ⟨y, rfl, hy, b4⟩
  have hxy := huff_one hf hx hy
  subst hxy
  have s4 := b4.size
  have HI4 := hidden (HI3.out.below (b4.mono (by omega)))
  have HJ4 := hidden (HJ3.out.below b4)
  go_wp2_with fail
  refine (toIntS_n a0 cap0 _ zs w4 HL.out HI4.out (by omega) hbig).mono ?_
  rintro e w5 ⟨g5, rfl, hJ5, hown5, b5⟩
  have s5 := b5.size
  have HJ45 := hidden (HJ4.out.below (b5.mono s4))
  have HJ5 := hidden hJ5
  clear hJ5 hown5
  go_wp2_with fail
  refine (eqSame_n _ _ _ _ w5.heap.size zs w5 HL.out (HJ45.out.mono (by omega)) HJ5.out).mono ?_
  rintro e w6 ⟨rfl, b6⟩
  go_wp2
  go_ret
  exact ⟨rfl, ((((b1.trans (b2.mono (by omega))).trans (b3.mono (by omega))).trans (b4.mono (by omega))).trans (b5.mono (by omega))).trans (b6.mono (by omega))⟩

set_option maxHeartbeats 2000000 in
theorem huffCost_no (hN : AskHuffNo) (w : World) (a0 : Option Addr) (len0 cap0 : Nat) (zs : List Int) (HI : Hid (Ints w w.heap.size a0 zs)) (HL : Hid (zs.length = len0)) (hbig : len0 ≤ 1048576) (hf : fOk zs = false) :
    Calls Try.prog 11 #[.slice a0 len0 cap0] w fun e w' => e = .returned (.bool true) ∧ Below w.heap.size w w' := by
  have KS : Hid (∀ (W : World) (p : Addr) (c : Nat), Ints W W.heap.size (some p) zs → W.heap.size ≤ W.heap.size → Calls Try.prog 30 #[.slice (some p) len0 c] W fun e w' =>  e = .returned (.int .i64 (-1)) ∧ Below W.heap.size W w') := hidden (fun W p c h hB => by
    have : Calls Try.prog _ _ W _ := (specHuff_no (some p) c W.heap.size zs W h hf).mono (fun e w' h => (⟨h.1, by rw [h.2]; exact Below.refl _ _⟩ : _ ∧ Below W.heap.size W w'))
    rwa [HL.out] at this)
  have KI : Hid (∀ (W : World) (p : Addr) (c : Nat), Ints W W.heap.size (some p) zs → W.heap.size ≤ W.heap.size → Calls Try.prog 21 #[.slice (some p) len0 c] W fun e w' =>  e = .returned (.int .i64 (-1)) ∧ Below W.heap.size W w') := hidden (fun W p c h hB => by
    have := hN (some p) c W.heap.size zs W h (Nat.le_refl _) hf
    rwa [HL.out] at this)
  clear hN
  have hbI : ¬ (1048576 : Int) < (len0 : Int) := by omega
  go_enter Try.func11, Try.ntmps11
  go_wp2_with fail
  refine (toIntS_n a0 cap0 _ zs w HL.out HI.out (Nat.le_refl _) hbig).mono ?_
  rintro e w1 ⟨g1, rfl, hJ1, hown1, b1⟩
  have HJ1 := hidden hJ1
  have s1 := b1.size
  have HI1 := hidden (HI.out.below b1)
  clear hJ1 hown1
  go_wp2_with fail
  refine (KS.out _ _ _ HJ1.out (Nat.le_refl _)).mono ?_
  rintro e w2 ⟨rfl, b2⟩
  have s2 := b2.size
  have HI2 := hidden (HI1.out.below (b2.mono s1))
  go_wp2_with fail
  refine (toIntS_n a0 cap0 _ zs w2 HL.out HI2.out (by omega) hbig).mono ?_
  rintro e w3 ⟨g3, rfl, hJ3, hown3, b3⟩
  have HJ3 := hidden hJ3
  have s3 := b3.size
  have HI3 := hidden (HI2.out.below (b3.mono (by omega)))
  clear hJ3 hown3
  go_wp2_with fail
  refine (KI.out _ _ _ HJ3.out (Nat.le_refl _)).mono ?_
  rintro e w4 ⟨rfl, b4⟩
  have s4 := b4.size
  have HI4 := hidden (HI3.out.below (b4.mono (by omega)))
  have HJ4 := hidden (HJ3.out.below b4)
  go_wp2_with fail
  refine (toIntS_n a0 cap0 _ zs w4 HL.out HI4.out (by omega) hbig).mono ?_
  rintro e w5 ⟨g5, rfl, hJ5, hown5, b5⟩
  have s5 := b5.size
  have HJ45 := hidden (HJ4.out.below (b5.mono s4))
  have HJ5 := hidden hJ5
  clear hJ5 hown5
  go_wp2_with fail
  refine (eqSame_n _ _ _ _ w5.heap.size zs w5 HL.out (HJ45.out.mono (by omega)) HJ5.out).mono ?_
  rintro e w6 ⟨rfl, b6⟩
  go_wp2
  go_ret
  exact ⟨rfl, ((((b1.trans (b2.mono (by omega))).trans (b3.mono (by omega))).trans (b4.mono (by omega))).trans (b5.mono (by omega))).trans (b6.mono (by omega))⟩

set_option maxHeartbeats 2000000 in
theorem walk_FnExactHuffCost (hH : AskHuff) (hN : AskHuffNo) (w : World) (a0 : Option Addr) (len0 cap0 : Nat) (z0 : List Int) (w0 : IsRow .i64 w a0 len0 cap0 z0) :
    Calls Try.prog 11 #[.slice a0 len0 cap0] w fun e w' => e = .returned (.bool true) ∧ Below w.heap.size w w' := by
  have hl1 := isrow_len w0
  by_cases hbig : len0 ≤ 1048576
  · obtain ⟨zs, hzl, hI⟩ := Ints.ofRow w0 hbig
    have HI := hidden hI
    have HL := hidden hzl
    clear w0 hI hzl
    by_cases hf : fOk zs = true
    · exact huffCost_yes hH w a0 len0 cap0 zs HI HL hbig hf
    · exact huffCost_no hN w a0 len0 cap0 zs HI HL hbig (by simpa using hf)
  · have hbI : (1048576 : Int) < (len0 : Int) := by omega
    go_enter Try.func11, Try.ntmps11
    go_wp2
    go_ret
    exact ⟨rfl, Below.refl _ _⟩
end Go.Proofs.Ytpmiphnjnbkjlaa
