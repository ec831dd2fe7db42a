/- Chapter 3, the program: Huffman's sum. -/
import Derived.Test.YtpmiphnjnbkjlaaI3S
namespace Go.Proofs.Ytpmiphnjnbkjlaa
set_option linter.unusedVariables false
set_option linter.unusedSimpArgs false
open Go.RowKit

theorem implHuff_no (a : Option Addr) (cap B : Nat) (zs : List Int) (w : World) (hz : Ints w B a zs) (hf : fOk zs = false) :
    Calls Try.prog 21 #[.slice a zs.length cap] w fun e w' => e = .returned (.int .i64 (-1)) ∧ w' = w := by
  have K1 := hidden (implFreqsOk_any a cap B zs w hz)
  rw [hf] at K1
  go_enter Try.func21, Try.ntmps21
  go_wp2_with fail
  refine K1.out.mono ?_
  rintro e w' ⟨rfl, rfl⟩
  go_wp2
  go_ret
  exact ⟨rfl, rfl⟩
theorem askHuffNo : AskHuffNo := fun a cap B zs w hz _ hf => (implHuff_no a cap B zs w hz hf).mono (by rintro e w' ⟨rfl, rfl⟩; exact ⟨rfl, Below.refl _ _⟩)
set_option maxHeartbeats 4000000 in
theorem implHuff_yes (a : Option Addr) (cap B : Nat) (zs : List Int) (w : World) (hz : Ints w B a zs) (hB : B ≤ w.heap.size) (hf : fOk zs = true) :
    Calls Try.prog 21 #[.slice a zs.length cap] w fun e w' => ∃ c : Nat, e = .returned (.int .i64 c) ∧ HuffIs zs c ∧ Below w.heap.size w w' := by
  have hfr := (fOk_iff zs).1 hf
  obtain ⟨n, hn⟩ : ∃ n, zs.length = n := ⟨_, rfl⟩
  have K1 := hidden (implFreqsOk_any a cap B zs w hz)
  have K2 := hidden (weightsOf_any a cap B zs w hz hB hfr.2.1 hfr.2.2)
  rw [hf] at K1
  have HR := hidden hfr.2.2
  have hn260 : n ≤ 260 := by rw [← hn]; exact hfr.2.1
  have hn1 : 1 ≤ n := by rw [← hn]; exact hfr.1
  have KS : Hid (∀ (W : World) (v : Value) (base : Nat), W.ownsRow base 3 1 v n (natsL (wl zs n)) → Calls Try.prog 41 #[v, .func (.func 43) #[] #[]] W fun e w' => ∃ v, e = .returned v ∧ w'.ownsRow W.heap.size 3 1 v n (natsL (srt ltN (wl zs n))) ∧ Below W.heap.size W w') := hidden (fun W v base h => by
    obtain ⟨a3, c3, rfl, h1, h2⟩ := own_full h
    exact sortedN_any n a3 c3 W.heap.size (wl zs n) W (wl_len zs n) (Lies.own h) (Nat.le_refl _) h1 h2 (by omega))
  have HSUM : Hid ((wl zs n).sum ≤ 1000000 * n) := hidden (by
    have key : ∀ k, k ≤ n → (wl zs k).sum ≤ 1000000 * k := by
      intro k
      induction k with
      | zero => intro _; exact Nat.le_refl _
      | succ k ih =>
        intro hk
        rw [wl_succ, List.sum_append]
        have h1 := ih (by omega)
        have hr := hfr.2.2 k (by omega)
        rcases wgt_le (zs.getD k 0) hr.2 with h | h
        · have : [wgt (zs.getD k 0)].sum = wgt (zs.getD k 0) := by simp
          omega
        · omega
    exact key n (Nat.le_refl _))
  rw [hn] at K1 K2 ⊢
  have HN := hidden hn
  clear hf hfr hn hz
  go_enter Try.func21, Try.ntmps21
  go_wp2_with fail
  refine K1.out.mono ?_
  rintro e w' ⟨rfl, rfl⟩
  go_wp2_with fail
  refine K2.out.mono ?_
  rintro e w1 ⟨v1, rfl, own1, b1⟩
  go_wp2_with fail
  refine (KS.out _ _ _ own1).mono ?_
  rintro e w2 ⟨v2, rfl, own2, b2⟩
  have bb := bel_then b2 b1.size b1
  have own2' := Joins.ownsRow_le own2 b1.size
  obtain ⟨S, hS⟩ : ∃ S, srt ltN (wl zs n) = S := ⟨_, rfl⟩
  have hSl : S.length = n := by rw [← hS, srt_len, wl_len]
  have HSS : Hid (Sorted S) := hidden (by rw [← hS]; exact srt_nat _)
  have HSP : Hid (S.Perm (wl zs n)) := hidden (by rw [← hS]; exact srt_perm _ _)
  rw [hS] at own2'
  have HSl := hidden hSl
  clear own1 own2 b1 b2 hS hSl
  obtain ⟨g0, c0, hv⟩ := Joins.ownsRow_form own2' (by omega)
  subst hv
  by_cases h1 : n = 1
  · subst h1
    have hw1 : wl zs 1 = [wgt (zs.getD 0 0)] := rfl
    have hS1 : S = [wgt (zs.getD 0 0)] := List.perm_singleton.1 (by rw [← hw1]; exact HSP.out)
    have hxr := HR.out 0 (by rw [HN.out]; omega)
    obtain ⟨W, hW⟩ : ∃ W, wgt (zs.getD 0 0) = W := ⟨_, rfl⟩
    have hW2 : 1 ≤ W ∧ W ≤ 1000000 := by rcases wgt_le _ hxr.2 with h | h <;> omega
    have hc := own2'.cellAt 0 (by omega)
    rw [hS1, hW] at hc
    have hc' : w2.cell? ⟨g0, 0, none⟩ = some (.int .i64 (W : Int)) := hc
    have HW := hidden hW
    clear hw1 hS1 hxr hW hc
    go_wp2
    go_ret
    exact ⟨W, rfl, ⟨fun _ => HW.out.symm, fun h => by rw [HN.out] at h; omega, by omega⟩, bb⟩
  · have hb1 : ((n : Int) == 1) = false := by rw [beq_eq_false_iff_ne]; omega
    have hk2 : 2 ≤ n := by omega
    clear h1
    go_wp2
    go_loopw [3, 4] (fun v sa wx => ∃ (D : List Nat) (acc : Nat), 1 ≤ D.length ∧ D.length ≤ n ∧ sa = .int .i64 acc ∧ wx.ownsRow w'.heap.size 3 1 v D.length (natsL D) ∧ Hid (Sorted D) ∧ Hid (∀ c, Huff D c → Huff (wl zs n) (acc + c)) ∧ Hid (D.sum ≤ 1000000 * n) ∧ acc ≤ 1000000 * n * (n - D.length) ∧ Below w'.heap.size w' wx) (fun v _ _ => match v with | .slice _ l _ => l | _ => 0)
    case atStart => exact ⟨S, 0, by rw [HSl.out]; omega, by rw [HSl.out]; exact Nat.le_refl _, rfl, by rw [HSl.out]; exact own2', HSS, hidden (fun c h => by rw [Nat.zero_add]; exact huff_perm h HSP.out.symm), hidden (by rw [perm_sum HSP.out]; exact HSUM.out), Nat.zero_le _, bb⟩
    case round =>
      obtain ⟨D, acc, hD1, hDk, rfl, hownD, HDS, HH, HSD, hacc, hblD⟩ := hrel
      have hsD := hblD.size
      obtain ⟨gd, cd, hv⟩ := Joins.ownsRow_form hownD (by omega)
      subst hv
      by_cases h1D : 1 < D.length
      · obtain ⟨x, y, R, rfl⟩ : ∃ x y R, D = x :: y :: R := by
          cases D with
          | nil => simp at h1D
          | cons x D => cases D with
            | nil => simp at h1D
            | cons y R => exact ⟨x, y, R, rfl⟩
        obtain ⟨d, hd⟩ : ∃ d, R.length = d := ⟨_, rfl⟩
        have hl2 : (x :: y :: R).length = d + 2 := by simp [hd]
        rw [hl2] at hownD h1D hDk hacc hD1 ⊢
        have hcap : d + 2 ≤ cd := by
          obtain ⟨a', c', e, h, _⟩ := own_full hownD
          simp only [Value.slice.injEq] at e
          omega
        have e0 := hownD.cellAt 0 (by omega)
        have e1 := hownD.cellAt 1 (by omega)
        have e0' : wr.cell? ⟨gd, 0, none⟩ = some (.int .i64 (x : Int)) := e0
        have e1' : wr.cell? ⟨gd, 1, none⟩ = some (.int .i64 (y : Int)) := e1
        have hgd := hownD.lt gd rfl
        have hSm := HSD.out
        simp only [List.sum_cons] at hSm
        obtain ⟨s, hs⟩ : ∃ s, x + y = s := ⟨_, rfl⟩
        have hsI : (x : Int) + (y : Int) = (s : Int) := by omega
        have hsb : s ≤ 260000000 := by omega
        have haccb : acc ≤ 70000000000 := by
          have : 1000000 * n * (n - (d + 2)) ≤ 1000000 * 260 * 260 := Nat.mul_le_mul (by omega) (by omega)
          omega
        have HH2 : Hid (∀ c, Huff (mrg ltN R [s]) c → Huff (wl zs n) (acc + s + c)) := hidden (fun c h => by
          rw [← hs] at h ⊢
          have := HH.out _ (huff_sorted HDS.out h)
          rwa [show acc + (x + y + c) = acc + (x + y) + c by omega] at this)
        have HS2 : Hid ((mrg ltN R [s]).sum ≤ 1000000 * n) := hidden (by rw [perm_sum (mrg_perm _ _ _), List.sum_append]; simp; omega)
        have HD2 : Hid (Sorted (mrg ltN R [s])) := hidden (by rw [← hs]; exact sorted_next HDS.out)
        have HL2 : Hid ((mrg ltN R [s]).length = d + 1) := hidden (by rw [mrg_len, hd]; rfl)
        have HA2 : Hid (acc + s ≤ 1000000 * n * (n - (d + 1))) := hidden (by
          rw [show n - (d + 1) = n - (d + 2) + 1 by omega, Nat.mul_succ]; omega)
        have LR : Hid (Lies wr wr.heap.size (some ⟨gd, 2, none⟩) (natsL R)) := hidden ((Lies.own hownD).drop 2)
        have hdI : (1 : Int) < ((d + 2 : Nat) : Int) := by omega
        have HD := hidden hd
        have KM := hidden (fun (W : World) (a1 a2 : Option Addr) (c1 c2 : Nat) (h1 : Lies W W.heap.size a1 (natsL R)) (h2 : Lies W W.heap.size a2 (natsL [s])) (h3 : d ≤ c1) (h4 : 1 ≤ c2) (h5 : a1 = none → d = 0 ∧ c1 = 0) (h6 : a2 = none → 1 = 0 ∧ c2 = 0) => mergedN_any a1 a2 c1 c2 W.heap.size R [s] W h1 h2 (Nat.le_refl _) (by rw [hd]; exact h3) h4 (by rw [hd]; exact h5) h6 (by omega) (by simp))
        rw [hd] at KM
        clear e0 e1 hSm hs hd hacc hl2
        by_cases hc2 : cd = 2
        · subst hc2
          obtain rfl : d = 0 := by omega
          have hR0 : Hid (R = []) := hidden (List.eq_nil_of_length_eq_zero HD.out)
          go_wp2
          go_quiet (fail)
          clear hsI
          go_wp2_with fail
          refine (KM.out _ _ _ _ _ (by rw [hR0.out]; exact Lies.nil _ _ _) (Lies.own (World.ownsRow_lit (base := 0) (e := 3) (size := 1) _ #[.int .i64 (s : Int)] 1 (Nat.zero_le _) (by decide) rfl)) (Nat.zero_le _) (Nat.le_refl _) (fun e => by cases e) (fun e => by cases e)).mono ?_
          rintro e w3 ⟨v3, rfl, own3, b3⟩
          have hbA : Below w'.heap.size w' ((wr.drewN nq).alloc (.cells #[.int .i64 (s : Int)] 3)) := (bel_drewN hblD nq).alloc hsD _
          have hb3 := bel_then b3 hbA.size hbA
          have own3' := Joins.ownsRow_le own3 hbA.size
          replace own3' : w3.ownsRow w'.heap.size 3 1 v3 (0 + 1) (natsL (mrg ltN R [s])) := own3'
          obtain ⟨g3, c3, hv3⟩ := Joins.ownsRow_form own3' (by omega)
          subst hv3
          clear own3 b3 hbA
          go_wp2
          refine ⟨⟨mrg ltN R [s], acc + s, by rw [HL2.out]; omega, by rw [HL2.out]; omega, by go_num, by rw [HL2.out]; exact own3', HD2, HH2, HS2, by rw [HL2.out]; exact HA2.out, hb3⟩, ?_⟩
          show 0 + 1 < 0 + 2
          omega
        · have hcI : ¬ (cd : Int) = 2 := by omega
          have hcI2 : (2 : Int) ≤ (cd : Int) := by omega
          go_wp2
          go_quiet (fail)
          clear hsI
          go_wp2_with fail
          refine (KM.out _ _ _ _ _ ((LR.out.below ((bel_drewN (Below.refl _ wr) nq).alloc (Nat.le_refl _) _)).mono (by simp)) (Lies.own (World.ownsRow_lit (base := 0) (e := 3) (size := 1) _ #[.int .i64 (s : Int)] 1 (Nat.zero_le _) (by decide) rfl)) (by omega) (Nat.le_refl _) (fun e => by cases e) (fun e => by cases e)).mono ?_
          rintro e w3 ⟨v3, rfl, own3, b3⟩
          have hbA : Below w'.heap.size w' ((wr.drewN nq).alloc (.cells #[.int .i64 (s : Int)] 3)) := (bel_drewN hblD nq).alloc hsD _
          have hb3 := bel_then b3 hbA.size hbA
          have own3' := Joins.ownsRow_le own3 hbA.size
          replace own3' : w3.ownsRow w'.heap.size 3 1 v3 (d + 1) (natsL (mrg ltN R [s])) := own3'
          obtain ⟨g3, c3, hv3⟩ := Joins.ownsRow_form own3' (by omega)
          subst hv3
          clear own3 b3 hbA
          go_wp2
          refine ⟨⟨mrg ltN R [s], acc + s, by rw [HL2.out]; omega, by rw [HL2.out]; omega, by go_num, by rw [HL2.out]; exact own3', HD2, HH2, HS2, by rw [HL2.out]; exact HA2.out, hb3⟩, ?_⟩
          show d + 1 < d + 2
          omega
      · have hd1 : D.length = 1 := by omega
        obtain ⟨z, hz⟩ : ∃ z, D = [z] := by
          cases D with
          | nil => simp at hd1
          | cons z D => cases D with
            | nil => exact ⟨z, rfl⟩
            | cons _ _ => simp at hd1
        subst hz
        have HR0 : Hid (HuffIs zs acc) := hidden ⟨fun h => by rw [HN.out] at h; omega, fun _ => by rw [HN.out]; have := HH.out 0 (Huff.one z); simpa using this, by
          have : 1000000 * n * (n - 1) ≤ 1000000 * 260 * 259 := Nat.mul_le_mul (by omega) (by omega)
          have h2 : acc ≤ 1000000 * n * (n - 1) := hacc
          omega⟩
        clear hacc
        go_wp2
        go_ret
        exact ⟨acc, rfl, HR0.out, hblD⟩
theorem askHuff : AskHuff := fun a cap B zs w hz hB hf => implHuff_yes a cap B zs w hz hB hf
end Go.Proofs.Ytpmiphnjnbkjlaa
