/- Chapter 3, the program: code lengths, Huffman's sum; what was asked of the program, all proved. -/
import Derived.Test.YtpmiphnjnbkjlaaI3L
import Derived.Test.YtpmiphnjnbkjlaaI3H
namespace Go.Proofs.Ytpmiphnjnbkjlaa
set_option linter.unusedVariables false
set_option linter.unusedSimpArgs false
open Go.RowKit

set_option maxHeartbeats 4000000 in
theorem implLens_yes (a : Option Addr) (cap B lim : Nat) (zs : List Int) (w : World) (hz : Ints w B a zs) (hB : B ≤ w.heap.size) (hf : fOk zs = true) (h1 : 1 ≤ lim) (h2 : lim ≤ 20) (hn2 : 2 ≤ zs.length) (hpow : zs.length ≤ 2 ^ lim) :
    Calls Try.prog 13 #[.slice a zs.length cap, .int .i64 lim] w fun e w' => ∃ v, e = .returned (.tuple #[v, .bool true]) ∧
      w'.ownsRow w.heap.size 3 1 v zs.length (intsV (lensF zs lim)) ∧ Below w.heap.size w w' := by
  have hfr := (fOk_iff zs).1 hf
  have HEQ := hidden (lensF_nats (leafL_perm zs) (leafL_lex zs) hn2 lim)
  have hLp := leafL_perm zs
  obtain ⟨n, hn⟩ : ∃ n, zs.length = n := ⟨_, rfl⟩
  have hn260 : n ≤ 260 := by rw [← hn]; exact hfr.2.1
  have K1 := hidden (implFreqsOk_any a cap B zs w hz)
  have K2 := hidden (symbolsOf_any a cap B zs w hz hB hfr.2.1 hfr.2.2)
  rw [hf] at K1
  rw [hn] at hn2 hpow hLp K1 K2 HEQ ⊢
  have hLl : (leafL zs).length = n := by rw [hLp.length_eq, items_len]
  have hLb : ∀ x ∈ leafL zs, x.1 ≤ 1000000 := by
    intro x hx
    have := hLp.mem_iff.1 hx
    simp only [items, List.mem_map, List.mem_range] at this
    obtain ⟨i, hi2, rfl⟩ := this
    have hr := hfr.2.2 i (by rw [hn]; exact hi2)
    rcases wgt_le (zs.getD i 0) hr.2 with h | h
    · exact h.2
    · omega
  have hbd : ∀ k, k ≤ 19 → ∀ x ∈ rowM (leafL zs) k, x.1 ≤ 1099511627776 := by
    intro k hk x hx
    have := row_bound (leafL zs) hLb k x hx
    have h19 : 2 ^ k ≤ 2 ^ 19 := Nat.pow_le_pow_right (by omega) hk
    have : 1000000 * 2 ^ k ≤ 1000000 * 2 ^ 19 := Nat.mul_le_mul_left _ h19
    omega
  have K3 := hidden (fun (W : World) (v : Value) (h : W.ownsRow w.heap.size 65 2 v n (icells (leafL zs))) (hb : w.heap.size ≤ W.heap.size) => listsOf_any v w.heap.size n lim (leafL zs) W h hb hLl (by omega) hn260 h1 h2 hbd)
  have K4 := hidden (fun (W : World) (vr : Value) (b1 : Nat) (Vs : List Value) (h : W.ownsRow b1 45 1 vr lim Vs) (hV : Vs.length = lim) (hVs : ∀ i, (h : i < Vs.length) → W.ownsRow w.heap.size 65 2 Vs[i] (rowM (leafL zs) i).length (icells (rowM (leafL zs) i))) => selected_any vr w.heap.size b1 n lim zs (leafL zs) Vs W h hV hVs hLp h1 h2 hn2 hn260 hpow)
  have H2n : Hid ((2 : Int) * (n : Int) - 2 = ((2 * n - 2 : Nat) : Int)) := hidden (by omega)
  rw [HEQ.out] at K4
  have hM : 2 ^ lim ≤ 2 ^ 20 := Nat.pow_le_pow_right (by omega) h2
  obtain ⟨M, hMe⟩ : ∃ M, 2 ^ lim = M := ⟨_, rfl⟩
  have hMI : wrap64 (2 ^ lim) = (M : Int) := by rw [show ((2 : Int) ^ lim) = ((2 ^ lim : Nat) : Int) by simp, hMe]; exact wrap64_n _ (by omega)
  rw [hMe] at hpow hM
  clear hf hfr hn hz hMe hLp hLl hLb hbd
  have g1 : ¬ (M : Int) < (n : Int) := by omega
  have g2 : ((n : Int) == 1) = false := by rw [beq_eq_false_iff_ne]; omega
  go_enter Try.func13, Try.ntmps13
  go_wp2_with fail
  refine K1.out.mono ?_
  rintro e w' ⟨rfl, rfl⟩
  go_wp2_with fail
  refine K2.out.mono ?_
  rintro e w1 ⟨vL, rfl, own1, b1⟩
  clear hMI hM hpow g1
  go_wp2_with fail
  refine (K3.out _ _ own1 b1.size).mono ?_
  rintro e w2 ⟨vr, Vs, rfl, own2, hVl, hVs, b2⟩
  have bb2 := bel_then b2 b1.size b1
  have HVl := hidden hVl
  have HVs := hidden hVs
  clear hVl hVs own1 b1 b2
  go_wp2_with fail
  rw [H2n.out]
  refine (K4.out _ _ _ _ own2 HVl.out HVs.out).mono ?_
  rintro e w3 ⟨v3, rfl, own3, b3⟩
  have bb3 := bel_then b3 bb2.size bb2
  have own3' := Joins.ownsRow_le own3 bb2.size
  clear own2 own3 b3
  go_wp2
  refine bodyPost_ret (v := .tuple #[v3, .bool true]) (by simp [results, Try.results13, go_sem]) rfl ⟨_, rfl, own3', bb3⟩
theorem implLens_one (a : Option Addr) (cap B lim : Nat) (zs : List Int) (w : World) (hz : Ints w B a zs) (hB : B ≤ w.heap.size) (hf : fOk zs = true) (h1 : 1 ≤ lim) (h2 : lim ≤ 20) (hn1 : zs.length = 1) :
    Calls Try.prog 13 #[.slice a zs.length cap, .int .i64 lim] w fun e w' => e = .returned (.tuple #[.slice (some ⟨w.heap.size, 0, none⟩) 1 1, .bool true]) ∧ w' = w.alloc (.cells #[.int .i64 1] 3) := by
  have K1 := hidden (implFreqsOk_any a cap B zs w hz)
  rw [hf] at K1
  have hM : 2 ^ lim ≤ 2 ^ 20 := Nat.pow_le_pow_right (by omega) h2
  have hM0 : 2 ^ 1 ≤ 2 ^ lim := Nat.pow_le_pow_right (by omega) h1
  obtain ⟨M, hMe⟩ : ∃ M, 2 ^ lim = M := ⟨_, rfl⟩
  have hMI : wrap64 (2 ^ lim) = (M : Int) := by rw [show ((2 : Int) ^ lim) = ((2 ^ lim : Nat) : Int) by simp, hMe]; exact wrap64_n _ (by omega)
  rw [hMe] at hM hM0
  rw [hn1] at K1 ⊢
  clear hz hf hMe hn1
  go_enter Try.func13, Try.ntmps13
  go_wp2_with fail
  refine K1.out.mono ?_
  rintro e w' ⟨rfl, rfl⟩
  go_wp2
  refine bodyPost_ret (v := .tuple #[.slice (some ⟨w'.heap.size, 0, none⟩) 1 1, .bool true]) (by simp [results, Try.results13, go_sem]) rfl ⟨rfl, rfl⟩
theorem implLens_no (a : Option Addr) (cap B : Nat) (lim : Int) (zs : List Int) (w : World) (hz : Ints w B a zs) (b1 : -9223372036854775808 ≤ lim) (b2 : lim ≤ 9223372036854775807)
    (h : ¬ (fOk zs = true ∧ 1 ≤ lim ∧ lim ≤ 20 ∧ zs.length ≤ 2 ^ lim.toNat)) :
    Calls Try.prog 13 #[.slice a zs.length cap, .int .i64 lim] w fun e w' => e = .returned (.tuple #[.slice none 0 0, .bool false]) ∧ w' = w := by
  have K1 := hidden (implFreqsOk_any a cap B zs w hz)
  obtain ⟨f, hf⟩ : ∃ f, fOk zs = f := ⟨_, rfl⟩
  rw [hf] at K1 h
  obtain ⟨n, hn⟩ : ∃ n, zs.length = n := ⟨_, rfl⟩
  have hl := hz.1
  rw [hn] at K1 h hl ⊢
  clear hz hf hn
  cases f
  · go_enter Try.func13, Try.ntmps13
    go_wp2_with fail
    refine K1.out.mono ?_
    rintro e w' ⟨rfl, rfl⟩
    go_wp2
    refine bodyPost_ret (v := .tuple #[.slice none 0 0, .bool false]) (by simp [results, Try.results13, go_sem]) rfl ⟨rfl, rfl⟩
  · by_cases h1 : lim < 1
    · clear h
      go_enter Try.func13, Try.ntmps13
      go_wp2_with fail
      refine K1.out.mono ?_
      rintro e w' ⟨rfl, rfl⟩
      go_wp2
      refine bodyPost_ret (v := .tuple #[.slice none 0 0, .bool false]) (by simp [results, Try.results13, go_sem]) rfl ⟨rfl, rfl⟩
    · by_cases h2 : 20 < lim
      · clear h
        go_enter Try.func13, Try.ntmps13
        go_wp2_with fail
        refine K1.out.mono ?_
        rintro e w' ⟨rfl, rfl⟩
        go_wp2
        refine bodyPost_ret (v := .tuple #[.slice none 0 0, .bool false]) (by simp [results, Try.results13, go_sem]) rfl ⟨rfl, rfl⟩
      · obtain ⟨q, rfl⟩ : ∃ q : Nat, lim = q := ⟨lim.toNat, by omega⟩
        have hM : 2 ^ q ≤ 2 ^ 20 := Nat.pow_le_pow_right (by omega) (by omega)
        obtain ⟨M, hMe⟩ : ∃ M, 2 ^ q = M := ⟨_, rfl⟩
        have hMI : wrap64 (2 ^ q) = (M : Int) := by rw [show ((2 : Int) ^ q) = ((2 ^ q : Nat) : Int) by simp, hMe]; exact wrap64_n _ (by omega)
        have hlt : (M : Int) < (n : Int) := by
          rw [← hMe]
          rcases Nat.lt_or_ge (2 ^ q) n with h3 | h3
          · exact_mod_cast h3
          · exact absurd ⟨rfl, by omega, by omega, by simpa using h3⟩ h
        clear h hM hMe b1 b2
        go_enter Try.func13, Try.ntmps13
        go_wp2_with fail
        refine K1.out.mono ?_
        rintro e w' ⟨rfl, rfl⟩
        go_wp2
        refine bodyPost_ret (v := .tuple #[.slice none 0 0, .bool false]) (by simp [results, Try.results13, go_sem]) rfl ⟨rfl, rfl⟩
theorem askLens : AskLens := fun a cap B lim zs w hz hB h => by
  obtain ⟨hf, h1, h20, hp⟩ := h
  rw [Int.toNat_natCast] at hp
  have hn := (fOk_iff zs).1 hf
  by_cases e1 : zs.length = 1
  · refine (implLens_one a cap B lim zs w hz hB hf (by omega) (by omega) e1).mono ?_
    rintro e w' ⟨rfl, rfl⟩
    refine ⟨_, rfl, ?_, (Below.refl _ _).alloc (Nat.le_refl _) _⟩
    have e2 : lensF zs lim = [1] := by unfold lensF; rw [if_pos e1]
    rw [e2, e1]
    exact World.ownsRow_lit w #[.int .i64 1] 1 (Nat.le_refl _) (by decide) rfl
  · exact implLens_yes a cap B lim zs w hz hB hf (by omega) (by omega) (by omega) hp
theorem askLensNo : AskLensNo := fun a cap B lim zs w hz b1 b2 h => (implLens_no a cap B lim zs w hz b1 b2 h).mono (by rintro e w' ⟨rfl, rfl⟩; exact ⟨rfl, Below.refl _ _⟩)
end Go.Proofs.Ytpmiphnjnbkjlaa
