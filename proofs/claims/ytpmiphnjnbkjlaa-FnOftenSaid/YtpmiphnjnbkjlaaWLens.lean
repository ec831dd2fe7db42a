/- Chapter 3: the walk of FnLens (what is asked of the program's functions as hypotheses). -/
import Derived.Test.YtpmiphnjnbkjlaaC3I
import Derived.Test.YtpmiphnjnbkjlaaDrLens
namespace Go.Proofs.Ytpmiphnjnbkjlaa
set_option linter.unusedVariables false
set_option linter.unusedSimpArgs false
open Go.RowKit

theorem own_slice {w : World} {base n : Nat} {v : Value} {xs : List Value} (h : w.ownsRow base 3 1 v n xs) : ∃ a c, v = .slice a n c := by
  rcases h.2 with ⟨hv, hn⟩ | ⟨g, cap, cur, hv, _⟩
  · exact ⟨none, 0, by rw [hv, hn]⟩
  · exact ⟨_, cap, hv⟩
set_option maxHeartbeats 2000000 in
theorem walk_FnLens (hL : AskLens) (hLN : AskLensNo) (hK : AskKraft) (hO : AskLensOk) (hH : AskHuff) (w : World) (a0 : Option Addr) (len0 cap0 : Nat) (z0 : List Int) (w0 : IsRow .u8 w a0 len0 cap0 z0) :
    Calls Try.prog 3 #[.slice a0 len0 cap0] w fun e w' => e = .returned (.bool true) ∧ Below w.heap.size w w' := by
  have hcode := Code.ofRow w0
  have HS := hidden (spans_any hL hK hH)
  clear w0 hH
  go_enter Try.func3, Try.ntmps3
  go_wp2_with fail
  refine (drawLens_any _ _ _ _ _ hcode).mono ?_
  rintro e wa ⟨v, fs, lim, rfl, hown, hl, hr, l0, l1, Ba⟩
  obtain ⟨a, c, rfl⟩ := own_slice hown
  have hI := (Ints.ofOwn hown (by omega) (fun x hx => by have := hr x hx; omega)).2
  obtain ⟨n, hn⟩ : ∃ n, fs.length = n := ⟨_, rfl⟩
  have HN := hidden hn
  have ba := Ba.size
  by_cases hon : lensOn fs lim
  · obtain ⟨q, rfl⟩ : ∃ q : Nat, lim = q := ⟨lim.toNat, by omega⟩
    have hf := (fOk_iff fs).1 hon.1
    have K1 := hL a c wa.heap.size q fs wa hI (Nat.le_refl _) hon
    have K2 := fun W B hI hB => specLens_on a c B q fs W hI hB hon
    have HR := hidden (fun s hs => lensF_range hon s hs)
    have HKr := hidden (lensF_kraft hon)
    have HOk := hidden (lensF_lOk hon)
    have HLl := hidden (lensF_len fs q)
    obtain ⟨zs, hzs⟩ : ∃ zs, lensF fs q = zs := ⟨_, rfl⟩
    rw [hzs] at K1 K2 HR HKr HOk HLl
    rw [hn] at K1 K2 HR HKr HLl hf hl ⊢
    have hzr : Hid (∀ x ∈ zs, -9223372036854775808 ≤ x ∧ x ≤ 9223372036854775807) := hidden (fun x hx => by
      obtain ⟨k, hk, e⟩ := mem_getD hx
      have := HR.out k (by rw [HLl.out] at hk; exact hk)
      omega)
    have H2 := hidden K2
    have HI := hidden hI
    clear hL hLN hn hown hr hon hzs K2 hI
    go_wp2_with fail
    refine K1.mono ?_
    rintro e wb ⟨v, rfl, hown, Bb⟩
    obtain ⟨g, cv, rfl⟩ := Joins.ownsRow_form hown (by omega)
    have hJ := (Ints.ofOwn hown (by omega) hzr.out).2
    have HJ := hidden hJ
    have bb := Bb.size
    clear hown hJ
    go_wp2_with fail
    refine (H2.out _ wa.heap.size (HI.out.below Bb) (by omega)).mono ?_
    rintro e wc ⟨v2, rfl, hown2, Bc⟩
    have HJc := hidden (HJ.out.below Bc)
    have bc := Bc.size
    clear hown2 HJ
    have K3 : Hid (∀ W : World, Ints W wb.heap.size (some ⟨g, 0, none⟩) zs → wb.heap.size ≤ W.heap.size → Calls Try.prog 16 #[.slice (some ⟨g, 0, none⟩) n cv] W fun e w' => e = .returned (.bool true) ∧ Below W.heap.size W w') := hidden (fun W h hB => by
      have := hO (some ⟨g, 0, none⟩) cv _ zs W h hB
      rw [HOk.out, HLl.out] at this
      exact this)
    have K4 : Hid (¬ n = 1 → ∀ W : World, Ints W wb.heap.size (some ⟨g, 0, none⟩) zs → wb.heap.size ≤ W.heap.size → Calls Try.prog 17 #[.slice (some ⟨g, 0, none⟩) n cv] W fun e w' => e = .returned (.int .i64 1048576) ∧ Below W.heap.size W w') := hidden (fun hn1 W h hB => by
      have := hK (some ⟨g, 0, none⟩) cv _ zs W h hB
      rw [HKr.out, HLl.out, if_neg hn1] at this
      exact this)
    clear hK hO
    have hcell : Hid (∀ i, i < n → wc.cell? ⟨g, i, none⟩ = some (.int .i64 (zs.getD i 0))) := hidden (fun i hi => by
      obtain ⟨b, off, e, _, h⟩ := HJc.out.2.2 (by rw [HLl.out]; omega)
      simp only [Option.some.injEq, Addr.mk.injEq] at e
      obtain ⟨rfl, rfl, _⟩ := e
      have := h i (by rw [HLl.out]; exact hi)
      rwa [Nat.zero_add] at this)
    go_wp2
    go_loopw [9] (fun si wr => ∃ k nq : Nat, k ≤ n ∧ si = .int .i64 k ∧ wr = wc.drewN nq) (fun si _ => n - (intOf si).toNat)
    case atStart => exact ⟨0, 0, Nat.zero_le _, rfl, rfl⟩
    case round =>
      obtain ⟨k, nq, hk, rfl, rfl⟩ := hrel
      by_cases hlt : k < n
      · have ck := hcell.out k hlt
        obtain ⟨x, hx⟩ : ∃ x, zs.getD k 0 = x := ⟨_, rfl⟩
        have hxr := HR.out k hlt
        rw [hx] at ck hxr
        have hx1 : ¬ x < 1 := by omega
        have hx2 : ¬ (q : Int) < x := by omega
        clear hx
        go_wp2
        exact ⟨⟨k + 1, _, by omega, by go_num, rfl⟩, by simp [intOf]; omega⟩
      · have bd : Below wc.heap.size wc (wc.drewN nq) := bel_drewN (Below.refl _ _) _
        have hJd := HJc.out.below (bd.mono bc)
        have hsz : wb.heap.size ≤ (wc.drewN nq).heap.size := by simpa using bc
        have e3 := K3.out (wc.drewN nq) hJd hsz
        have bwd : Below w.heap.size w (wc.drewN nq) := ((Ba.trans (Bb.mono ba)).trans (Bc.mono (by omega))).trans (bd.mono (by omega))
        by_cases hn1 : n = 1
        · subst hn1
          go_wp2_with fail
          refine e3.mono ?_
          rintro e w5 ⟨rfl, b5⟩
          have bw5 := bwd.trans (b5.mono bwd.size)
          go_wp2_with fail
          refine (HS.out _).mono ?_
          rintro e w6 ⟨rfl, b6⟩
          go_wp2
          go_ret
          exact ⟨rfl, bw5.trans (b6.mono bw5.size)⟩
        · have hne : ((n : Int) == 1) = false := by simp; omega
          have e4 := fun W h hB => K4.out hn1 W h hB
          go_wp2_with fail
          refine e3.mono ?_
          rintro e w5 ⟨rfl, b5⟩
          have bw5 := bwd.trans (b5.mono bwd.size)
          go_wp2_with fail
          refine (e4 _ (hJd.below (b5.mono hsz)) (Nat.le_trans hsz b5.size)).mono ?_
          rintro e w4 ⟨rfl, b4⟩
          have bw4 := bw5.trans (b4.mono bw5.size)
          go_wp2_with fail
          refine (HS.out _).mono ?_
          rintro e w6 ⟨rfl, b6⟩
          go_wp2
          go_ret
          exact ⟨rfl, bw4.trans (b6.mono bw4.size)⟩
  · have K1 := hLN a c wa.heap.size lim fs wa hI (by omega) (by omega) hon
    have K2 := hidden (fun W hI => specLens_no a c wa.heap.size lim fs W hI (by omega) (by omega) hon)
    rw [hn] at K1 K2 hl ⊢
    have HI := hidden hI
    clear hL hLN hK hO hn hown hr hon hI
    go_wp2_with fail
    refine K1.mono ?_
    rintro e wb ⟨rfl, Bb⟩
    have bb := Bb.size
    go_wp2_with fail
    refine (K2.out _ (HI.out.below Bb)).mono ?_
    rintro e wc ⟨rfl, rfl⟩
    go_wp2_with fail
    refine (HS.out _).mono ?_
    rintro e w6 ⟨rfl, b6⟩
    go_wp2
    go_ret
    exact ⟨rfl, (Ba.trans (Bb.mono ba)).trans (b6.mono (by omega))⟩
end Go.Proofs.Ytpmiphnjnbkjlaa
