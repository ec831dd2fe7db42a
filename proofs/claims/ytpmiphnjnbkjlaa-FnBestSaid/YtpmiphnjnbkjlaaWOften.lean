/- Chapter 3: the walk of FnOften (what is asked of the program's functions as hypotheses). -/
import Derived.Test.YtpmiphnjnbkjlaaWLens
namespace Go.Proofs.Ytpmiphnjnbkjlaa
set_option linter.unusedVariables false
set_option linter.unusedSimpArgs false
open Go.RowKit

theorem Ints.cells {w : World} {B : Nat} {a : Addr} {zs : List Int} (h : Ints w B (some a) zs) (h0 : 0 < zs.length) : ∃ b off, a = ⟨b, off, none⟩ ∧ b < B ∧ ∀ i, i < zs.length → w.cell? ⟨b, off + i, none⟩ = some (.int .i64 (zs.getD i 0)) := by
  obtain ⟨b, off, e, hb, hc⟩ := h.2.2 h0
  simp only [Option.some.injEq] at e
  exact ⟨b, off, e, hb, hc⟩
set_option maxHeartbeats 2000000 in
theorem walk_FnOften (hL : AskLens) (hLN : AskLensNo) (hK : AskKraft) (hH : AskHuff) (w : World) (a0 : Option Addr) (len0 cap0 : Nat) (z0 : List Int) (w0 : IsRow .u8 w a0 len0 cap0 z0) :
    Calls Try.prog 5 #[.slice a0 len0 cap0] w fun e w' => e = .returned (.bool true) ∧ Below w.heap.size w w' := by
  have hcode := Code.ofRow w0
  have HS := hidden (spans_any hL hK hH)
  clear w0 hH hK
  go_enter Try.func5, Try.ntmps5
  go_wp2_with fail
  refine (drawLens_any _ _ _ _ _ hcode).mono ?_
  rintro e wa ⟨v, fs, lim, rfl, hown, hl, hr, l0, l1, Ba⟩
  obtain ⟨n, hn⟩ : ∃ n, fs.length = n := ⟨_, rfl⟩
  have HN := hidden hn
  have ba := Ba.size
  by_cases hon : lensOn fs lim
  · obtain ⟨q, rfl⟩ : ∃ q : Nat, lim = q := ⟨lim.toNat, by omega⟩
    have hf := (fOk_iff fs).1 hon.1
    obtain ⟨gf, c, rfl⟩ := Joins.ownsRow_form hown (by omega)
    have hI := (Ints.ofOwn hown (by omega) (fun x hx => by have := hr x hx; omega)).2
    have K1 := hL (some ⟨gf, 0, none⟩) c wa.heap.size q fs wa hI (Nat.le_refl _) hon
    have K2 := fun W B hI hB => specLens_on (some ⟨gf, 0, none⟩) c B q fs W hI hB hon
    have HR := hidden (fun s hs => lensF_range hon s hs)
    have HOf := hidden (fun i k hi hk h1 h2 => often hon i k hi hk h1 h2)
    have HLl := hidden (lensF_len fs q)
    obtain ⟨zs, hzs⟩ : ∃ zs, lensF fs q = zs := ⟨_, rfl⟩
    rw [hzs] at K1 K2 HR HLl HOf
    rw [hn] at K1 K2 HR HLl HOf hf hl ⊢
    have hzr : Hid (∀ x ∈ zs, -9223372036854775808 ≤ x ∧ x ≤ 9223372036854775807) := hidden (fun x hx => by
      obtain ⟨k, hk, e⟩ := mem_getD hx
      have := HR.out k (by rw [HLl.out] at hk; exact hk)
      omega)
    have H2 := hidden K2
    have HI := hidden hI
    clear hL hLN hn hown hr hon hzs K2 hI
    go_wp2_with fail
    refine K1.mono ?_
    rintro e wb ⟨v, rfl, hown, Bb⟩
    obtain ⟨g, cv, rfl⟩ := Joins.ownsRow_form hown (by omega)
    have hJ := (Ints.ofOwn hown (by omega) hzr.out).2
    have HJ := hidden hJ
    have bb := Bb.size
    clear hown hJ
    go_wp2_with fail
    refine (H2.out _ wa.heap.size (HI.out.below Bb) (by omega)).mono ?_
    rintro e wc ⟨v2, rfl, hown2, Bc⟩
    have bc := Bc.size
    have hcell : Hid (∀ i, i < n → wc.cell? ⟨g, i, none⟩ = some (.int .i64 (zs.getD i 0))) := hidden (fun i hi => by
      obtain ⟨b, off, e, _, h⟩ := (HJ.out.below Bc).cells (by rw [HLl.out]; omega)
      simp only [Addr.mk.injEq] at e
      obtain ⟨rfl, rfl, _⟩ := e
      have := h i (by rw [HLl.out]; exact hi)
      rwa [Nat.zero_add] at this)
    have fcell : Hid (∀ i, i < n → wc.cell? ⟨gf, i, none⟩ = some (.int .i64 (fs.getD i 0))) := hidden (fun i hi => by
      obtain ⟨b, off, e, _, h⟩ := ((HI.out.below Bb).below (Bc.mono bb)).cells (by rw [HN.out]; omega)
      simp only [Addr.mk.injEq] at e
      obtain ⟨rfl, rfl, _⟩ := e
      have := h i (by rw [HN.out]; exact hi)
      rwa [Nat.zero_add] at this)
    have bwc : Below w.heap.size w wc := (Ba.trans (Bb.mono ba)).trans (Bc.mono (by omega))
    clear hown2 HJ HI
    go_wp2
    go_loopw [9] (fun si wr => ∃ k nq : Nat, k ≤ n ∧ si = .int .i64 k ∧ wr = wc.drewN nq) (fun si _ => n - (intOf si).toNat)
    case atStart => exact ⟨0, 0, Nat.zero_le _, rfl, rfl⟩
    case round =>
      obtain ⟨i, nq, hi, rfl, rfl⟩ := hrel
      by_cases hlt : i < n
      · have cl := hcell.out i hlt
        have cf := fcell.out i hlt
        obtain ⟨li, hli⟩ : ∃ x, zs.getD i 0 = x := ⟨_, rfl⟩
        obtain ⟨fi, hfi⟩ : ∃ x, fs.getD i 0 = x := ⟨_, rfl⟩
        have HOi := hidden (fun k => HOf.out i k hlt)
        rw [hli] at cl HOi
        rw [hfi] at cf HOi
        clear hli hfi
        go_wp2
        go_loopw [10] (fun sk wr => ∃ k nq : Nat, k ≤ n ∧ sk = .int .i64 k ∧ wr = wc.drewN nq) (fun sk _ => n - (intOf sk).toNat)
        case atStart => exact ⟨0, nq, Nat.zero_le _, rfl, rfl⟩
        case round =>
          obtain ⟨k, nq2, hk, rfl, rfl⟩ := hrel
          by_cases hlk : k < n
          · have dl := hcell.out k hlk
            have df := fcell.out k hlk
            obtain ⟨lk, hlk2⟩ : ∃ x, zs.getD k 0 = x := ⟨_, rfl⟩
            obtain ⟨fk, hfk⟩ : ∃ x, fs.getD k 0 = x := ⟨_, rfl⟩
            have HOk := hidden (HOi.out k hlk)
            rw [hlk2] at dl HOk
            rw [hfk] at df HOk
            clear hlk2 hfk
            by_cases h1 : fk < fi
            · by_cases h2 : 1 < fi
              · have h3 : ¬ lk < li := by have := HOk.out h1 h2; omega
                go_wp2
                go_quiet (fail)
                go_wp2
                exact ⟨⟨k + 1, _, by omega, by go_num, rfl⟩, by simp [intOf]; omega⟩
              · have h2b : decide (1 < fi) = false := by simp; omega
                go_wp2
                go_quiet (fail)
                go_wp2
                exact ⟨⟨k + 1, _, by omega, by go_num, rfl⟩, by simp [intOf]; omega⟩
            · have h1b : decide (fk < fi) = false := by simp; omega
              go_wp2
              go_quiet (fail)
              go_wp2
              exact ⟨⟨k + 1, _, by omega, by go_num, rfl⟩, by simp [intOf]; omega⟩
          · go_wp2
            exact ⟨⟨i + 1, _, by omega, by go_num, rfl⟩, by simp [intOf]; omega⟩
      · go_wp2_with fail
        refine (HS.out _).mono ?_
        rintro e w6 ⟨rfl, b6⟩
        go_wp2
        go_ret
        have bd : Below w.heap.size w (wc.drewN nq) := bwc.trans (bel_drewN (Below.refl _ _) _)
        exact ⟨rfl, bd.trans (b6.mono bd.size)⟩
  · obtain ⟨a, c, rfl⟩ := own_slice hown
    have hI := (Ints.ofOwn hown (by omega) (fun x hx => by have := hr x hx; omega)).2
    have K1 := hLN a c wa.heap.size lim fs wa hI (by omega) (by omega) hon
    have K2 := hidden (fun W hI => specLens_no a c wa.heap.size lim fs W hI (by omega) (by omega) hon)
    rw [hn] at K1 K2 hl ⊢
    have HI := hidden hI
    clear hL hLN hn hown hr hon hI
    go_wp2_with fail
    refine K1.mono ?_
    rintro e wb ⟨rfl, Bb⟩
    have bb := Bb.size
    go_wp2_with fail
    refine (K2.out _ (HI.out.below Bb)).mono ?_
    rintro e wc ⟨rfl, rfl⟩
    go_wp2
    go_loopw [9] (fun si wr => si = .int .i64 0 ∧ ∃ nq, wr = wc.drewN nq) (fun si _ => 0)
    case atStart => exact ⟨rfl, 0, rfl⟩
    case round =>
      obtain ⟨rfl, nq, rfl⟩ := hrel
      go_wp2_with fail
      refine (HS.out _).mono ?_
      rintro e w6 ⟨rfl, b6⟩
      go_wp2
      go_ret
      have bd : Below w.heap.size w (wc.drewN nq) := (Ba.trans (Bb.mono ba)).trans (bel_drewN (Below.refl _ _) _)
      exact ⟨rfl, bd.trans (b6.mono bd.size)⟩
end Go.Proofs.Ytpmiphnjnbkjlaa
