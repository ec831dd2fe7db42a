/- Chapter 3: the walk of the exact law of Lens (what is asked of the program's function as hypotheses). -/
import Derived.Test.YtpmiphnjnbkjlaaWEx3b
import Derived.Test.YtpmiphnjnbkjlaaDrPick
namespace Go.Proofs.Ytpmiphnjnbkjlaa
set_option linter.unusedVariables false
set_option linter.unusedSimpArgs false
open Go.RowKit Go.ChangeShapes Go.WideShapes Go.ChangeAt

theorem Ints.grown {w w' : World} {B g gx : Nat} {zs : List Int} (h : Ints w B (some ⟨g, 0, none⟩) zs) (hB : B ≤ w.heap.size) (hg : w.grownBy w' (some gx)) (hne : g ≠ gx) : Ints w' B (some ⟨g, 0, none⟩) zs :=
  ⟨h.1, h.2.1, fun h0 => by
    obtain ⟨b, off, e, hb, hc⟩ := h.2.2 h0
    have e2 := e
    simp only [Option.some.injEq, Addr.mk.injEq] at e2
    obtain ⟨rfl, rfl, _⟩ := e2
    refine ⟨g, 0, rfl, hb, fun i hi => ?_⟩
    rw [← hc i hi]
    exact (ocell (g := gx) hg).1 g (0 + i) (by omega) hne⟩
theorem mark_n {n g c : Nat} (base : Nat) (zs : List Int) (w : World) (h : w.ownsRow base 3 1 (.slice (some ⟨g, 0, none⟩) n c) n (intsV zs)) (hn : n ≤ 1048576) :
    Calls Try.prog 26 #[.slice (some ⟨g, 0, none⟩) n c, .int .i64 1] w fun e w' => e = .returned (.int .i64 (1 + (n : Int))) ∧ w'.ownsRow base 3 1 (.slice (some ⟨g, 0, none⟩) n c) n (intsV (upFrom 1 n)) ∧ w.grownBy w' (some g) := by
  refine (markIntS_any base 1 n _ zs w h hn (by omega)).mono ?_
  rintro e w' ⟨rfl, h1, h2⟩
  exact ⟨by simp, h1, h2⟩
theorem held_n {n g c : Nat} (base : Nat) (w : World) (h : w.ownsRow base 3 1 (.slice (some ⟨g, 0, none⟩) n c) n (intsV (upFrom 1 n))) (hn : n ≤ 1048576) :
    Calls Try.prog 27 #[.slice (some ⟨g, 0, none⟩) n c, .int .i64 1] w fun e w' => e = .returned (.int .i64 (1 + (n : Int))) ∧ w' = w := by
  have hI := (Ints.ofOwn h (by omega) (fun x hx => by
    obtain ⟨j, hj, e⟩ := mem_getD hx
    rw [upFrom_len] at hj
    rw [upFrom_get 1 n j hj] at e
    omega)).2
  refine (heldIntS_any (some ⟨g, 0, none⟩) c _ 1 n w hI hn (by omega)).mono ?_
  rintro e w' ⟨rfl, h1⟩
  exact ⟨by simp, h1⟩
set_option maxHeartbeats 4000000 in
theorem exactLens_yes (hA : AskLens) (w : World) (a0 : Option Addr) (len0 cap0 q : Nat) (fs : List Int) (HI : Hid (Ints w w.heap.size a0 fs)) (HL : Hid (fs.length = len0)) (hbig : len0 ≤ 1048576) (hon : lensOn fs q) :
    Calls Try.prog 7 #[.slice a0 len0 cap0, .int .i64 q] w fun e w' => e = .returned (.bool true) ∧ Below w.heap.size w w' := by
  have hbI : ¬ (1048576 : Int) < (len0 : Int) := by omega
  have hnn : ¬ (1 : Int) + (len0 : Int) < 0 := by omega
  have hf := (fOk_iff fs).1 hon.1
  rw [HL.out] at hf
  have h1 := hf.1
  have KS : Hid (∀ (W : World) (p : Addr) (c : Nat), Ints W W.heap.size (some p) fs → Calls Try.prog 14 #[.slice (some p) len0 c, .int .i64 q] W fun e w' => ∃ v, e = .returned (.tuple #[v, .bool true]) ∧ w'.ownsRow W.heap.size 3 1 v len0 (intsV (lensF fs q)) ∧ Below W.heap.size W w') := hidden (fun W p c h => by
    have := specLens_on (some p) c W.heap.size q fs W h (Nat.le_refl _) hon
    rwa [HL.out] at this)
  have KI : Hid (∀ (W : World) (p : Addr) (c : Nat), Ints W W.heap.size (some p) fs → Calls Try.prog 13 #[.slice (some p) len0 c, .int .i64 q] W fun e w' => ∃ v, e = .returned (.tuple #[v, .bool true]) ∧ w'.ownsRow W.heap.size 3 1 v len0 (intsV (lensF fs q)) ∧ Below W.heap.size W w') := hidden (fun W p c h => by
    have := hA (some p) c W.heap.size q fs W h (Nat.le_refl _) hon
    rwa [HL.out] at this)
  have HW := hidden (lensF_wide hon)
  have HZL : Hid ((lensF fs q).length = len0) := hidden (by rw [lensF_len, HL.out])
  obtain ⟨zs, hzs⟩ : ∃ zs, lensF fs q = zs := ⟨_, rfl⟩
  rw [hzs] at KS KI HW HZL
  clear hA hf hzs hon
  go_enter Try.func7, Try.ntmps7
  go_wp2_with fail
  refine (toIntS_n a0 cap0 _ fs w HL.out HI.out (Nat.le_refl _) hbig).mono ?_
  rintro e wa ⟨ga, rfl, hJa, _, Ba⟩
  have HJa := hidden hJa
  clear hJa
  go_wp2_with fail
  refine (KS.out wa _ _ HJa.out).mono ?_
  rintro e wb ⟨v, rfl, hownb, bb⟩
  obtain ⟨gw, cw, rfl⟩ := Joins.ownsRow_form hownb (by omega)
  have Bb := Ba.trans (bb.mono Ba.size)
  have hgw : gw < wb.heap.size := (hownb.lt gw rfl).2
  have HWb := hidden ((Ints.ofOwn hownb (by omega) HW.out).2)
  clear hownb HJa
  go_wp2_with fail
  refine (toIntS_n a0 cap0 w.heap.size fs wb HL.out (HI.out.below Bb) Bb.size hbig).mono ?_
  rintro e wc ⟨gx, rfl, hJc, hownx, bc⟩
  have Bc := Bb.trans (bc.mono Bb.size)
  have hgx : wb.heap.size ≤ gx ∧ gx < wc.heap.size := hownx.lt gx rfl
  have HJc := hidden hJc
  have HWc := hidden ((HWb.out.below bc).mono bc.size)
  have sc := bc.size
  clear hJc HWb
  go_wp2_with fail
  refine (KI.out wc _ _ HJc.out).mono ?_
  rintro e wd ⟨v, rfl, howng, bd⟩
  obtain ⟨gg, cg, rfl⟩ := Joins.ownsRow_form howng (by omega)
  have Bd := Bc.trans (bd.mono Bc.size)
  have hgg : wc.heap.size ≤ gg ∧ gg < wd.heap.size := howng.lt gg rfl
  have HGd := hidden ((Ints.ofOwn howng (by omega) HW.out).2)
  have HWd := hidden ((HWc.out.below bd).mono bd.size)
  have HXd := hidden ((HJc.out.below bd).mono bd.size)
  have HOX := hidden (own_bel hownx bd)
  have HOG := hidden howng
  have sd := bd.size
  clear HJc HWc hownx howng bd bc bb
  go_wp2_with fail
  refine (eqSame_n _ _ _ _ wd.heap.size zs wd HZL.out HGd.out HWd.out).mono ?_
  rintro e we ⟨rfl, be⟩
  have Be := Bd.trans (be.mono Bd.size)
  have HGe := hidden ((HGd.out.below be).mono be.size)
  have HWe := hidden ((HWd.out.below be).mono be.size)
  have HXe := hidden ((HXd.out.below be).mono be.size)
  have HOXe := hidden (own_bel HOX.out be)
  have HOGe := hidden (own_bel HOG.out be)
  have se := be.size
  clear HGd HWd HXd HOX HOG be
  go_wp2_with fail
  refine (toIntS_n a0 cap0 w.heap.size fs we HL.out (HI.out.below Be) Be.size hbig).mono ?_
  rintro e wf ⟨gf, rfl, hJf, _, bf⟩
  have Bf := Be.trans (bf.mono Be.size)
  have HJf := hidden hJf
  have HGf := hidden ((HGe.out.below bf).mono bf.size)
  have HWf := hidden ((HWe.out.below bf).mono bf.size)
  have HXf := hidden ((HXe.out.below bf).mono bf.size)
  have HOXf := hidden (own_bel HOXe.out bf)
  have HOGf := hidden (own_bel HOGe.out bf)
  have sf := bf.size
  clear HGe HWe HXe HOXe HOGe hJf bf
  go_wp2_with fail
  refine (eqSame_n _ _ _ _ wf.heap.size fs wf HL.out HXf.out HJf.out).mono ?_
  rintro e wg ⟨rfl, bg⟩
  have Bg := Bf.trans (bg.mono Bf.size)
  have HGg := hidden ((HGf.out.below bg).mono bg.size)
  have HWg := hidden ((HWf.out.below bg).mono bg.size)
  have HOXg := hidden (own_bel HOXf.out bg)
  have HOGg := hidden (own_bel HOGf.out bg)
  have sg := bg.size
  clear HGf HWf HXf HOXf HOGf HJf bg
  go_wp2_with fail
  refine (mark_n _ _ wg HOXg.out hbig).mono ?_
  rintro e wh ⟨rfl, hownx, grx⟩
  have Bh := Bg.grown grx (Bg.size) (fun b hb => by simp only [Option.some.injEq] at hb; have := Bb.size; omega)
  have sh := grx.size
  have HGh := hidden ((HGg.out.grown (Nat.le_refl _) grx (by omega)).mono sh)
  have HWh := hidden ((HWg.out.grown (Nat.le_refl _) grx (by omega)).mono sh)
  have HOGh := hidden (HOGg.out.kept grx (.inr (by simp [Value.ownBlock]; omega)))
  clear HGg HWg HOGg HOXg hownx grx
  go_wp2_with fail
  refine (eqSame_n _ _ _ _ wh.heap.size zs wh HZL.out HGh.out HWh.out).mono ?_
  rintro e wi ⟨rfl, bi⟩
  have Bi := Bh.trans (bi.mono Bh.size)
  have HWi := hidden ((HWh.out.below bi).mono bi.size)
  have HOGi := hidden (own_bel HOGh.out bi)
  have si := bi.size
  clear HGh HWh HOGh bi
  go_wp2_with fail
  refine (mark_n _ _ wi HOGi.out hbig).mono ?_
  rintro e wj ⟨rfl, howng, grg⟩
  have Bj := Bi.grown grg (Bi.size) (fun b hb => by simp only [Option.some.injEq] at hb; have := Bc.size; omega)
  have HWj := hidden ((HWi.out.grown (Nat.le_refl _) grg (by omega)).mono grg.size)
  have HOGj := hidden howng
  clear HWi HOGi howng grg
  go_wp2_with fail
  refine (held_n _ wj HOGj.out hbig).mono ?_
  rintro e wj' ⟨rfl, rfl⟩
  go_wp2_with fail
  refine (toIntS_n a0 cap0 w.heap.size fs _ HL.out (HI.out.below Bj) Bj.size hbig).mono ?_
  rintro e wk ⟨gk, rfl, hJk, _, bk⟩
  have Bk := Bj.trans (bk.mono Bj.size)
  have HJk := hidden hJk
  have HWk := hidden ((HWj.out.below bk).mono bk.size)
  have HOGk := hidden (own_bel HOGj.out bk)
  clear hJk bk HWj HOGj
  go_wp2_with fail
  refine (KI.out wk _ _ HJk.out).mono ?_
  rintro e wl ⟨v, rfl, hownh, bl⟩
  obtain ⟨gh, ch, rfl⟩ := Joins.ownsRow_form hownh (by omega)
  have Bl := Bk.trans (bl.mono Bk.size)
  have HHl := hidden ((Ints.ofOwn hownh (by omega) HW.out).2)
  have HWl := hidden ((HWk.out.below bl).mono bl.size)
  have HOGl := hidden (own_bel HOGk.out bl)
  clear hownh bl HWk HOGk HJk
  go_wp2_with fail
  refine (eqSame_n _ _ _ _ wl.heap.size zs wl HZL.out HHl.out HWl.out).mono ?_
  rintro e wm ⟨rfl, bm⟩
  have Bm := Bl.trans (bm.mono Bl.size)
  have HOGm := hidden (own_bel HOGl.out bm)
  clear bm HOGl HWl HHl
  go_wp2_with fail
  refine (held_n _ wm HOGm.out hbig).mono ?_
  rintro e wn ⟨rfl, rfl⟩
  go_wp2
  go_ret
  exact ⟨rfl, Bm⟩

theorem Ints.nil (w : World) (B : Nat) : Ints w B none [] := ⟨by simp, by simp, fun h => by simp at h⟩
theorem eq_nil (w : World) : Calls Try.prog 25 #[.slice none 0 0, .slice none 0 0] w fun e w' => e = .returned (.bool true) ∧ Below w.heap.size w w' :=
  eqSame_n none none 0 0 0 [] w rfl (Ints.nil w 0) (Ints.nil w 0)
theorem mark_nil (w : World) : Calls Try.prog 26 #[.slice none 0 0, .int .i64 1] w fun e w' => e = .returned (.int .i64 1) ∧ Below w.heap.size w w' := by
  refine (markIntS_any 0 1 0 (.slice none 0 0) [] w ⟨rfl, .inl ⟨rfl, rfl⟩⟩ (by omega) (by omega)).mono ?_
  rintro e w' ⟨rfl, _, h2⟩
  exact ⟨rfl, (Below.refl _ _).grown h2 (Nat.le_refl _) (fun b hb => by simp [Value.ownBlock] at hb)⟩
theorem held_nil (w : World) : Calls Try.prog 27 #[.slice none 0 0, .int .i64 1] w fun e w' => e = .returned (.int .i64 1) ∧ w' = w :=
  heldIntS_any none 0 0 1 0 w (Ints.nil w 0) (by omega) (by omega)
set_option maxHeartbeats 4000000 in
theorem exactLens_no (hA : AskLensNo) (w : World) (a0 : Option Addr) (len0 cap0 : Nat) (lim : Int) (l1 : -9223372036854775808 ≤ lim) (l2 : lim ≤ 9223372036854775807) (fs : List Int) (HI : Hid (Ints w w.heap.size a0 fs)) (HL : Hid (fs.length = len0)) (hbig : len0 ≤ 1048576) (hon : ¬ lensOn fs lim) :
    Calls Try.prog 7 #[.slice a0 len0 cap0, .int .i64 lim] w fun e w' => e = .returned (.bool true) ∧ Below w.heap.size w w' := by
  have hbI : ¬ (1048576 : Int) < (len0 : Int) := by omega
  have hnn : ¬ (1 : Int) + (len0 : Int) < 0 := by omega
  have KS : Hid (∀ (W : World) (p : Addr) (c : Nat), Ints W W.heap.size (some p) fs → Calls Try.prog 14 #[.slice (some p) len0 c, .int .i64 lim] W fun e w' => e = .returned (.tuple #[.slice none 0 0, .bool false]) ∧ w' = W) := hidden (fun W p c h => by
    have := specLens_no (some p) c W.heap.size lim fs W h l1 l2 hon
    rwa [HL.out] at this)
  have KI : Hid (∀ (W : World) (p : Addr) (c : Nat), Ints W W.heap.size (some p) fs → Calls Try.prog 13 #[.slice (some p) len0 c, .int .i64 lim] W fun e w' => e = .returned (.tuple #[.slice none 0 0, .bool false]) ∧ Below W.heap.size W w') := hidden (fun W p c h => by
    have := hA (some p) c W.heap.size lim fs W h l1 l2 hon
    rwa [HL.out] at this)
  clear hA hon
  go_enter Try.func7, Try.ntmps7
  go_wp2_with fail
  refine (toIntS_n a0 cap0 _ fs w HL.out HI.out (Nat.le_refl _) hbig).mono ?_
  rintro e wa ⟨ga, rfl, hJa, _, Ba⟩
  have HJa := hidden hJa
  clear hJa
  go_wp2_with fail
  refine (KS.out wa _ _ HJa.out).mono ?_
  rintro e wb ⟨rfl, rfl⟩
  clear HJa
  go_wp2_with fail
  refine (toIntS_n a0 cap0 w.heap.size fs _ HL.out (HI.out.below Ba) Ba.size hbig).mono ?_
  rintro e wc ⟨gx, rfl, hJc, hownx, bc⟩
  have Bc := Ba.trans (bc.mono Ba.size)
  have hgx : _ ≤ gx ∧ gx < wc.heap.size := hownx.lt gx rfl
  have HJc := hidden hJc
  have sa := Ba.size
  clear hJc
  go_wp2_with fail
  refine (KI.out wc _ _ HJc.out).mono ?_
  rintro e wd ⟨rfl, bd⟩
  have Bd := Bc.trans (bd.mono Bc.size)
  have HXd := hidden ((HJc.out.below bd).mono bd.size)
  have HOX := hidden (own_bel hownx bd)
  clear HJc hownx bd bc
  go_wp2_with fail
  refine (eq_nil wd).mono ?_
  rintro e we ⟨rfl, be⟩
  have Be := Bd.trans (be.mono Bd.size)
  have HXe := hidden ((HXd.out.below be).mono be.size)
  have HOXe := hidden (own_bel HOX.out be)
  clear HXd HOX be
  go_wp2_with fail
  refine (toIntS_n a0 cap0 w.heap.size fs we HL.out (HI.out.below Be) Be.size hbig).mono ?_
  rintro e wf ⟨gf, rfl, hJf, _, bf⟩
  have Bf := Be.trans (bf.mono Be.size)
  have HJf := hidden hJf
  have HXf := hidden ((HXe.out.below bf).mono bf.size)
  have HOXf := hidden (own_bel HOXe.out bf)
  clear HXe HOXe hJf bf
  go_wp2_with fail
  refine (eqSame_n _ _ _ _ wf.heap.size fs wf HL.out HXf.out HJf.out).mono ?_
  rintro e wg ⟨rfl, bg⟩
  have Bg := Bf.trans (bg.mono Bf.size)
  have HOXg := hidden (own_bel HOXf.out bg)
  clear HXf HOXf HJf bg
  go_wp2_with fail
  refine (mark_n _ _ wg HOXg.out hbig).mono ?_
  rintro e wh ⟨rfl, hownx, grx⟩
  have Bh := Bg.grown grx (Bg.size) (fun b hb => by simp only [Option.some.injEq] at hb; omega)
  clear HOXg hownx grx
  go_wp2_with fail
  refine (eq_nil wh).mono ?_
  rintro e wi ⟨rfl, bi⟩
  have Bi := Bh.trans (bi.mono Bh.size)
  go_wp2_with fail
  refine (mark_nil wi).mono ?_
  rintro e wj ⟨rfl, bj⟩
  have Bj := Bi.trans (bj.mono Bi.size)
  go_wp2_with fail
  refine (held_nil wj).mono ?_
  rintro e wj' ⟨rfl, rfl⟩
  go_wp2_with fail
  refine (toIntS_n a0 cap0 w.heap.size fs _ HL.out (HI.out.below Bj) Bj.size hbig).mono ?_
  rintro e wk ⟨gk, rfl, hJk, _, bk⟩
  have Bk := Bj.trans (bk.mono Bj.size)
  have HJk := hidden hJk
  clear hJk bk
  go_wp2_with fail
  refine (KI.out wk _ _ HJk.out).mono ?_
  rintro e wl ⟨rfl, bl⟩
  have Bl := Bk.trans (bl.mono Bk.size)
  clear HJk
  go_wp2_with fail
  refine (eq_nil wl).mono ?_
  rintro e wm ⟨rfl, bm⟩
  have Bm := Bl.trans (bm.mono Bl.size)
  go_wp2_with fail
  refine (held_nil wm).mono ?_
  rintro e wn ⟨rfl, rfl⟩
  go_wp2
  go_ret
  exact ⟨rfl, Bm⟩
theorem walk_FnExactLens (hA : AskLens) (hN : AskLensNo) (w : World) (a0 : Option Addr) (len0 cap0 : Nat) (z0 : List Int) (w0 : IsRow .i64 w a0 len0 cap0 z0) (lim : Int) (l1 : -9223372036854775808 ≤ lim) (l2 : lim ≤ 9223372036854775807) :
    Calls Try.prog 7 #[.slice a0 len0 cap0, .int .i64 lim] w fun e w' => e = .returned (.bool true) ∧ Below w.heap.size w w' := by
  have hl1 := isrow_len w0
  by_cases hbig : len0 ≤ 1048576
  · obtain ⟨fs, hzl, hI⟩ := Ints.ofRow w0 hbig
    by_cases hon : lensOn fs lim
    · obtain ⟨q, rfl⟩ : ∃ q : Nat, lim = q := ⟨lim.toNat, by have := hon.2.1; omega⟩
      exact exactLens_yes hA w a0 len0 cap0 q fs (hidden hI) (hidden hzl) hbig hon
    · exact exactLens_no hN w a0 len0 cap0 lim l1 l2 fs (hidden hI) (hidden hzl) hbig hon
  · have hbI : (1048576 : Int) < (len0 : Int) := by omega
    go_enter Try.func7, Try.ntmps7
    go_wp2
    go_ret
    exact ⟨rfl, Below.refl _ _⟩
end Go.Proofs.Ytpmiphnjnbkjlaa
