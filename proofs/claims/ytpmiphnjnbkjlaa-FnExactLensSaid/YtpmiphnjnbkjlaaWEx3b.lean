/- Chapter 3: the walk of the exact law of CostOf (what is asked of the program's function as a hypothesis). -/
import Derived.Test.YtpmiphnjnbkjlaaWEx3
namespace Go.Proofs.Ytpmiphnjnbkjlaa
set_option linter.unusedVariables false
set_option linter.unusedSimpArgs false
open Go.RowKit

set_option maxHeartbeats 2000000 in
theorem walk_FnExactCostOf (hA : AskCost) (w : World) (a0 : Option Addr) (len0 cap0 : Nat) (z0 : List Int) (w0 : IsRow .i64 w a0 len0 cap0 z0) (a1 : Option Addr) (len1 cap1 : Nat) (z1 : List Int) (w1 : IsRow .i64 w a1 len1 cap1 z1) :
    Calls Try.prog 10 #[.slice a0 len0 cap0, .slice a1 len1 cap1] w fun e w' => e = .returned (.bool true) ∧ Below w.heap.size w w' := by
  have hl0 := isrow_len w0
  have hl1 := isrow_len w1
  by_cases hbig : len0 ≤ 1048576
  · by_cases hbig1 : len1 ≤ 1048576
    · obtain ⟨fs, hzl, hI⟩ := Ints.ofRow w0 hbig
      obtain ⟨ls, hzl1, hI1⟩ := Ints.ofRow w1 hbig1
      have HI := hidden hI
      have HL := hidden hzl
      have HI1 := hidden hI1
      have HL1 := hidden hzl1
      clear w0 w1 hI hzl hI1 hzl1
      have hbI : ¬ (1048576 : Int) < (len0 : Int) := by omega
      have hbI1 : ¬ (1048576 : Int) < (len1 : Int) := by omega
      obtain ⟨V, hV⟩ : ∃ V, costI fs ls = V := ⟨_, rfl⟩
      have KS : Hid (∀ (W : World) (p q : Addr) (c d : Nat), Ints W W.heap.size (some p) fs → Ints W W.heap.size (some q) ls → Calls Try.prog 20 #[.slice (some p) len0 c, .slice (some q) len1 d] W fun e w' => e = .returned (.int .i64 V) ∧ Below W.heap.size W w') := hidden (fun W p q c d h h2 => by
        have := specCostOf_any (some p) (some q) c d W.heap.size fs ls W h h2
        rwa [HL.out, HL1.out, hV] at this)
      have KI : Hid (∀ (W : World) (p q : Addr) (c d : Nat), Ints W W.heap.size (some p) fs → Ints W W.heap.size (some q) ls → Calls Try.prog 18 #[.slice (some p) len0 c, .slice (some q) len1 d] W fun e w' => e = .returned (.int .i64 V) ∧ Below W.heap.size W w') := hidden (fun W p q c d h h2 => by
        have := hA (some p) (some q) c d W.heap.size fs ls W h h2 (Nat.le_refl _)
        rwa [HL.out, HL1.out, hV] at this)
      clear hV hA
      go_enter Try.func10, Try.ntmps10
      go_wp2_with fail
      refine (toIntS_n a0 cap0 _ fs w HL.out HI.out (Nat.le_refl _) hbig).mono ?_
      rintro e wa ⟨ga, rfl, hJa, _, ba⟩
      have Ba := ba
      have HJa := hidden hJa
      clear hJa
      go_wp2_with fail
      refine (toIntS_n a1 cap1 w.heap.size ls wa HL1.out (HI1.out.below Ba) Ba.size hbig1).mono ?_
      rintro e wb ⟨gb, rfl, hJb, _, bb⟩
      have Bb := Ba.trans (bb.mono Ba.size)
      have HJb := hidden hJb
      have HJab := hidden (HJa.out.below bb)
      have sb := bb.size
      clear hJb
      go_wp2_with fail
      refine (KS.out wb _ _ _ _ (HJab.out.mono sb) HJb.out).mono ?_
      rintro e wc ⟨rfl, bc⟩
      have Bc := Bb.trans (bc.mono Bb.size)
      clear HJb HJab HJa KS ba bb
      go_wp2_with fail
      refine (toIntS_n a0 cap0 w.heap.size fs wc HL.out (HI.out.below Bc) Bc.size hbig).mono ?_
      rintro e wd ⟨gd, rfl, hJd, _, bd⟩
      have Bd := Bc.trans (bd.mono Bc.size)
      have HJd := hidden hJd
      clear hJd
      go_wp2_with fail
      refine (toIntS_n a1 cap1 w.heap.size ls wd HL1.out (HI1.out.below Bd) Bd.size hbig1).mono ?_
      rintro e we ⟨ge, rfl, hJe, _, be⟩
      have Be := Bd.trans (be.mono Bd.size)
      have HJe := hidden hJe
      have HJde := hidden ((HJd.out.below be).mono be.size)
      clear hJe
      go_wp2_with fail
      refine (KI.out we _ _ _ _ HJde.out HJe.out).mono ?_
      rintro e wf ⟨rfl, bf⟩
      have Bf := Be.trans (bf.mono Be.size)
      have HJdf := hidden ((HJde.out.below bf).mono bf.size)
      have HJef := hidden ((HJe.out.below bf).mono bf.size)
      clear HJd HJe HJde KI
      go_wp2_with fail
      refine (toIntS_n a0 cap0 w.heap.size fs wf HL.out (HI.out.below Bf) Bf.size hbig).mono ?_
      rintro e wg ⟨gg, rfl, hJg, _, bg⟩
      have Bg := Bf.trans (bg.mono Bf.size)
      have HJdg := hidden ((HJdf.out.below bg).mono bg.size)
      have HJeg := hidden ((HJef.out.below bg).mono bg.size)
      have HJg := hidden hJg
      clear hJg
      go_wp2_with fail
      refine (eqSame_n _ _ _ _ wg.heap.size fs wg HL.out HJdg.out HJg.out).mono ?_
      rintro e wh ⟨rfl, bh⟩
      have Bh := Bg.trans (bh.mono Bg.size)
      have HJeh := hidden ((HJeg.out.below bh).mono bh.size)
      clear HJdg HJg HJeg
      go_wp2_with fail
      refine (toIntS_n a1 cap1 w.heap.size ls wh HL1.out (HI1.out.below Bh) Bh.size hbig1).mono ?_
      rintro e wi ⟨gi, rfl, hJi, _, bi⟩
      have Bi := Bh.trans (bi.mono Bh.size)
      have HJei := hidden ((HJeh.out.below bi).mono bi.size)
      have HJi := hidden hJi
      clear hJi
      go_wp2_with fail
      refine (eqSame_n _ _ _ _ wi.heap.size ls wi HL1.out HJei.out HJi.out).mono ?_
      rintro e wj ⟨rfl, bj⟩
      go_wp2
      go_ret
      exact ⟨rfl, Bi.trans (bj.mono Bi.size)⟩
    · have hbI : ¬ (1048576 : Int) < (len0 : Int) := by omega
      have hbI1 : (1048576 : Int) < (len1 : Int) := by omega
      go_enter Try.func10, Try.ntmps10
      go_wp2
      go_ret
      exact ⟨rfl, Below.refl _ _⟩
  · have hbI : (1048576 : Int) < (len0 : Int) := by omega
    go_enter Try.func10, Try.ntmps10
    go_wp2
    go_ret
    exact ⟨rfl, Below.refl _ _⟩
end Go.Proofs.Ytpmiphnjnbkjlaa
