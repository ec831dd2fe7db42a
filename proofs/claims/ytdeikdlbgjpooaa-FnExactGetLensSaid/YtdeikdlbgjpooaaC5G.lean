/- Chapter 5: lengths are read (the model). -/
import Derived.Test.YtdeikdlbgjpooaaC5P
import Derived.Test.YtdeikdlbgjpooaaC1LGet
import Derived.Test.YtdeikdlbgjpooaaC1SRd0
import Derived.Maps.AppendAt
import Derived.OwnWalk
import Derived.Deep.LoopGhost
namespace Go.Proofs.Ytdeikdlbgjpooaa
set_option linter.unusedVariables false
set_option linter.unusedSimpArgs false
open Go.RowKit

theorem num_row_one5 (s : ByteArray) (a : Nat) : num (row s a 1) = bit s a := by simp [row, num]
/-- What reading n lengths answers, the reader being in block b. -/
def L5Post (s : ByteArray) (at0 n b : Nat) (T : TypeId) (w : World) (e : Ending) (w' : World) : Prop :=
  ((∃ (xs : List Nat) (c : Nat) (v : Value), reads5 s at0 n xs c ∧ e = .returned v ∧ w'.ownsRow w.heap.size 3 1 v n (natsL xs) ∧ Has w' b T #[.string s, .int .i64 (c : Int)]) ∨
   ((¬ ∃ (xs : List Nat) (c : Nat), reads5 s at0 n xs c) ∧ e = .returned (.slice none 0 0))) ∧ Only b w w'
theorem l5post_no {s : ByteArray} {at0 n b : Nat} {T : TypeId} {w w' : World} (h : ¬ ∃ (xs : List Nat) (c : Nat), reads5 s at0 n xs c) (ho : Only b w w') : L5Post s at0 n b T w (.returned (.slice none 0 0)) w' := ⟨.inr ⟨h, rfl⟩, ho⟩
set_option maxHeartbeats 4000000 in
set_option maxRecDepth 100000 in
theorem l5get_any (s : ByteArray) (at0 n b : Nat) (T : TypeId) (w : World) (hs : s.size ≤ 1048576) (ha : at0 ≤ 8 * s.size) (hn1 : 1 ≤ n) (hn2 : n ≤ 260) (hb : Has w b T #[.string s, .int .i64 at0]) :
    Calls Try.prog 28 #[.pointer (some ⟨b, 0, none⟩), .int .i64 n] w (L5Post s at0 n b T w) := by
  obtain ⟨i0, hi, hz0, hz1, hz2⟩ := info_parts Try.infoInt
  have hbl := hb.lt
  by_cases hroom : at0 + 5 ≤ 8 * s.size
  · have K1 := hidden (l1get_yes s at0 5 b T w hs (by omega) hroom hb)
    have KY := hidden (fun (W : World) (c : Nat) (h : c + 1 ≤ 8 * s.size) (hB : Has W b T #[.string s, .int .i64 (c : Int)]) => l1get_yes s c 1 b T W hs (by omega) h hB)
    have KN := hidden (fun (W : World) (c : Nat) (h : c ≤ 8 * s.size) (h2 : 8 * s.size < c + 1) (hB : Has W b T #[.string s, .int .i64 (c : Int)]) => l1get_no s c 1 b T W hs (by omega) h h2 hB)
    simp only [num_row_one5] at KY
    have hx32 := num_row_lt s at0 5
    have HSTOP := hidden (fun (xs : List Nat) (c : Nat) (h1 : StpL s (at0 + 5) (num (row s at0 5)) xs c) (h2 : xs.length < n) h3 => stpL_stop h1 h2 h3)
    have HNO : Hid ((¬ ∃ (ys : List Nat) (d : Nat), ys.length = n ∧ StpL s (at0 + 5) (num (row s at0 5)) ys d) → ¬ ∃ (xs : List Nat) (c : Nat), reads5 s at0 n xs c) := hidden (fun h => by
      rintro ⟨xs, c, h1, h2, _⟩
      exact h ⟨xs, c, h1, h2.2⟩)
    have HYES : Hid (∀ (xs : List Nat) (c : Nat), StpL s (at0 + 5) (num (row s at0 5)) xs c → xs.length = n → lOk (iL xs) = true → reads5 s at0 n xs c) := hidden (fun xs c h1 h2 h3 => ⟨h2, ⟨hroom, h1⟩, h3⟩)
    have HONE : Hid (∀ (xs ys : List Nat) (c d : Nat), StpL s (at0 + 5) (num (row s at0 5)) xs c → xs.length = n → reads5 s at0 n ys d → xs = ys) := hidden (fun xs ys c d h1 h2 h3 => (h1.one h3.2.1.2 (by rw [h2, h3.1])).1)
    have HLE := hidden (fun (xs : List Nat) (c : Nat) (h1 : StpL s (at0 + 5) (num (row s at0 5)) xs c) => h1.le hroom)
    obtain ⟨x0, hx0⟩ : ∃ x, num (row s at0 5) = x := ⟨_, rfl⟩
    rw [hx0] at K1 HSTOP HNO HYES HONE HLE hx32
    have HB := hidden hb
    clear hb hx0
    go_enter Try.func28, Try.ntmps28
    go_wp2_with fail
    refine K1.out.mono ?_
    rintro e w1 ⟨rfl, hB1, hO1⟩
    go_wp2
    go_loopg [5, 6, 7, 8] n (fun gk v sn si _ wr => ∃ (k c now : Nat) (xs : List Nat), Hid (k + gk = n) ∧ k ≤ n ∧ si = .int .i64 k ∧ sn = .int .i64 now ∧ now ≤ 31 ∧ Hid (xs.length = k) ∧ Hid (lastN x0 xs = now) ∧ Hid (StpL s (at0 + 5) x0 xs c) ∧ wr.ownsRow w.heap.size 3 1 v k (natsL xs) ∧ Has wr b T #[.string s, .int .i64 (c : Int)] ∧ Only b w wr)
    case atStart => exact ⟨0, at0 + 5, x0, [], hidden (by omega), by omega, rfl, rfl, by omega, hidden rfl, hidden rfl, hidden (.nil _ _), World.ownsRow_nil _ _ _ _, hB1, hO1⟩
    case round =>
      obtain ⟨k, c, now, xs, HG, hk, rfl, rfl, hnow, HL, HLA, HST, hown, hB, hO⟩ := hrel
      by_cases hlt : k < n
      · have hcle := (HLE.out xs c HST.out).2
        have HCL := hidden hcle
        have HSX := hidden (fun h3 => HSTOP.out xs c HST.out (by rw [HL.out]; exact hlt) h3)
        rw [HLA.out] at HSX
        obtain ⟨wo, rfl⟩ : ∃ wo : World, wo = wr := ⟨_, rfl⟩
        obtain ⟨go, rfl⟩ : ∃ go : Nat, go = gk := ⟨_, rfl⟩
        clear hcle
        go_wp2
        go_loopg [6, 8] (8 * s.size) (fun gq sn _ wx => ∃ (c1 y : Nat), Hid (c1 + gq = 8 * s.size + c) ∧ sn = .int .i64 y ∧ y ≤ 31 ∧ c1 ≤ 8 * s.size ∧ Hid (∀ x d, Stp s c now x d ↔ Stp s c1 y x d) ∧ wx.ownsRow w.heap.size 3 1 u5 k (natsL xs) ∧ Has wx b T #[.string s, .int .i64 (c1 : Int)] ∧ Only b w wx)
        case atStart => exact ⟨c, now, hidden (by omega), rfl, hnow, HCL.out, hidden (fun x d => Iff.rfl), hown, hB, hO⟩
        case round =>
          obtain ⟨c1, y, HGQ, rfl, hy, hc1, HEQ, hown, hB, hO⟩ := hrel
          by_cases hr1 : y < 1
          · have HNX := hidden (HNO.out (HSX.out (fun x d h => by have := stp_range ((HEQ.out x d).1 h); omega)))
            have hI : (y : Int) < 1 := by omega
            go_wp2
            (try rw [Exit.noGoto_ret])
            go_ret
            exact l5post_no HNX.out hO
          · by_cases hr2 : 20 < y
            · have HNX := hidden (HNO.out (HSX.out (fun x d h => by have := stp_range ((HEQ.out x d).1 h); omega)))
              have hI : ¬ (y : Int) < 1 := by omega
              have hI2 : (20 : Int) < y := by omega
              go_wp2
              (try rw [Exit.noGoto_ret])
              go_ret
              exact l5post_no HNX.out hO
            · have hyr : 1 ≤ y ∧ y ≤ 20 := ⟨by omega, by omega⟩
              have hI : ¬ (y : Int) < 1 := by omega
              have hI2 : ¬ (20 : Int) < y := by omega
              by_cases hrm : c1 + 1 ≤ 8 * s.size
              · have K2 := hidden (KY.out wr c1 hrm hB)
                have hb2 := bit_lt s c1
                by_cases hb0 : bit s c1 = 0
                · have HZ := hidden (fun x d (h : Stp s c now x d) => stp_zero ((HEQ.out x d).1 h) hb0)
                  have HSN := hidden (HST.out.snoc (show Stp s c (lastN x0 xs) y (c1 + 1) by rw [HLA.out]; exact (HEQ.out _ _).2 (.stop c1 y hyr hrm hb0)))
                  rw [hb0] at K2
                  have HOW := hidden hown
                  clear hb0 hb2 hB
                  go_wp2_with fail
                  refine K2.out.mono ?_
                  rintro e w2 ⟨rfl, hB2, hO2⟩
                  have hown2 := HOW.out.kept hO2 (.inr fun e => by have := (HOW.out.lt b e).1; omega)
                  have hO3 : Only b w w2 := World.grownBy.trans hO hO2
                  have hsz := hO3.size
                  clear hO hO2 hown K2
                  go_wp2_with (at_builtin; refine wpList_append_own_at _ rfl _ _ 22 rfl w.heap.size 3 i0 (.int .i64 0) 1 8 Try.underlying22 hi hz0 hz1 hz2 rfl (by decide) _ _ _ rfl (hown2.alloc _) ⟨w2.heap.size, 0, none⟩ 1 1 [.int .i64 (y : Int)] rfl rfl ?ca2 ?ca3 ?ca4 ?ca5 ?ca6 ?_)
                  case ca2 => exact cell_one _ _ _
                  case ca3 => first | rfl | exact fun u hu => by simp at hu; subst hu; rfl
                  case ca4 => unfold maxLen; omega
                  case ca5 => omega
                  case ca6 => first | omega | (simp; omega)
                  intro v3 w3 hown3 hgrow _ _
                  have hne : some b ≠ u5.ownBlock := fun e => by have := (hown2.lt b e.symm).1; omega
                  have hB3 := (hB2.alloc (.cells #[.int .i64 (y : Int)] 3)).grown hgrow hne
                  have hO4 : Only b w w3 := (hO3.alloc (.cells #[.int .i64 (y : Int)] 3)).grownNew hgrow (fun q hq => by have := (hown2.lt q hq).1; omega)
                  have hown4 : w3.ownsRow w.heap.size 3 1 v3 (k + 1) (natsL (xs ++ [y])) := by rw [natsL_append]; exact hown3
                  clear hown3 hgrow hown2 hB2 hO3 hne
                  go_wp2
                  go_roundg (go - 1)
                  case measure => have := HG.out; omega
                  case rel => exact ⟨k + 1, c1 + 1, y, xs ++ [y], hidden (by have := HG.out; omega), by omega, by go_num, rfl, hy, hidden (by rw [List.length_append, HL.out]; rfl), hidden (lastN_snoc xs y x0), HSN, hown4, hB3, hO4⟩
                · have hb1 : bit s c1 = 1 := by omega
                  rw [hb1] at K2
                  have HB1 := hidden hb1
                  have HOW := hidden hown
                  clear hb0 hb1 hb2 hB
                  go_wp2_with fail
                  refine K2.out.mono ?_
                  rintro e w2 ⟨rfl, hB2, hO2⟩
                  have hown2 := HOW.out.kept hO2 (.inr fun e => by have := (HOW.out.lt b e).1; omega)
                  have hO3 : Only b w w2 := World.grownBy.trans hO hO2
                  clear hO hO2 hown K2 HOW
                  by_cases hrm2 : c1 + 2 ≤ 8 * s.size
                  · have K3 := hidden (KY.out w2 (c1 + 1) (by omega) hB2)
                    have hb3 := bit_lt s (c1 + 1)
                    have HOW := hidden hown2
                    by_cases hc0 : bit s (c1 + 1) = 0
                    · have HEQ2 : Hid (∀ x d, Stp s c now x d ↔ Stp s (c1 + 2) (y + 1) x d) := hidden (fun x d => (HEQ.out x d).trans (stp_up hyr hrm2 HB1.out hc0))
                      rw [hc0] at K3
                      clear hc0 hb3 hB2
                      go_wp2_with fail
                      refine K3.out.mono ?_
                      rintro e w3 ⟨rfl, hB3, hO4⟩
                      have hown3 := HOW.out.kept hO4 (.inr fun e => by have := (HOW.out.lt b e).1; omega)
                      have hO5 : Only b w w3 := World.grownBy.trans hO3 hO4
                      clear hO3 hO4 hown2 K3 HOW
                      go_wp2
                      go_roundg (gk - 2)
                      case measure => have := HGQ.out; omega
                      case rel => exact ⟨c1 + 2, y + 1, hidden (by have := HGQ.out; omega), by go_num, by omega, hrm2, HEQ2, hown3, hB3, hO5⟩
                    · have hc1b : bit s (c1 + 1) = 1 := by omega
                      have HEQ2 : Hid (∀ x d, Stp s c now x d ↔ Stp s (c1 + 2) (y - 1) x d) := hidden (fun x d => (HEQ.out x d).trans (stp_down hyr hrm2 HB1.out hc1b))
                      rw [hc1b] at K3
                      clear hc0 hc1b hb3 hB2
                      go_wp2_with fail
                      refine K3.out.mono ?_
                      rintro e w3 ⟨rfl, hB3, hO4⟩
                      have hown3 := HOW.out.kept hO4 (.inr fun e => by have := (HOW.out.lt b e).1; omega)
                      have hO5 : Only b w w3 := World.grownBy.trans hO3 hO4
                      clear hO3 hO4 hown2 K3 HOW
                      go_wp2
                      go_roundg (gk - 2)
                      case measure => have := HGQ.out; omega
                      case rel => exact ⟨c1 + 2, y - 1, hidden (by have := HGQ.out; omega), by rw [show ((y - 1 : Nat) : Int) = (y : Int) - 1 by omega], by omega, hrm2, HEQ2, hown3, hB3, hO5⟩
                  · have HNX := hidden (HNO.out (HSX.out (fun x d h => by have := stp_room2 ((HEQ.out x d).1 h) HB1.out; omega)))
                    have K3 := hidden (KN.out w2 (c1 + 1) (by omega) (by omega) hB2)
                    clear hB2 hrm2
                    go_wp2_with fail
                    refine K3.out.mono ?_
                    rintro e w3 ⟨rfl, hO4⟩
                    have hO5 : Only b w w3 := World.grownBy.trans hO3 hO4
                    clear hO3 hO4 K3
                    go_wp2
                    (try rw [Exit.noGoto_ret])
                    go_ret
                    exact l5post_no HNX.out hO5
              · have HNX := hidden (HNO.out (HSX.out (fun x d h => by have := stp_room ((HEQ.out x d).1 h); omega)))
                have K2 := hidden (KN.out wr c1 hc1 (by omega) hB)
                clear hB hrm
                go_wp2_with fail
                refine K2.out.mono ?_
                rintro e w2 ⟨rfl, hO2⟩
                have hO3 : Only b w w2 := World.grownBy.trans hO hO2
                clear hO hO2 K2
                go_wp2
                (try rw [Exit.noGoto_ret])
                go_ret
                exact l5post_no HNX.out hO3
      · have hkn : k = n := by omega
        subst hkn
        obtain ⟨g, cp, hv⟩ := Joins.ownsRow_form hown (by omega)
        subst hv
        have hxr : ∀ x ∈ iL xs, -9223372036854775808 ≤ x ∧ x ≤ 9223372036854775807 := fun x hx => by
          simp only [iL, List.mem_map] at hx
          obtain ⟨q, hq, rfl⟩ := hx
          have := HST.out.range q hq
          omega
        have hIL : intsV (iL xs) = natsL xs := by simp [iL, intsV, natsL]
        have hI := Ints.ofOwn (zs := iL xs) (by rw [hIL]; exact hown) (by omega) hxr
        have KL := specLensOk_any (some ⟨g, 0, none⟩) cp wr.heap.size (iL xs) wr hI.2
        rw [iL_len, HL.out] at KL
        have HKL := hidden KL
        clear KL hI hxr hIL
        by_cases hok : lOk (iL xs) = true
        · have HR := hidden (HYES.out xs c HST.out HL.out hok)
          rw [hok] at HKL
          clear hok
          go_wp2_with fail
          refine HKL.out.mono ?_
          rintro e w2 ⟨rfl, rfl⟩
          go_wp2
          (try rw [Exit.noGoto_ret])
          go_ret
          exact ⟨.inl ⟨xs, c, _, HR.out, rfl, hown, hB⟩, hO⟩
        · have HNX := hidden (show ¬ ∃ (xs : List Nat) (c : Nat), reads5 s at0 k xs c by
            rintro ⟨ys, d, h⟩
            have e := HONE.out xs ys c d HST.out HL.out h
            subst e
            exact hok h.2.2)
          have hno : lOk (iL xs) = false := by simpa using hok
          rw [hno] at HKL
          clear hok hno
          go_wp2_with fail
          refine HKL.out.mono ?_
          rintro e w2 ⟨rfl, rfl⟩
          go_wp2
          (try rw [Exit.noGoto_ret])
          go_ret
          exact l5post_no HNX.out hO
  · have K1 := hidden (l1get_no s at0 5 b T w hs (by omega) ha (by omega) hb)
    have HNX := hidden (show ¬ ∃ (xs : List Nat) (c : Nat), reads5 s at0 n xs c by
      rintro ⟨xs, c, _, h, _⟩
      exact hroom h.1)
    have hn0 : (0 : Int) < (n : Int) := by omega
    clear hb hroom
    go_enter Try.func28, Try.ntmps28
    go_wp2_with fail
    refine K1.out.mono ?_
    rintro e w1 ⟨rfl, hO1⟩
    go_wp2
    refine wp_loop_rounds 1 ?_
    rw [rounds_succ]
    go_wp2
    refine wp_loop_rounds 1 ?_
    rw [rounds_succ]
    go_wp2
    (try rw [Exit.noGoto_ret])
    go_ret
    exact l5post_no HNX.out hO1
end Go.Proofs.Ytdeikdlbgjpooaa
