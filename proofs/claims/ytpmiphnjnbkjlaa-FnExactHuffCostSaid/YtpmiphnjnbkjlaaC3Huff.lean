/- Chapter 3: Huffman's sum (the model). -/
import Derived.Test.YtpmiphnjnbkjlaaC3Least
import Derived.Test.YtpmiphnjnbkjlaaHuff
namespace Go.Proofs.Ytpmiphnjnbkjlaa
set_option linter.unusedVariables false
set_option linter.unusedSimpArgs false
open Go.RowKit

def wl (zs : List Int) (k : Nat) : List Nat := (List.range k).map fun i => wgt (zs.getD i 0)
theorem wl_succ (zs : List Int) (k : Nat) : wl zs (k + 1) = wl zs k ++ [wgt (zs.getD k 0)] := by simp [wl, List.range_succ]
theorem wl_len (zs : List Int) (k : Nat) : (wl zs k).length = k := by simp [wl]
theorem take_out_perm (D : List Nat) (k x : Nat) (h : D[k]? = some x) : D.Perm (x :: (D.take k ++ D.drop (k + 1))) := by
  obtain ⟨hk, he⟩ := List.getElem?_eq_some_iff.1 h
  have : D = D.take k ++ x :: D.drop (k + 1) := by
    rw [← he, List.getElem_cons_drop, List.take_append_drop]
  exact (List.Perm.of_eq this).trans List.perm_middle
theorem huff_step {D D1 D2 : List Nat} {x y c : Nat} (h1 : D.Perm (x :: D1)) (hx : ∀ z ∈ D, x ≤ z) (h2 : D1.Perm (y :: D2)) (hy : ∀ z ∈ D1, y ≤ z) (h : Huff (D2 ++ [x + y]) c) : Huff D (x + y + c) :=
  Huff.two D x y D2 (D2 ++ [x + y]) c (h1.trans (h2.cons _)) (fun z hz => hx z (h1.mem_iff.2 (List.mem_cons_of_mem _ (h2.mem_iff.2 hz)))) (fun z hz => hy z (h2.mem_iff.2 (List.mem_cons_of_mem _ hz))) (List.perm_append_singleton _ _) h
/-- What HuffCost answers for valid frequencies. -/
def HuffIs (zs : List Int) (c : Nat) : Prop := (zs.length = 1 → c = wgt (zs.getD 0 0)) ∧ (2 ≤ zs.length → Huff (wl zs zs.length) c) ∧ c ≤ 70000000000
set_option maxHeartbeats 4000000 in
theorem specHuff_yes (a : Option Addr) (cap B : Nat) (zs : List Int) (w : World) (hz : Ints w B a zs) (hB : B ≤ w.heap.size) (hf : fOk zs = true) :
    Calls Try.prog 30 #[.slice a zs.length cap] w fun e w' => ∃ c : Nat, e = .returned (.int .i64 c) ∧ HuffIs zs c ∧ Below w.heap.size w w' := by
  obtain ⟨i0, hi, hz0, hz1, hz2⟩ := info_parts Try.infoInt
  have hfr := (fOk_iff zs).1 hf
  obtain ⟨n, hn⟩ : ∃ n, zs.length = n := ⟨_, rfl⟩
  have K1 := hidden (specFreqsOk_any a cap B zs w hz)
  rw [hf] at K1
  have HR := hidden hfr.2.2
  have HZ := hidden hz
  have hn260 : n ≤ 260 := by rw [← hn]; exact hfr.2.1
  have hn1 : 1 ≤ n := by rw [← hn]; exact hfr.1
  rw [hn] at K1 ⊢
  have HN := hidden hn
  clear hf hfr hn hz
  go_enter Try.func30, Try.ntmps30
  go_wp2_with fail
  refine K1.out.mono ?_
  rintro e w' ⟨rfl, rfl⟩
  go_wp2
  go_loopw [3, 4] (fun v si wr => ∃ k : Nat, k ≤ n ∧ si = .int .i64 k ∧ wr.ownsRow w'.heap.size 3 1 v k (natsL (wl zs k)) ∧ Hid ((wl zs k).sum ≤ 1000000 * k) ∧ Below w'.heap.size w' wr) (fun _ si _ => n - (intOf si).toNat)
  case atStart => exact ⟨0, Nat.zero_le _, rfl, World.ownsRow_nil _ _ _ _, hidden (Nat.le_refl _), Below.refl _ _⟩
  case round =>
    obtain ⟨k, hk, rfl, hown, HS, hbl⟩ := hrel
    have hsz := hbl.size
    by_cases hlt : k < n
    · have hzr := HZ.out.below (hbl.mono hB)
      obtain ⟨b, off, rfl, hb, hc⟩ := hzr.2.2 (by rw [HN.out]; omega)
      have ck := hc k (by rw [HN.out]; exact hlt)
      have hxr := HR.out k (by rw [HN.out]; exact hlt)
      obtain ⟨x, hx⟩ : ∃ x, zs.getD k 0 = x := ⟨_, rfl⟩
      rw [hx] at ck hxr
      have HX := hidden hx
      obtain ⟨W, hW⟩ : ∃ W, wgt x = W := ⟨_, rfl⟩
      have hW2 : 1 ≤ W ∧ W ≤ 1000000 := by rcases wgt_le x hxr.2 with h | h <;> omega
      have HW := hidden hW
      have HS2 : Hid ((wl zs (k + 1)).sum ≤ 1000000 * (k + 1)) := hidden (by
        rw [wl_succ, List.sum_append, HX.out, HW.out]
        have := HS.out
        simp; omega)
      have HE : Hid (natsL (wl zs (k + 1)) = natsL (wl zs k) ++ [.int .i64 (W : Int)]) := hidden (by rw [wl_succ, natsL_append, HX.out, HW.out]; rfl)
      clear hx hzr hc
      go_wp2_with fail
      refine (l3weight_any x _ hxr.1 hxr.2).mono ?_
      rintro e w2 ⟨rfl, rfl⟩
      rw [hW]
      go_wp2_with (at_builtin; refine wpList_append_own_at _ rfl _ _ 23 rfl w'.heap.size 3 i0 (.int .i64 0) 1 8 Try.underlying23 hi hz0 hz1 hz2 rfl (by decide) _ _ _ rfl (hown.alloc _) ⟨w2.heap.size, 0, none⟩ 1 1 [.int .i64 (W : Int)] rfl rfl ?ca2 ?ca3 ?ca4 ?ca5 ?ca6 ?_)
      case ca2 => exact cell_one _ _ _
      case ca3 => exact fun u hu => by simp at hu; subst hu; rfl
      case ca4 => unfold maxLen; omega
      case ca5 => omega
      case ca6 => simp; omega
      intro v3 w3 hown3 hgrow _ _
      have hbl3 : Below w'.heap.size w' w3 := (hbl.alloc (by omega) _).grown hgrow (by simp; omega) (fun b hb => (hown.lt b hb).1)
      rw [← HE.out] at hown3
      clear hgrow hown hbl ck
      go_wp2
      go_roundw
      case rel => exact ⟨k + 1, by omega, by go_num, hown3, HS2, hbl3⟩
      case measure => simp [intOf]; omega
    · have hkn : k = n := by omega
      subst hkn
      obtain ⟨g0, c0, hv⟩ := Joins.ownsRow_form hown (by omega)
      subst hv
      by_cases h1 : k = 1
      · subst h1
        have hc := hown.cellAt 0 (by omega)
        have hw1 : (natsL (wl zs 1))[0]? = some (.int .i64 (wgt (zs.getD 0 0) : Int)) := rfl
        rw [hw1] at hc
        have hxr := HR.out 0 (by rw [HN.out]; omega)
        obtain ⟨x, hx⟩ : ∃ x, zs.getD 0 0 = x := ⟨_, rfl⟩
        rw [hx] at hc hxr
        have hW2 : 1 ≤ wgt x ∧ wgt x ≤ 1000000 := by rcases wgt_le x hxr.2 with h | h <;> omega
        have HX := hidden hx
        clear hx hw1
        go_wp2
        go_ret
        exact ⟨wgt x, rfl, ⟨fun _ => by rw [HX.out], fun h => by rw [HN.out] at h; omega, by omega⟩, hbl⟩
      · have hb1 : ((k : Int) == 1) = false := by rw [beq_eq_false_iff_ne]; omega
        have hk2 : 2 ≤ k := by omega
        have HWL := hidden (wl_len zs k)
        clear h1
        go_wp2
        go_loopw [3, 5] (fun v sa wx => ∃ (D : List Nat) (acc : Nat), 1 ≤ D.length ∧ D.length ≤ k ∧ sa = .int .i64 acc ∧ wx.ownsRow w'.heap.size 3 1 v D.length (natsL D) ∧ Hid (∀ c, Huff D c → Huff (wl zs k) (acc + c)) ∧ Hid (D.sum ≤ 1000000 * k) ∧ acc ≤ 1000000 * k * (k - D.length) ∧ Below w'.heap.size w' wx) (fun v _ _ => match v with | .slice _ l _ => l | _ => 0)
        case atStart => exact ⟨wl zs k, 0, by rw [HWL.out]; omega, by rw [HWL.out]; exact Nat.le_refl _, rfl, by rw [HWL.out]; exact hown, hidden (fun c h => by rw [Nat.zero_add]; exact h), HS, Nat.zero_le _, hbl⟩
        case round =>
          obtain ⟨D, acc, hD1, hDk, rfl, hownD, HH, HSD, hacc, hblD⟩ := hrel
          have hsD := hblD.size
          obtain ⟨gd, cd, hv⟩ := Joins.ownsRow_form hownD (by omega)
          subst hv
          by_cases h1D : 1 < D.length
          · obtain ⟨d, hd⟩ : ∃ d, D.length = d := ⟨_, rfl⟩
            rw [hd] at hownD h1D hDk hacc hD1 ⊢
            have KA := hidden (l3least_any w'.heap.size gd d cd D wr hd hownD (by omega) (by omega))
            have hd1 : (1 : Int) < (d : Int) := by omega
            clear hd
            go_wp2_with fail
            refine KA.out.mono ?_
            rintro e wa ⟨k1, x, v1, rfl, hk1, hx, hxm, own1, b1⟩
            have p1 := take_out_perm D k1 x hx
            obtain ⟨D1, hD1e⟩ : ∃ D1, D.take k1 ++ D.drop (k1 + 1) = D1 := ⟨_, rfl⟩
            rw [hD1e] at own1 p1
            have hl1 : D1.length = d - 1 := by have := own1.1; rw [natsL_len] at this; omega
            obtain ⟨g1, c1, hv1⟩ := Joins.ownsRow_form own1 (by omega)
            subst hv1
            have KB := hidden (l3least_any wr.heap.size g1 (d - 1) c1 D1 wa hl1 own1 (by omega) (by omega))
            have hsum1 : D.sum = x + D1.sum := by rw [perm_sum p1]; rfl
            have HXM := hidden hxm
            have P1 := hidden p1
            have sa := b1.size
            clear own1 hl1 hD1e hx hxm p1 hownD KA
            go_wp2_with fail
            refine KB.out.mono ?_
            rintro e wb ⟨k2, y, v2, rfl, hk2, hy, hym, own2, b2⟩
            have p2 := take_out_perm D1 k2 y hy
            obtain ⟨D2, hD2e⟩ : ∃ D2, D1.take k2 ++ D1.drop (k2 + 1) = D2 := ⟨_, rfl⟩
            rw [hD2e] at own2 p2
            have hl2 : D2.length = d - 1 - 1 := by have := own2.1; rw [natsL_len] at this; omega
            have hsum2 : D1.sum = y + D2.sum := by rw [perm_sum p2]; rfl
            have hS := HSD.out
            have hxy : x + y ≤ 260000000 := by omega
            have haccb : acc ≤ 70000000000 := by
              have : 1000000 * k * (k - d) ≤ 1000000 * 260 * 260 := Nat.mul_le_mul (by omega) (by omega)
              omega
            have HH2 : Hid (∀ c, Huff (D2 ++ [x + y]) c → Huff (wl zs k) (acc + x + y + c)) := hidden (fun c h => by
              have := HH.out _ (huff_step P1.out HXM.out p2 hym h)
              rwa [show acc + (x + y + c) = acc + x + y + c by omega] at this)
            have HS2 : Hid ((D2 ++ [x + y]).sum ≤ 1000000 * k) := hidden (by rw [List.sum_append]; simp; omega)
            have HA2 : Hid (acc + x + y ≤ 1000000 * k * (k - (d - 1))) := hidden (by
              rw [show k - (d - 1) = k - d + 1 by omega, Nat.mul_succ]; omega)
            have own2' := Joins.ownsRow_le own2 (show w'.heap.size ≤ wa.heap.size by omega)
            have sb := b2.size
            have hbb : Below w'.heap.size w' wb := (hblD.trans (b1.mono hsD)).trans (b2.mono (by omega))
            have HE : Hid (natsL (D2 ++ [x + y]) = natsL D2 ++ [.int .i64 ((x : Int) + (y : Int))]) := hidden (by rw [natsL_append]; simp [natsL])
            have HL2 := hidden hl2
            clear own2 hl2 hD2e hy hym p2 hsum1 hsum2 hS hacc hblD b1 b2 KB
            go_wp2_with (at_builtin; refine wpList_append_own_at _ rfl _ _ 23 rfl w'.heap.size 3 i0 (.int .i64 0) 1 8 Try.underlying23 hi hz0 hz1 hz2 rfl (by decide) _ _ _ rfl (own2'.alloc _) ⟨wb.heap.size, 0, none⟩ 1 1 [.int .i64 ((x : Int) + (y : Int))] rfl rfl ?cb2 ?cb3 ?cb4 ?cb5 ?cb6 ?_)
            case cb2 => exact cell_one _ _ _
            case cb3 => exact fun u hu => by simp at hu; subst hu; rfl
            case cb4 => unfold maxLen; omega
            case cb5 => omega
            case cb6 => simp; omega
            intro v3 w3 own3 hgrow _ _
            have hbl3 : Below w'.heap.size w' w3 := (hbb.alloc (by omega) _).grown hgrow (by simp; omega) (fun b hb => (own2'.lt b hb).1)
            rw [← HE.out, show d - 1 - 1 + 1 = d - 1 by omega] at own3
            obtain ⟨g3, c3, hv3⟩ := Joins.ownsRow_form own3 (by omega)
            subst hv3
            have hl3 : (D2 ++ [x + y]).length = d - 1 := by rw [List.length_append, HL2.out]; simp; omega
            have HL3 := hidden hl3
            clear hgrow own2' hbb hl3
            go_wp2
            refine ⟨⟨D2 ++ [x + y], acc + x + y, by rw [HL3.out]; omega, by rw [HL3.out]; omega, by go_num, by rw [HL3.out]; exact own3, HH2, HS2, by rw [HL3.out]; exact HA2.out, hbl3⟩, ?_⟩
            show d - 1 < d
            omega
          · have hd1 : D.length = 1 := by omega
            obtain ⟨z, hz⟩ : ∃ z, D = [z] := by
              cases D with
              | nil => simp at hd1
              | cons z D => cases D with
                | nil => exact ⟨z, rfl⟩
                | cons _ _ => simp at hd1
            subst hz
            have HR0 : Hid (HuffIs zs acc) := hidden ⟨fun h => by rw [HN.out] at h; omega, fun _ => by rw [HN.out]; have := HH.out 0 (Huff.one z); simpa using this, by
              have : 1000000 * k * (k - 1) ≤ 1000000 * 260 * 259 := Nat.mul_le_mul (by omega) (by omega)
              have h2 : acc ≤ 1000000 * k * (k - 1) := hacc
              omega⟩
            clear hacc
            go_wp2
            go_ret
            exact ⟨acc, rfl, HR0.out, hblD⟩
theorem specHuff_no (a : Option Addr) (cap B : Nat) (zs : List Int) (w : World) (hz : Ints w B a zs) (hf : fOk zs = false) :
    Calls Try.prog 30 #[.slice a zs.length cap] w fun e w' => e = .returned (.int .i64 (-1)) ∧ w' = w := by
  have K1 := hidden (specFreqsOk_any a cap B zs w hz)
  rw [hf] at K1
  go_enter Try.func30, Try.ntmps30
  go_wp2_with fail
  refine K1.out.mono ?_
  rintro e w' ⟨rfl, rfl⟩
  go_wp2
  go_ret
  exact ⟨rfl, rfl⟩
end Go.Proofs.Ytpmiphnjnbkjlaa
