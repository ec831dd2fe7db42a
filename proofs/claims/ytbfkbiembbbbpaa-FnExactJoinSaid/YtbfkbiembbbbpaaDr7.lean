/- Draws: rows of bits. -/
import Derived.Test.YtbfkbiembbbbpaaDr6
import Derived.Test.YtbfkbiembbbbpaaC1Close
import Derived.Deep.LoopGhost
namespace Go.Proofs.Ytbfkbiembbbbpaa
set_option linter.unusedVariables false
set_option linter.unusedSimpArgs false
open Go.RowKit

def bigC : Array Value := madeCells #[.int .u8 0] 50000
def bigZ : ByteArray := strOf (List.replicate 50000 0)
theorem bigZ_size : bigZ.size = 50000 := by unfold bigZ; rw [strOf_size, List.length_replicate]
theorem made_big (W : World) : (Instr.makeSlice 22 (.int .i64 50000) (.int .i64 50000)).run Try.prog W = .ok (.slice (some ⟨W.heap.size, 0, none⟩) 50000 50000) (W.alloc (.cells bigC 5)) := by
  obtain ⟨i0, hi, hz0, hz1, hz2⟩ := info_parts Try.info5
  have h := run_make (P := Try.prog) W 22 5 i0 (.int .u8 0) Try.underlying22 hi hz0 .i64 .i64 50000 50000 (by omega) (by omega) (by rw [hz2]; omega) (by omega)
  rw [hz1] at h
  exact h
theorem big_string {W' : World} {b : Nat} (h : Has W' b 5 bigC) : (convert 22 9 (.slice (some ⟨b, 0, none⟩) 50000 50000)).run Try.prog W' = .ok (.string bigZ) W' := by
  refine run_string_own (P := Try.prog) (base := b) Try.underlying22 Try.underlying5 Try.underlying9 (D := List.replicate 50000 0) ⟨by rw [u8s_len, List.length_replicate], .inr ⟨b, 50000, _, rfl, Nat.le_refl _, h, Nat.le_refl _, by unfold maxLen; omega, by unfold bigC; rw [size_madeCells], ?_⟩⟩ (by rw [List.length_replicate])
  unfold bigC
  rw [made_u8s, Nat.mul_one]
  rw [List.take_of_length_le (by rw [u8s_len, List.length_replicate]; exact Nat.le_refl _)]

set_option maxRecDepth 100000 in
set_option maxHeartbeats 4000000 in
theorem l1bits_any (g B : Nat) (w : World) (hc : Cur w g B) :
    Calls Try.prog 39 #[.pointer (some ⟨g, 0, none⟩)] w fun e w' => ∃ (s : ByteArray) (n : Int), e = .returned (.agg #[.string s, .int .i64 n]) ∧ s.size ≤ 100000 ∧ -1 ≤ n ∧ n ≤ 400000 ∧ Cur w' g B ∧ Only g w w' := by
  obtain ⟨i0, hi, hz0, hz1, hz2⟩ := info_parts Try.info5
  have hgl := hc.lt
  have hR := Has.fresh w 24 #[.string ⟨#[]⟩, .int .i64 0]
  have hO0 := (Only.refl g w).alloc (.cells #[.string ⟨#[]⟩, .int .i64 0] 24)
  have hc0 := hc.alloc (.cells #[.string ⟨#[]⟩, .int .i64 0] 24)
  go_enter Try.func39, Try.ntmps39
  go_wp2_with fail
  refine (l1Below_any g B _ _ hc0 (by omega)).mono ?_
  rintro e wa ⟨r, rfl, hr0, hr1, _, ha, Oa⟩
  have hr39 : r < 40 := hr1 (by omega)
  obtain ⟨k0, rfl⟩ : ∃ k : Nat, r = k := ⟨r.toNat, by omega⟩
  have hRa := Oa.has hR (by omega)
  have OA := hO0.trans_ Oa
  have hk39 : k0 ≤ 39 := by omega
  clear hr0 hr1 hr39 hR hO0 hc0 Oa
  go_wp2
  go_loopw [3, 4] (fun v i wr => ∃ (k : Nat) (l : List Nat), l.length + k ≤ 39 ∧ i = .int .i64 k ∧ Hid (∀ b ∈ l, b < 2) ∧ wr.ownsRow (w.heap.size + 1) 5 1 v l.length (u8s l) ∧ Has wr w.heap.size 24 #[.string ⟨#[]⟩, .int .i64 0] ∧ Cur wr g B ∧ Only g w wr) (fun _ i _ => (intOf i).toNat)
  case atStart => exact ⟨k0, [], by simpa using hk39, rfl, hidden (by simp), World.ownsRow_nil _ _ _ _, hRa, ha, OA⟩
  case round =>
    obtain ⟨k, l, hkl, rfl, Hl, hown, hRr, hcr, hO⟩ := hrel
    have hlt0 := hRr.lt
    by_cases hlt : 0 < k
    · go_wp2_with fail
      refine (l1Below_any g B _ _ hcr (by omega)).mono ?_
      rintro e w1 ⟨x, rfl, hx0, hx1, _, hc1, hO1⟩
      have hx2 : x < 2 := hx1 (by omega)
      obtain ⟨y, rfl⟩ : ∃ y : Nat, x = y := ⟨x.toNat, by omega⟩
      have hown1 := own_only hown hO1 (by omega)
      have hs1 := hO1.size
      have hy : (y : Int) % 256 = y := by omega
      have hR1 := hO1.has hRr (by omega)
      clear hx1
      go_wp2_with (at_builtin; refine wpList_append_own _ rfl _ _ 22 rfl (w.heap.size + 1) 5 i0 (.int .u8 0) 1 1 Try.underlying22 hi hz0 hz1 hz2 rfl (by decide) _ _ _ rfl (hown1.alloc _) ⟨w1.heap.size, 0, none⟩ 1 1 [.int .u8 (y : Int)] rfl rfl ?c1 ?c2 ?c3 ?c4 ?c5 ?_)
      case c1 => exact cell_one_new _ _ _
      case c2 => exact fun x hx => by simp at hx; subst hx; rfl
      case c3 => unfold maxLen; omega
      case c4 => omega
      case c5 => simp; omega
      intro v' w3 hown' hgrow _
      have hr : ∀ q, Value.ownBlock (_ : Value) = some q → w.heap.size + 1 ≤ q := fun q hq => (hown.lt q hq).1
      have hO3 : Only g w w3 := ((hO.trans_ hO1).alloc _).grownNew hgrow (fun q hq => by have := hr q hq; omega)
      have hc3 : Cur w3 g B := (hc1.alloc _).grown hgrow (fun q hq => by have := hr q hq; omega)
      have hR3 := (hR1.alloc (.cells #[.int .u8 (y : Int)] 5)).grown hgrow (own_ne hown1 (by omega))
      rw [← u8s_snoc] at hown'
      have Hl3 : Hid (∀ b ∈ l ++ [y], b < 2) := hidden (fun b hb => by
        rcases List.mem_append.1 hb with h | h
        · exact Hl.out b h
        · simp at h; omega)
      clear hown hown1 hcr hO hO1 hc1 hgrow hr hR1 hRr
      go_wp2
      go_roundw
      case rel => exact ⟨k - 1, l ++ [y], by simp; omega, by rw [Int.ofNat_sub (by omega)]; rfl, Hl3, by rw [List.length_append]; exact hown', hR3, hc3, hO3⟩
      case measure => simp [intOf]; omega
    · have hk0 : k = 0 := by omega
      subst hk0
      have hcl := l1close_own l Hl.out u3 _ wr (by omega) hown
      go_wp2_with fail
      refine hcl.mono ?_
      rintro e wb ⟨D, hD, rfl, Bb⟩
      have hDl := hD.len
      have hsD : (strOf D).size ≤ 6 := by rw [strOf_size]; omega
      have hRb := hRr.below Bb hlt0
      have hcb := hcr.below Bb (by omega)
      have hOb : Only g w wb := hO.grownNew (row := none) ⟨Bb.os, Bb.tape, Bb.output, Bb.size, fun i hi _ => Bb.block i hi⟩ (by simp)
      clear hcl hown hRr hcr hO Bb hD hDl
      generalize strOf D = s at *
      generalize hn : l.length = n at *
      clear hn
      have hX := Has.fresh wb 24 #[.string s, .int .i64 n]
      have hRX := hRb.alloc (.cells #[.string s, .int .i64 n] 24)
      have hcX := hcb.alloc (.cells #[.string s, .int .i64 n] 24)
      have hOX := hOb.alloc (.cells #[.string s, .int .i64 n] 24)
      have hlb := hRb.lt
      go_wp2_with fail
      refine (l1Below_any g B _ _ hcX (by omega)).mono ?_
      rintro e wc ⟨q, rfl, hq0, hq1, _, hcc, Oc⟩
      have hRc := Oc.has hRX (by omega)
      have hXc := Oc.has hX (by omega)
      have OC := hOX.trans_ Oc
      clear hX hRX hcX hOX Oc hRb hcb hOb
      have hn39 : n ≤ 39 := by omega
      have hlc := hXc.lt
      by_cases hq3 : 3 ≤ q
      · have b0 : (q == 0) = false := by simp; omega
        have b1 : (q == 1) = false := by simp; omega
        have b2 : (q == 2) = false := by simp; omega
        have x0 := hXc.cell 0
        have x1 := hXc.cell 1
        have e0 := hRc.cell 0
        have e1 := hRc.cell 1
        have g0 := hRc.free 0
        have g1 := hRc.free 1
        simp at x0 x1 e0 e1
        have hCf := (hcc.store (p := ⟨w.heap.size, 0, none⟩) hgl (.string s)).store (p := ⟨w.heap.size, 1, none⟩) hgl (.int .i64 (n : Int))
        have hOf := (OC.store (p := ⟨w.heap.size, 0, none⟩) (.inr (Nat.le_refl _)) (.string s)).store (p := ⟨w.heap.size, 1, none⟩) (.inr (Nat.le_refl _)) (.int .i64 (n : Int))
        go_wp2
        refine bodyPost_ret (v := .agg #[.string s, .int .i64 (n : Int)]) (by simp [results, Try.results39, go_sem, x0, x1, e0, e1, g0, g1]) rfl ⟨s, (n : Int), rfl, by omega, by omega, by omega, hCf, hOf⟩
      · have hq : q = 0 ∨ q = 1 ∨ q = 2 := by omega
        clear hq0 hq1 hq3
        rcases hq with rfl | rfl | rfl
        · have x0 := hXc.cell 0
          have x1 := hXc.cell 1
          have f1 := hXc.free 1
          simp at x0 x1
          go_wp2
          go_region_with (go_at_call 40; go_loud (refine (l1Below_any g B 2 wc.drew hcc.drew (by omega)).mono ?_; rintro e w1 ⟨r, rfl, hr0, hr1, _, hc1, hO⟩; have hr2 : r < 2 := hr1 (by omega); have hX1 := hO.has hXc.drew (by have := hcc.lt; omega); have hR1 := hO.has hRc.drew (by omega); have y1 := hX1.cell 1; have k1 := hX1.free 1; simp at y1; have v1 : IntKind.i64.wrap ((n : Int) + 1) = (n : Int) + 1 := (IntWalk.i64_in _ (by omega)); have v2 : IntKind.i64.wrap (2 * r) = 2 * r := (IntWalk.i64_in _ (by omega)); have v3 : IntKind.i64.wrap ((n : Int) + 1 - 2 * r) = (n : Int) + 1 - 2 * r := (IntWalk.i64_in _ (by omega)); clear hr1))
          all_goals
            have hXe := hX1.store 1 (.int .i64 ((n : Int) + 1 - 2 * r))
            simp at hXe
            have hRe := hR1.storeAway (p := ⟨wb.heap.size, 1, none⟩) (by simp; omega) (.int .i64 ((n : Int) + 1 - 2 * r))
            have hce := hc1.store (p := ⟨wb.heap.size, 1, none⟩) (by simp; omega) (.int .i64 ((n : Int) + 1 - 2 * r))
            have OE := (OC.drew.trans_ hO).store (p := ⟨wb.heap.size, 1, none⟩) (.inr (by simp; omega)) (.int .i64 ((n : Int) + 1 - 2 * r))
            clear x0 x1 f1 y1 k1
            have x0 := hXe.cell 0
            have x1 := hXe.cell 1
            have e0 := hRe.cell 0
            have e1 := hRe.cell 1
            have g0 := hRe.free 0
            have g1 := hRe.free 1
            simp at x0 x1 e0 e1
            have hCf := (hce.store (p := ⟨w.heap.size, 0, none⟩) hgl (.string s)).store (p := ⟨w.heap.size, 1, none⟩) hgl (.int .i64 ((n : Int) + 1 - 2 * r))
            have hOf := (OE.store (p := ⟨w.heap.size, 0, none⟩) (.inr (Nat.le_refl _)) (.string s)).store (p := ⟨w.heap.size, 1, none⟩) (.inr (Nat.le_refl _)) (.int .i64 ((n : Int) + 1 - 2 * r))
            go_wp2
            refine bodyPost_ret (v := .agg #[.string s, .int .i64 ((n : Int) + 1 - 2 * r)]) (by simp [results, Try.results39, go_sem, x0, x1, e0, e1, g0, g1]) rfl ⟨s, ((n : Int) + 1 - 2 * r), rfl, by omega, by omega, by omega, hCf, hOf⟩
        · have x0 := hXc.cell 0
          have x1 := hXc.cell 1
          have f0 := hXc.free 0
          simp at x0 x1
          go_wp2_with fail
          refine (l1bend_any g B s _ hcc (by omega)).mono ?_
          rintro e wd ⟨t, rfl, ht, hcd, Od⟩
          have hXd := Od.has hXc (by have := hcc.lt; omega)
          have hRd := Od.has hRc (by omega)
          have OD := OC.trans_ Od
          have hXe := hXd.store 0 (.string t)
          simp at hXe
          have hRe := hRd.storeAway (p := ⟨wb.heap.size, 0, none⟩) (by simp; omega) (.string t)
          have hce := hcd.store (p := ⟨wb.heap.size, 0, none⟩) (by simp; omega) (.string t)
          have OE := OD.store (p := ⟨wb.heap.size, 0, none⟩) (.inr (by simp; omega)) (.string t)
          clear x0 x1 f0
          have d0 := hXd.cell 0
          have d1 := hXd.free 0
          simp at d0
          have x0 := hXe.cell 0
          have x1 := hXe.cell 1
          have e0 := hRe.cell 0
          have e1 := hRe.cell 1
          have g0 := hRe.free 0
          have g1 := hRe.free 1
          simp at x0 x1 e0 e1
          have hCf := (hce.store (p := ⟨w.heap.size, 0, none⟩) hgl (.string t)).store (p := ⟨w.heap.size, 1, none⟩) hgl (.int .i64 (n : Int))
          have hOf := (OE.store (p := ⟨w.heap.size, 0, none⟩) (.inr (Nat.le_refl _)) (.string t)).store (p := ⟨w.heap.size, 1, none⟩) (.inr (Nat.le_refl _)) (.int .i64 (n : Int))
          go_wp2
          refine bodyPost_ret (v := .agg #[.string t, .int .i64 (n : Int)]) (by simp [results, Try.results39, go_sem, x0, x1, e0, e1, g0, g1]) rfl ⟨t, (n : Int), rfl, by omega, by omega, by omega, hCf, hOf⟩
        · have x0 := hXc.cell 0
          have x1 := hXc.cell 1
          have f0 := hXc.free 0
          have f1 := hXc.free 1
          simp at x0 x1
          have hmk := made_big
          have hz1 : ∀ X : World, (convert 22 9 (.slice (some ⟨X.heap.size, 0, none⟩) 50000 50000)).run Try.prog (X.alloc (.cells bigC 5)) = .ok (.string bigZ) (X.alloc (.cells bigC 5)) := fun X => big_string (Has.fresh X _ _)
          have hz2 : ∀ X : World, (convert 22 9 (.slice (some ⟨X.heap.size, 0, none⟩) 50000 50000)).run Try.prog (X.alloc (.cells bigC 5)).drew = .ok (.string bigZ) (X.alloc (.cells bigC 5)).drew := fun X => big_string (Has.fresh X _ _)
          go_wp2
          go_region_with (go_at_call 40; (first | (refine (l1Below_any g B 4 wc.drew hcc.drew (by omega)).mono ?_) | (refine (l1Below_any g B 4 (wc.alloc (.cells bigC 5)).drew (hcc.alloc _).drew (by omega)).mono ?_)); rintro e w1 ⟨r, rfl, hr0, hr1, _, hc1, hO⟩; have hr4 : r < 4 := hr1 (by omega); (first | (have hX1 := hO.has hXc.drew (by have := hcc.lt; omega)) | (have hX1 := hO.has (hXc.alloc (.cells bigC 5)).drew (by have := hcc.lt; omega))); (first | (have hR1 := hO.has hRc.drew (by omega)) | (have hR1 := hO.has (hRc.alloc (.cells bigC 5)).drew (by omega))); (try (have hz3 := big_string (hO.has (Has.fresh wc 5 bigC).drew (by have := hcc.lt; omega)))); have y0 := hX1.cell 0; have y1 := hX1.cell 1; have k0 := hX1.free 0; have k1 := hX1.free 1; simp at y0 y1; have hl1 := hX1.lt; have v1 : IntKind.i64.wrap (400000 - r) = 400000 - r := (IntWalk.i64_in _ (by omega)); clear hr1)
          · have hXe := (hX1.store 0 (.string bigZ)).store 1 (.int .i64 (400000 - r))
            simp at hXe
            have hRe := (hR1.storeAway (p := ⟨wb.heap.size, 0, none⟩) (by simp; omega) (.string bigZ)).storeAway (p := ⟨wb.heap.size, 1, none⟩) (by simp; omega) (.int .i64 (400000 - r))
            have hce := (hc1.store (p := ⟨wb.heap.size, 0, none⟩) (by simp; omega) (.string bigZ)).store (p := ⟨wb.heap.size, 1, none⟩) (by simp; omega) (.int .i64 (400000 - r))
            have OE := (((OC.alloc (.cells bigC 5)).drew.trans_ hO).store (p := ⟨wb.heap.size, 0, none⟩) (.inr (by simp; omega)) (.string bigZ)).store (p := ⟨wb.heap.size, 1, none⟩) (.inr (by simp; omega)) (.int .i64 (400000 - r))
            clear x0 x1 f0 f1 y0 y1 k0 k1 hmk hz1 hz2
            have x0 := hXe.cell 0
            have x1 := hXe.cell 1
            have e0 := hRe.cell 0
            have e1 := hRe.cell 1
            have g0 := hRe.free 0
            have g1 := hRe.free 1
            simp at x0 x1 e0 e1
            have hCf := (hce.store (p := ⟨w.heap.size, 0, none⟩) hgl (.string bigZ)).store (p := ⟨w.heap.size, 1, none⟩) hgl (.int .i64 (400000 - r))
            have hOf := (OE.store (p := ⟨w.heap.size, 0, none⟩) (.inr (Nat.le_refl _)) (.string bigZ)).store (p := ⟨w.heap.size, 1, none⟩) (.inr (Nat.le_refl _)) (.int .i64 (400000 - r))
            go_wp2
            refine bodyPost_ret (v := .agg #[.string bigZ, .int .i64 (400000 - r)]) (by simp [results, Try.results39, go_sem, x0, x1, e0, e1, g0, g1]) rfl ⟨bigZ, (400000 - r), rfl, by rw [bigZ_size]; omega, by omega, by omega, hCf, hOf⟩
          · have hXe := (hX1.store 0 (.string bigZ)).store 1 (.int .i64 (400000 - r))
            simp at hXe
            have hRe := (hR1.storeAway (p := ⟨wb.heap.size, 0, none⟩) (by simp; omega) (.string bigZ)).storeAway (p := ⟨wb.heap.size, 1, none⟩) (by simp; omega) (.int .i64 (400000 - r))
            have hce := (hc1.store (p := ⟨wb.heap.size, 0, none⟩) (by simp; omega) (.string bigZ)).store (p := ⟨wb.heap.size, 1, none⟩) (by simp; omega) (.int .i64 (400000 - r))
            have OE := (((OC.alloc (.cells bigC 5)).drew.trans_ hO).store (p := ⟨wb.heap.size, 0, none⟩) (.inr (by simp; omega)) (.string bigZ)).store (p := ⟨wb.heap.size, 1, none⟩) (.inr (by simp; omega)) (.int .i64 (400000 - r))
            clear x0 x1 f0 f1 y0 y1 k0 k1 hmk hz1 hz2
            have x0 := hXe.cell 0
            have x1 := hXe.cell 1
            have e0 := hRe.cell 0
            have e1 := hRe.cell 1
            have g0 := hRe.free 0
            have g1 := hRe.free 1
            simp at x0 x1 e0 e1
            have hCf := (hce.store (p := ⟨w.heap.size, 0, none⟩) hgl (.string bigZ)).store (p := ⟨w.heap.size, 1, none⟩) hgl (.int .i64 (400000 - r))
            have hOf := (OE.store (p := ⟨w.heap.size, 0, none⟩) (.inr (Nat.le_refl _)) (.string bigZ)).store (p := ⟨w.heap.size, 1, none⟩) (.inr (Nat.le_refl _)) (.int .i64 (400000 - r))
            go_wp2
            refine bodyPost_ret (v := .agg #[.string bigZ, .int .i64 (400000 - r)]) (by simp [results, Try.results39, go_sem, x0, x1, e0, e1, g0, g1]) rfl ⟨bigZ, (400000 - r), rfl, by rw [bigZ_size]; omega, by omega, by omega, hCf, hOf⟩
          · have hXe := (hX1.store 0 (.string bigZ)).store 1 (.int .i64 (400000 - r))
            simp at hXe
            have hRe := (hR1.storeAway (p := ⟨wb.heap.size, 0, none⟩) (by simp; omega) (.string bigZ)).storeAway (p := ⟨wb.heap.size, 1, none⟩) (by simp; omega) (.int .i64 (400000 - r))
            have hce := (hc1.store (p := ⟨wb.heap.size, 0, none⟩) (by simp; omega) (.string bigZ)).store (p := ⟨wb.heap.size, 1, none⟩) (by simp; omega) (.int .i64 (400000 - r))
            have OE := ((OC.drew.trans_ hO).store (p := ⟨wb.heap.size, 0, none⟩) (.inr (by simp; omega)) (.string bigZ)).store (p := ⟨wb.heap.size, 1, none⟩) (.inr (by simp; omega)) (.int .i64 (400000 - r))
            clear x0 x1 f0 f1 y0 y1 k0 k1 hmk hz1 hz2
            have x0 := hXe.cell 0
            have x1 := hXe.cell 1
            have e0 := hRe.cell 0
            have e1 := hRe.cell 1
            have g0 := hRe.free 0
            have g1 := hRe.free 1
            simp at x0 x1 e0 e1
            have hCf := ((hce.alloc (.cells bigC 5)).store (p := ⟨w.heap.size, 0, none⟩) hgl (.string bigZ)).store (p := ⟨w.heap.size, 1, none⟩) hgl (.int .i64 (400000 - r))
            have hOf := ((OE.alloc (.cells bigC 5)).store (p := ⟨w.heap.size, 0, none⟩) (.inr (Nat.le_refl _)) (.string bigZ)).store (p := ⟨w.heap.size, 1, none⟩) (.inr (Nat.le_refl _)) (.int .i64 (400000 - r))
            have s0 := ((hRe.alloc (.cells bigC 5)).store 0 (.string bigZ)).cell 0
            have s1 := (((hRe.alloc (.cells bigC 5)).store 0 (.string bigZ)).store 1 (.int .i64 (400000 - r))).cell 1
            have z0 := (hX1.store 0 (.string bigZ)).cell 0
            simp at z0
            have xa0 : (((w1.setCell ⟨wb.heap.size, 0, none⟩ (.string bigZ)).setCell ⟨wb.heap.size, 1, none⟩ (.int .i64 (400000 - r))).alloc (.cells bigC 5)).cell? ⟨wb.heap.size, 0, none⟩ = some (.string bigZ) := (hXe.alloc (.cells bigC 5)).cell 0
            have xa1 : (((w1.setCell ⟨wb.heap.size, 0, none⟩ (.string bigZ)).setCell ⟨wb.heap.size, 1, none⟩ (.int .i64 (400000 - r))).alloc (.cells bigC 5)).cell? ⟨wb.heap.size, 1, none⟩ = some (.int .i64 (400000 - r)) := (hXe.alloc (.cells bigC 5)).cell 1
            have ea0 : (((w1.setCell ⟨wb.heap.size, 0, none⟩ (.string bigZ)).setCell ⟨wb.heap.size, 1, none⟩ (.int .i64 (400000 - r))).alloc (.cells bigC 5)).cell? ⟨w.heap.size, 0, none⟩ = some (.string ⟨#[]⟩) := (hRe.alloc (.cells bigC 5)).cell 0
            have ea1 : (((w1.setCell ⟨wb.heap.size, 0, none⟩ (.string bigZ)).setCell ⟨wb.heap.size, 1, none⟩ (.int .i64 (400000 - r))).alloc (.cells bigC 5)).cell? ⟨w.heap.size, 1, none⟩ = some (.int .i64 0) := (hRe.alloc (.cells bigC 5)).cell 1
            have ga0 := (hRe.alloc (.cells bigC 5)).free 0
            have ga1 := (hRe.alloc (.cells bigC 5)).free 1
            clear x0 x1 e0 e1 g0 g1
            have S0 := hidden s0
            have S1 := hidden s1
            clear s0 s1
            go_wp2
            have s0 : _ = some (Value.string bigZ) := S0.out
            have s1 : _ = some (Value.int .i64 (400000 - r)) := S1.out
            refine bodyPost_ret (v := .agg #[.string bigZ, .int .i64 (400000 - r)]) (by simp [results, Try.results39, go_sem, s0, s1]) rfl ⟨bigZ, (400000 - r), rfl, by rw [bigZ_size]; omega, by omega, by omega, hCf, hOf⟩
end Go.Proofs.Ytbfkbiembbbbpaa
