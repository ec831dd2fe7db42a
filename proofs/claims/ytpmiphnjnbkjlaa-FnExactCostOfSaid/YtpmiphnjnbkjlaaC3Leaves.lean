/- Chapter 3: the symbols in order of weight (the model). -/
import Derived.Test.YtpmiphnjnbkjlaaC3
import Derived.Test.YtpmiphnjnbkjlaaItems
import Derived.WalkLawsBesides
import Derived.Maps.AppendAt
namespace Go.Proofs.Ytpmiphnjnbkjlaa
set_option linter.unusedVariables false
set_option linter.unusedSimpArgs false
open Go.RowKit

theorem Try.infoItem : (Try.prog.info? 52).map (fun i => (i.zero, i.size, i.bytes)) = some (some (.agg #[.int .i64 0, .int .i64 0]), 2, 16) := by kernel_rfl
theorem news_two {w : World} {g : Nat} {T : TypeId} {x y : Value} (h : Has w g T #[x, y]) : ∀ (j : Nat) (u : Value), [x, y][j]? = some u → w.cell? ((⟨g, 0, none⟩ : Addr).add j) = some u := by
  intro j u hu
  have e : (⟨g, 0, none⟩ : Addr).add j = ⟨g, j, none⟩ := by unfold Addr.add; split <;> simp_all
  rw [e, h.cell j]
  simpa using hu
theorem two_one (x y : Int) : ∀ u ∈ [Value.int .i64 x, Value.int .i64 y], u.oneCell' = true := by
  intro u hu
  simp only [List.mem_cons, List.not_mem_nil, or_false] at hu
  rcases hu with rfl | rfl <;> rfl
theorem own_item {w : World} {base g n cap : Nat} {E : TypeId} {D : List Item} (h : w.ownsRow base E 2 (.slice (some ⟨g, 0, none⟩) n cap) n (icells D)) (nq q : Nat) (x : Item) :
    (((w.drewN nq).setCell ⟨g, q * 2, none⟩ (.int .i64 (x.1 : Int))).setCell ⟨g, q * 2 + 1, none⟩ (.int .i64 x.2)).ownsRow base E 2 (.slice (some ⟨g, 0, none⟩) n cap) n (icells (D.set q x)) := by
  rw [icells_set]
  have h' : (w.drewN nq).ownsRow base E 2 (.slice (some ⟨g, 0, none⟩) n cap) n (icells D) := h
  exact ((h'.stored _ _).1.stored _ _).1
theorem set_split {D L : List Item} {q : Nat} (x : Item) (hq : q < D.length) (h1 : D.take q = L.take q) (h2 : D.drop (q + 1) = L.drop q) : D.set q x = L.take q ++ x :: L.drop q := by
  rw [List.set_eq_take_append_cons_drop, if_pos hq, h1, h2]
theorem move_up {D L : List Item} {p W : Nat} (hq : p + 1 < D.length) (h1 : D.take (p + 1) = L.take (p + 1)) (h2 : D.drop (p + 1 + 1) = L.drop (p + 1)) (h3 : ∀ x ∈ L.drop (p + 1), W < x.1) (hpL : p < L.length) (hW : W < (D[p]'(by omega)).1) :
    (D.set (p + 1) (D[p]'(by omega))).take p = L.take p ∧ (D.set (p + 1) (D[p]'(by omega))).drop (p + 1) = L.drop p ∧ ∀ x ∈ L.drop p, W < x.1 := by
  have e : D[p]'(by omega) = L[p] := by
    have g1 : (D.take (p + 1))[p]'(by rw [List.length_take]; omega) = D[p]'(by omega) := List.getElem_take
    have g2 : (L.take (p + 1))[p]'(by rw [List.length_take]; omega) = L[p] := List.getElem_take
    rw [← g1, ← g2]; congr 1
  have e2 : L.drop p = L[p] :: L.drop (p + 1) := (List.getElem_cons_drop (h := hpL)).symm
  refine ⟨?_, ?_, ?_⟩
  · rw [List.take_set_of_le (by omega)]
    have := congrArg (List.take p) h1
    rwa [List.take_take, List.take_take, Nat.min_eq_left (by omega)] at this
  · rw [List.set_eq_take_append_cons_drop, if_pos hq, List.drop_append_of_le_length (by rw [List.length_take]; omega), List.drop_eq_nil_of_le (by rw [List.length_take]; omega), List.nil_append, h2, e, e2]
  · rw [e2]
    intro x hx
    rcases List.mem_cons.1 hx with rfl | hx
    · rw [← e]; exact hW
    · exact h3 x hx
theorem last_most (R : List Item) (hs : Sorted (wts R)) (h : 0 < R.length) : ∀ z ∈ R, z.1 ≤ (R[R.length - 1]'(by omega)).1 := by
  intro z hz
  obtain ⟨i, hi, rfl⟩ := List.getElem_of_mem hz
  rcases Nat.lt_or_ge i (R.length - 1) with hlt | hge
  · unfold Sorted wts at hs
    rw [List.pairwise_map] at hs
    exact List.pairwise_iff_getElem.1 hs i (R.length - 1) hi (by omega) hlt
  · have : i = R.length - 1 := by omega
    subst this; exact Nat.le_refl _
theorem own_shape {w : World} {base size n : Nat} {e : TypeId} {v : Value} {xs : List Value} (h : w.ownsRow base e size v n xs) : ∃ a c, v = .slice a n c := by
  rcases h.2 with ⟨rfl, rfl⟩ | ⟨g, cap, cur, rfl, _⟩
  · exact ⟨none, 0, rfl⟩
  · exact ⟨_, cap, rfl⟩
theorem l3weight_any (x : Int) (w : World) (h0 : 0 ≤ x) (h1 : x ≤ 1000000) :
    Calls Try.prog 45 #[.int .i64 x] w fun e w' => e = .returned (.int .i64 (wgt x)) ∧ w' = w := by
  by_cases h : x = 0
  · subst h
    go_enter Try.func45, Try.ntmps45
    go_wp2
    go_ret
    exact ⟨rfl, rfl⟩
  · have hb : (x == 0) = false := by simp [h]
    have HW : Hid ((wgt x : Int) = x) := hidden (by unfold wgt; rw [if_neg h]; omega)
    clear h
    go_enter Try.func45, Try.ntmps45
    go_wp2
    go_ret
    exact ⟨ret_int HW.out.symm, rfl⟩
theorem wgt_le (x : Int) (h1 : x ≤ 1000000) : 1 ≤ wgt x ∧ wgt x ≤ 1000000 ∨ x < 0 := by
  unfold wgt
  by_cases h : x = 0
  · rw [if_pos h]; omega
  · rw [if_neg h]; omega
set_option maxHeartbeats 2000000 in
theorem l3leaves_any (a : Option Addr) (cap B : Nat) (zs : List Int) (w : World) (hz : Ints w B a zs) (hB : B ≤ w.heap.size) (hlen : zs.length ≤ 260) (hr : ∀ k, k < zs.length → 0 ≤ zs.getD k 0 ∧ zs.getD k 0 ≤ 1000000) :
    Calls Try.prog 37 #[.slice a zs.length cap] w fun e w' => ∃ v L, e = .returned v ∧ L.Perm (items zs zs.length) ∧ LexS L ∧ w'.ownsRow w.heap.size 52 2 v zs.length (icells L) ∧ Below w.heap.size w w' := by
  obtain ⟨i0, hi, hz0, hz1, hz2⟩ := info_parts Try.infoItem
  obtain ⟨n, hn⟩ : ∃ n, zs.length = n := ⟨_, rfl⟩
  have HN := hidden hn
  have HR := hidden hr
  have hzz := hidden hz
  rw [hn] at hlen ⊢
  clear hn hr hz
  go_enter Try.func37, Try.ntmps37
  go_wp2
  go_loopw [3, 4] (fun v i wr => ∃ (k : Nat) (L : List Item), k ≤ n ∧ i = .int .i64 k ∧ Hid (L.Perm (items zs k)) ∧ Hid (LexS L) ∧ Hid (L.length = k) ∧ wr.ownsRow w.heap.size 52 2 v k (icells L) ∧ Below w.heap.size w wr) (fun _ i _ => n - (intOf i).toNat)
  case atStart => exact ⟨0, [], Nat.zero_le _, rfl, hidden (List.Perm.refl _), hidden List.Pairwise.nil, hidden rfl, World.ownsRow_nil _ _ _ _, Below.refl _ _⟩
  case round =>
    obtain ⟨k, L, hk, rfl, HP, HS, HL, hown, hbl⟩ := hrel
    have hsz := hbl.size
    have hlen3 : ∀ W : World, (Builtin.len_ #[47] 3 #[u3]).run Try.prog W = .ok (.int .i64 (k : Int)) W := fun W => by
      obtain ⟨a3, c3, rfl⟩ := own_shape hown
      simp [go_sem, Builtin.len_]
    by_cases hlt : k < n
    · have hzr := hzz.out.below (hbl.mono hB)
      obtain ⟨b, off, rfl, hb, hc⟩ := hzr.2.2 (by rw [HN.out]; omega)
      have ck := hc k (by rw [HN.out]; exact hlt)
      have hxr := HR.out k (by rw [HN.out]; exact hlt)
      obtain ⟨x, hx⟩ : ∃ x, zs.getD k 0 = x := ⟨_, rfl⟩
      rw [hx] at ck hxr
      have HX := hidden hx
      obtain ⟨W, hW⟩ : ∃ W, wgt x = W := ⟨_, rfl⟩
      have hW2 : 1 ≤ W ∧ W ≤ 1000000 := by rcases wgt_le x hxr.2 with h | h <;> omega
      have HW := hidden hW
      clear hx hzr hc
      go_wp2_with fail
      refine (l3weight_any x _ hxr.1 hxr.2).mono ?_
      rintro e w' ⟨rfl, rfl⟩
      rw [hW]
      have hX := (Has.fresh w' 52 #[.int .i64 (W : Int), .int .i64 (k : Int)]).alloc (.cells #[.int .i64 (W : Int), .int .i64 (k : Int)] 52)
      go_wp2_with (at_builtin; (refine wpList_append_own_at _ rfl _ _ 47 rfl w.heap.size 52 i0 (.agg #[.int .i64 0, .int .i64 0]) 2 16 Try.underlying47 hi hz0 hz1 hz2 rfl (by decide) _ _ _ rfl ((hown.alloc _).alloc _) ⟨w'.heap.size + 1, 0, none⟩ 1 1 [.int .i64 (W : Int), .int .i64 (k : Int)] rfl rfl ?c1 ?c2 ?c3 ?c4 ?c5 ?_))
      case c1 => exact news_two (g := w'.heap.size + 1) (Has.freshAt (w := w'.alloc (.cells #[.int .i64 (W : Int), .int .i64 (k : Int)] 52)) (g := w'.heap.size + 1) (by simp) _ _)
      case c2 => exact two_one _ _
      case c3 => unfold maxLen; omega
      case c4 => omega
      case c5 => simp; omega
      intro v' w3 hown' hgrow _ hat
      have hown3 : w3.ownsRow w.heap.size 52 2 v' (k + 1) (icells (L ++ [(W, (k : Int))])) := by rw [icells_append]; exact hown'
      have hneX : u3.ownBlock ≠ some w'.heap.size := fun e => by have := (hown.lt _ e).2; omega
      have hX3 := hX.grown hgrow (fun e => hneX e.symm)
      have hbl3 : Below w.heap.size w w3 := ((hbl.alloc (by omega) _).alloc (by simp; omega) _).grown hgrow (by simp; omega) (fun b hb => (hown.lt b hb).1)
      obtain ⟨gd, cp, hv'⟩ := Joins.ownsRow_form hown3 (by omega)
      subst hv'
      have hgd := hown3.lt gd rfl
      have hgdX : gd ≠ w'.heap.size := by
        rcases hat with h | h
        · intro e; subst e; exact hneX h.symm
        · have h2 : gd = w'.heap.size + 1 + 1 := by simpa [Value.ownBlock] using h
          omega
      clear hown' hgrow hX hlen3 hown ck hbl
      go_wp2
      go_loopw [6] (fun s6 wx => ∃ (q : Nat) (D : List Item), q ≤ k ∧ s6 = .int .i64 q ∧ Hid (D.length = k + 1) ∧ Hid (D.take q = L.take q ∧ D.drop (q + 1) = L.drop q ∧ ∀ x ∈ L.drop q, W < x.1) ∧ wx.ownsRow w.heap.size 52 2 (.slice (some ⟨gd, 0, none⟩) (k + 1) cp) (k + 1) (icells D) ∧ Has wx w'.heap.size 52 #[.int .i64 (W : Int), .int .i64 (k : Int)] ∧ Below w.heap.size w wx) (fun s6 _ => (intOf s6).toNat)
      case atStart => exact ⟨k, L ++ [(W, (k : Int))], Nat.le_refl _, rfl, hidden (by simp [HL.out]), hidden ⟨by rw [← HL.out]; simp, by rw [← HL.out]; simp, by rw [← HL.out]; simp⟩, hown3, hX3, hbl3⟩
      case round =>
        obtain ⟨q, D, hq, rfl, HDl, HD, hownD, hXD, hblD⟩ := hrel
        have x0 := hXD.cell 0
        have x1 := hXD.cell 1
        simp at x0 x1
        obtain ⟨q0, hq0⟩ : ∃ y, D[q]'(by rw [HDl.out]; omega) = y := ⟨_, rfl⟩
        have d0 := hownD.cellAt (q * 2) (by omega)
        have d1 := hownD.cellAt (q * 2 + 1) (by omega)
        rw [icells_fst D q (by rw [HDl.out]; omega), hq0] at d0
        rw [icells_snd D q (by rw [HDl.out]; omega), hq0] at d1
        have f0 := hownD.frozenAt (q * 2)
        have f1 := hownD.frozenAt (q * 2 + 1)
        have HQ0 := hidden hq0
        clear hq0
        by_cases hz0 : q = 0
        · subst hz0
          go_wp2
          go_quiet (fail)
          go_wp2
          have hs := set_split (q := 0) (W, (k : Int)) (by rw [HDl.out]; omega) HD.out.1 HD.out.2.1
          have hin := leaf_in (zs := zs) (k := k) HP.out HS.out 0 (Nat.zero_le _) (by simp) (by rw [HX.out, HW.out]; exact HD.out.2.2)
          rw [HX.out, HW.out, ← hs] at hin
          refine ⟨⟨k + 1, D.set 0 (W, (k : Int)), by omega, by go_num, hidden hin.1, hidden hin.2, hidden (by rw [List.length_set, HDl.out]), ?_, ?_⟩, by simp [intOf]; omega⟩
          · simpa using own_item hownD nq 0 (W, (k : Int))
          · exact (Below.setCell (Below.setCell (bel_drewN hblD nq) hgd.1 _) hgd.1 _)
        · obtain ⟨p, rfl⟩ : ∃ p, q = p + 1 := ⟨q - 1, by omega⟩
          obtain ⟨y, hy⟩ : ∃ y, D[p]'(by rw [HDl.out]; omega) = y := ⟨_, rfl⟩
          have e0 := hownD.cellAt (p * 2) (by omega)
          have e1 := hownD.cellAt (p * 2 + 1) (by omega)
          rw [icells_fst D p (by rw [HDl.out]; omega), hy] at e0
          rw [icells_snd D p (by rw [HDl.out]; omega), hy] at e1
          have HY := hidden hy
          obtain ⟨y1, y2⟩ := y
          simp only at e0 e1
          clear hy hz0
          by_cases hgt : W < y1
          · go_wp2
            go_quiet (fail)
            go_wp2
            have hmv := move_up (W := W) (by rw [HDl.out]; omega) HD.out.1 HD.out.2.1 HD.out.2.2 (by rw [HL.out]; omega) (by rw [HY.out]; exact hgt)
            rw [HY.out] at hmv
            refine ⟨⟨p, D.set (p + 1) (y1, y2), by omega, rfl, hidden (by rw [List.length_set, HDl.out]), hidden hmv, own_item hownD nq (p + 1) (y1, y2), ?_, ?_⟩, by simp [intOf]⟩
            · exact (((hXD.drewN nq).storeAway (p := ⟨gd, (p + 1) * 2, none⟩) (fun e => hgdX e.symm) _).storeAway (p := ⟨gd, (p + 1) * 2 + 1, none⟩) (fun e => hgdX e.symm) _)
            · exact (Below.setCell (Below.setCell (bel_drewN hblD nq) hgd.1 _) hgd.1 _)
          · go_wp2
            go_quiet (fail)
            go_wp2
            have hs := set_split (q := p + 1) (W, (k : Int)) (by rw [HDl.out]; omega) HD.out.1 HD.out.2.1
            have hle : ∀ z ∈ L.take (p + 1), z.1 ≤ W := by
              rw [← HD.out.1]
              have hsrt : Sorted (wts (D.take (p + 1))) := by rw [HD.out.1, wts_take]; exact List.Pairwise.sublist (List.take_sublist _ _) HS.out.sorted
              intro z hz
              have := last_most (D.take (p + 1)) hsrt (by rw [List.length_take, HDl.out]; omega) z hz
              have e : (D.take (p + 1))[p]'(by rw [List.length_take, HDl.out]; omega) = (y1, y2) := by rw [List.getElem_take]; exact HY.out
              have hl2 : (D.take (p + 1)).length = p + 1 := by rw [List.length_take, HDl.out]; omega
              simp only [hl2, Nat.add_sub_cancel] at this
              rw [e] at this
              simp only at this
              omega
            have hin := leaf_in (zs := zs) (k := k) HP.out HS.out (p + 1) (by rw [HL.out]; omega) (by rw [HX.out, HW.out]; exact hle) (by rw [HX.out, HW.out]; exact HD.out.2.2)
            rw [HX.out, HW.out, ← hs] at hin
            refine ⟨⟨k + 1, D.set (p + 1) (W, (k : Int)), by omega, by go_num, hidden hin.1, hidden hin.2, hidden (by rw [List.length_set, HDl.out]), own_item hownD nq (p + 1) (W, (k : Int)), ?_⟩, by simp [intOf]; omega⟩
            exact (Below.setCell (Below.setCell (bel_drewN hblD nq) hgd.1 _) hgd.1 _)
    · go_wp2
      go_ret
      have e : k = n := by omega
      subst e
      exact ⟨_, L, rfl, HP.out, HS.out, hown, hbl⟩
end Go.Proofs.Ytpmiphnjnbkjlaa
