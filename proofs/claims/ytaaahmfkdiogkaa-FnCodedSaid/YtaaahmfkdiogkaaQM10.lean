/- Merged: C3Leaves, C3Next, C3Lens, C3Sum, C3Plain, Tab, DrPick, C3On, Cod, CodR, I3P. -/
import Derived.Test.YtaaahmfkdiogkaaQM5
import Derived.Test.YtaaahmfkdiogkaaQM4
import Derived.Test.YtaaahmfkdiogkaaQM6
import Derived.Test.YtaaahmfkdiogkaaQM3
import Derived.WalkLawsBesides
import Derived.Maps.AppendAt
namespace Go.Proofs.Ytaaahmfkdiogkaa
set_option linter.unusedVariables false
set_option linter.unusedSimpArgs false
open Go.RowKit

theorem Try.infoItem : (Try.prog.info? 157).map (fun i => (i.zero, i.size, i.bytes)) = some (some (.agg #[.int .i64 0, .int .i64 0]), 2, 16) := by kernel_rfl
theorem news_two {w : World} {g : Nat} {T : TypeId} {x y : Value} (h : Has w g T #[x, y]) : ∀ (j : Nat) (u : Value), [x, y][j]? = some u → w.cell? ((⟨g, 0, none⟩ : Addr).add j) = some u := by
  intro j u hu
  have e : (⟨g, 0, none⟩ : Addr).add j = ⟨g, j, none⟩ := by unfold Addr.add; split <;> simp_all
  rw [e, h.cell j]
  simpa using hu
theorem two_one (x y : Int) : ∀ u ∈ [Value.int .i64 x, Value.int .i64 y], u.oneCell' = true := by
  intro u hu
  simp only [List.mem_cons, List.not_mem_nil, or_false] at hu
  rcases hu with rfl | rfl <;> rfl
theorem own_item {w : World} {base g n cap : Nat} {E : TypeId} {D : List Item} (h : w.ownsRow base E 2 (.slice (some ⟨g, 0, none⟩) n cap) n (icells D)) (nq q : Nat) (x : Item) :
    (((w.drewN nq).setCell ⟨g, q * 2, none⟩ (.int .i64 (x.1 : Int))).setCell ⟨g, q * 2 + 1, none⟩ (.int .i64 x.2)).ownsRow base E 2 (.slice (some ⟨g, 0, none⟩) n cap) n (icells (D.set q x)) := by
  rw [icells_set]
  have h' : (w.drewN nq).ownsRow base E 2 (.slice (some ⟨g, 0, none⟩) n cap) n (icells D) := h
  exact ((h'.stored _ _).1.stored _ _).1
theorem set_split {D L : List Item} {q : Nat} (x : Item) (hq : q < D.length) (h1 : D.take q = L.take q) (h2 : D.drop (q + 1) = L.drop q) : D.set q x = L.take q ++ x :: L.drop q := by
  rw [List.set_eq_take_append_cons_drop, if_pos hq, h1, h2]
theorem move_up {D L : List Item} {p W : Nat} (hq : p + 1 < D.length) (h1 : D.take (p + 1) = L.take (p + 1)) (h2 : D.drop (p + 1 + 1) = L.drop (p + 1)) (h3 : ∀ x ∈ L.drop (p + 1), W < x.1) (hpL : p < L.length) (hW : W < (D[p]'(by omega)).1) :
    (D.set (p + 1) (D[p]'(by omega))).take p = L.take p ∧ (D.set (p + 1) (D[p]'(by omega))).drop (p + 1) = L.drop p ∧ ∀ x ∈ L.drop p, W < x.1 := by
  have e : D[p]'(by omega) = L[p] := by
    have g1 : (D.take (p + 1))[p]'(by rw [List.length_take]; omega) = D[p]'(by omega) := List.getElem_take
    have g2 : (L.take (p + 1))[p]'(by rw [List.length_take]; omega) = L[p] := List.getElem_take
    rw [← g1, ← g2]; congr 1
  have e2 : L.drop p = L[p] :: L.drop (p + 1) := (List.getElem_cons_drop (h := hpL)).symm
  refine ⟨?_, ?_, ?_⟩
  · rw [List.take_set_of_le (by omega)]
    have := congrArg (List.take p) h1
    rwa [List.take_take, List.take_take, Nat.min_eq_left (by omega)] at this
  · rw [List.set_eq_take_append_cons_drop, if_pos hq, List.drop_append_of_le_length (by rw [List.length_take]; omega), List.drop_eq_nil_of_le (by rw [List.length_take]; omega), List.nil_append, h2, e, e2]
  · rw [e2]
    intro x hx
    rcases List.mem_cons.1 hx with rfl | hx
    · rw [← e]; exact hW
    · exact h3 x hx
theorem last_most (R : List Item) (hs : Sorted (wts R)) (h : 0 < R.length) : ∀ z ∈ R, z.1 ≤ (R[R.length - 1]'(by omega)).1 := by
  intro z hz
  obtain ⟨i, hi, rfl⟩ := List.getElem_of_mem hz
  rcases Nat.lt_or_ge i (R.length - 1) with hlt | hge
  · unfold Sorted wts at hs
    rw [List.pairwise_map] at hs
    exact List.pairwise_iff_getElem.1 hs i (R.length - 1) hi (by omega) hlt
  · have : i = R.length - 1 := by omega
    subst this; exact Nat.le_refl _
theorem l3weight_any (x : Int) (w : World) (h0 : 0 ≤ x) (h1 : x ≤ 1000000) :
    Calls Try.prog 141 #[.int .i64 x] w fun e w' => e = .returned (.int .i64 (wgt x)) ∧ w' = w := by
  by_cases h : x = 0
  · subst h
    go_enter Try.func141, Try.ntmps141
    go_wp2
    go_ret
    exact ⟨rfl, rfl⟩
  · have hb : (x == 0) = false := by simp [h]
    have HW : Hid ((wgt x : Int) = x) := hidden (by unfold wgt; rw [if_neg h]; omega)
    clear h
    go_enter Try.func141, Try.ntmps141
    go_wp2
    go_ret
    exact ⟨ret_int HW.out.symm, rfl⟩
theorem wgt_le (x : Int) (h1 : x ≤ 1000000) : 1 ≤ wgt x ∧ wgt x ≤ 1000000 ∨ x < 0 := by
  unfold wgt
  by_cases h : x = 0
  · rw [if_pos h]; omega
  · rw [if_neg h]; omega
set_option maxHeartbeats 2000000 in
set_option maxRecDepth 100000 in
theorem l3leaves_any (a : Option Addr) (cap B : Nat) (zs : List Int) (w : World) (hz : Ints w B a zs) (hB : B ≤ w.heap.size) (hlen : zs.length ≤ 260) (hr : ∀ k, k < zs.length → 0 ≤ zs.getD k 0 ∧ zs.getD k 0 ≤ 1000000) :
    Calls Try.prog 123 #[.slice a zs.length cap] w fun e w' => ∃ v L, e = .returned v ∧ L.Perm (items zs zs.length) ∧ LexS L ∧ w'.ownsRow w.heap.size 157 2 v zs.length (icells L) ∧ Below w.heap.size w w' := by
  obtain ⟨i0, hi, hz0, hz1, hz2⟩ := info_parts Try.infoItem
  obtain ⟨n, hn⟩ : ∃ n, zs.length = n := ⟨_, rfl⟩
  have HN := hidden hn
  have HR := hidden hr
  have hzz := hidden hz
  rw [hn] at hlen ⊢
  clear hn hr hz
  go_enter Try.func123, Try.ntmps123
  go_wp2
  go_loopw [3, 4] (fun v i wr => ∃ (k : Nat) (L : List Item), k ≤ n ∧ i = .int .i64 k ∧ Hid (L.Perm (items zs k)) ∧ Hid (LexS L) ∧ Hid (L.length = k) ∧ wr.ownsRow w.heap.size 157 2 v k (icells L) ∧ Below w.heap.size w wr) (fun _ i _ => n - (intOf i).toNat)
  case atStart => exact ⟨0, [], Nat.zero_le _, rfl, hidden (List.Perm.refl _), hidden List.Pairwise.nil, hidden rfl, World.ownsRow_nil _ _ _ _, Below.refl _ _⟩
  case round =>
    obtain ⟨k, L, hk, rfl, HP, HS, HL, hown, hbl⟩ := hrel
    have hsz := hbl.size
    have hlen3 : ∀ W : World, (Builtin.len_ #[152] 3 #[u3]).run Try.prog W = .ok (.int .i64 (k : Int)) W := fun W => by
      obtain ⟨a3, c3, rfl⟩ := own_shape hown
      simp [go_sem, Builtin.len_]
    by_cases hlt : k < n
    · have hzr := hzz.out.below (hbl.mono hB)
      obtain ⟨b, off, rfl, hb, hc⟩ := hzr.2.2 (by rw [HN.out]; omega)
      have ck := hc k (by rw [HN.out]; exact hlt)
      have hxr := HR.out k (by rw [HN.out]; exact hlt)
      obtain ⟨x, hx⟩ : ∃ x, zs.getD k 0 = x := ⟨_, rfl⟩
      rw [hx] at ck hxr
      have HX := hidden hx
      obtain ⟨W, hW⟩ : ∃ W, wgt x = W := ⟨_, rfl⟩
      have hW2 : 1 ≤ W ∧ W ≤ 1000000 := by rcases wgt_le x hxr.2 with h | h <;> omega
      have HW := hidden hW
      clear hx hzr hc
      go_wp2_with fail
      refine (l3weight_any x _ hxr.1 hxr.2).mono ?_
      rintro e w' ⟨rfl, rfl⟩
      rw [hW]
      have hX := (Has.fresh w' 157 #[.int .i64 (W : Int), .int .i64 (k : Int)]).alloc (.cells #[.int .i64 (W : Int), .int .i64 (k : Int)] 157)
      go_wp2_with (at_builtin; (refine wpList_append_own_at _ rfl _ _ 152 rfl w.heap.size 157 i0 (.agg #[.int .i64 0, .int .i64 0]) 2 16 Try.underlying152 hi hz0 hz1 hz2 rfl (by decide) _ _ _ rfl ((hown.alloc _).alloc _) ⟨w'.heap.size + 1, 0, none⟩ 1 1 [.int .i64 (W : Int), .int .i64 (k : Int)] rfl rfl ?c1 ?c2 ?c3 ?c4 ?c5 ?_))
      case c1 => exact news_two (g := w'.heap.size + 1) (Has.freshAt (w := w'.alloc (.cells #[.int .i64 (W : Int), .int .i64 (k : Int)] 157)) (g := w'.heap.size + 1) (by simp) _ _)
      case c2 => exact two_one _ _
      case c3 => unfold maxLen; omega
      case c4 => omega
      case c5 => simp; omega
      intro v' w3 hown' hgrow _ hat
      have hown3 : w3.ownsRow w.heap.size 157 2 v' (k + 1) (icells (L ++ [(W, (k : Int))])) := by rw [icells_append]; exact hown'
      have hneX : u3.ownBlock ≠ some w'.heap.size := fun e => by have := (hown.lt _ e).2; omega
      have hX3 := hX.grown hgrow (fun e => hneX e.symm)
      have hbl3 : Below w.heap.size w w3 := ((hbl.alloc (by omega) _).alloc (by simp; omega) _).grown hgrow (by simp; omega) (fun b hb => (hown.lt b hb).1)
      obtain ⟨gd, cp, hv'⟩ := Joins.ownsRow_form hown3 (by omega)
      subst hv'
      have hgd := hown3.lt gd rfl
      have hgdX : gd ≠ w'.heap.size := by
        rcases hat with h | h
        · intro e; subst e; exact hneX h.symm
        · have h2 : gd = w'.heap.size + 1 + 1 := by simpa [Value.ownBlock] using h
          omega
      clear hown' hgrow hX hlen3 hown ck hbl
      go_wp2
      go_loopw [6] (fun s6 wx => ∃ (q : Nat) (D : List Item), q ≤ k ∧ s6 = .int .i64 q ∧ Hid (D.length = k + 1) ∧ Hid (D.take q = L.take q ∧ D.drop (q + 1) = L.drop q ∧ ∀ x ∈ L.drop q, W < x.1) ∧ wx.ownsRow w.heap.size 157 2 (.slice (some ⟨gd, 0, none⟩) (k + 1) cp) (k + 1) (icells D) ∧ Has wx w'.heap.size 157 #[.int .i64 (W : Int), .int .i64 (k : Int)] ∧ Below w.heap.size w wx) (fun s6 _ => (intOf s6).toNat)
      case atStart => exact ⟨k, L ++ [(W, (k : Int))], Nat.le_refl _, rfl, hidden (by simp [HL.out]), hidden ⟨by rw [← HL.out]; simp, by rw [← HL.out]; simp, by rw [← HL.out]; simp⟩, hown3, hX3, hbl3⟩
      case round =>
        obtain ⟨q, D, hq, rfl, HDl, HD, hownD, hXD, hblD⟩ := hrel
        have x0 := hXD.cell 0
        have x1 := hXD.cell 1
        simp at x0 x1
        obtain ⟨q0, hq0⟩ : ∃ y, D[q]'(by rw [HDl.out]; omega) = y := ⟨_, rfl⟩
        have d0 := hownD.cellAt (q * 2) (by omega)
        have d1 := hownD.cellAt (q * 2 + 1) (by omega)
        rw [icells_fst D q (by rw [HDl.out]; omega), hq0] at d0
        rw [icells_snd D q (by rw [HDl.out]; omega), hq0] at d1
        have f0 := hownD.frozenAt (q * 2)
        have f1 := hownD.frozenAt (q * 2 + 1)
        have HQ0 := hidden hq0
        clear hq0
        by_cases hz0 : q = 0
        · subst hz0
          go_wp2
          go_quiet (fail)
          go_wp2
          have hs := set_split (q := 0) (W, (k : Int)) (by rw [HDl.out]; omega) HD.out.1 HD.out.2.1
          have hin := leaf_in (zs := zs) (k := k) HP.out HS.out 0 (Nat.zero_le _) (by simp) (by rw [HX.out, HW.out]; exact HD.out.2.2)
          rw [HX.out, HW.out, ← hs] at hin
          refine ⟨⟨k + 1, D.set 0 (W, (k : Int)), by omega, by go_num, hidden hin.1, hidden hin.2, hidden (by rw [List.length_set, HDl.out]), ?_, ?_⟩, by simp [intOf]; omega⟩
          · simpa using own_item hownD nq 0 (W, (k : Int))
          · exact (Below.setCell (Below.setCell (bel_drewN hblD nq) hgd.1 _) hgd.1 _)
        · obtain ⟨p, rfl⟩ : ∃ p, q = p + 1 := ⟨q - 1, by omega⟩
          obtain ⟨y, hy⟩ : ∃ y, D[p]'(by rw [HDl.out]; omega) = y := ⟨_, rfl⟩
          have e0 := hownD.cellAt (p * 2) (by omega)
          have e1 := hownD.cellAt (p * 2 + 1) (by omega)
          rw [icells_fst D p (by rw [HDl.out]; omega), hy] at e0
          rw [icells_snd D p (by rw [HDl.out]; omega), hy] at e1
          have HY := hidden hy
          obtain ⟨y1, y2⟩ := y
          simp only at e0 e1
          clear hy hz0
          by_cases hgt : W < y1
          · go_wp2
            go_quiet (fail)
            go_wp2
            have hmv := move_up (W := W) (by rw [HDl.out]; omega) HD.out.1 HD.out.2.1 HD.out.2.2 (by rw [HL.out]; omega) (by rw [HY.out]; exact hgt)
            rw [HY.out] at hmv
            refine ⟨⟨p, D.set (p + 1) (y1, y2), by omega, rfl, hidden (by rw [List.length_set, HDl.out]), hidden hmv, own_item hownD nq (p + 1) (y1, y2), ?_, ?_⟩, by simp [intOf]⟩
            · exact (((hXD.drewN nq).storeAway (p := ⟨gd, (p + 1) * 2, none⟩) (fun e => hgdX e.symm) _).storeAway (p := ⟨gd, (p + 1) * 2 + 1, none⟩) (fun e => hgdX e.symm) _)
            · exact (Below.setCell (Below.setCell (bel_drewN hblD nq) hgd.1 _) hgd.1 _)
          · go_wp2
            go_quiet (fail)
            go_wp2
            have hs := set_split (q := p + 1) (W, (k : Int)) (by rw [HDl.out]; omega) HD.out.1 HD.out.2.1
            have hle : ∀ z ∈ L.take (p + 1), z.1 ≤ W := by
              rw [← HD.out.1]
              have hsrt : Sorted (wts (D.take (p + 1))) := by rw [HD.out.1, wts_take]; exact List.Pairwise.sublist (List.take_sublist _ _) HS.out.sorted
              intro z hz
              have := last_most (D.take (p + 1)) hsrt (by rw [List.length_take, HDl.out]; omega) z hz
              have e : (D.take (p + 1))[p]'(by rw [List.length_take, HDl.out]; omega) = (y1, y2) := by rw [List.getElem_take]; exact HY.out
              have hl2 : (D.take (p + 1)).length = p + 1 := by rw [List.length_take, HDl.out]; omega
              simp only [hl2, Nat.add_sub_cancel] at this
              rw [e] at this
              simp only at this
              omega
            have hin := leaf_in (zs := zs) (k := k) HP.out HS.out (p + 1) (by rw [HL.out]; omega) (by rw [HX.out, HW.out]; exact hle) (by rw [HX.out, HW.out]; exact HD.out.2.2)
            rw [HX.out, HW.out, ← hs] at hin
            refine ⟨⟨k + 1, D.set (p + 1) (W, (k : Int)), by omega, by go_num, hidden hin.1, hidden hin.2, hidden (by rw [List.length_set, HDl.out]), own_item hownD nq (p + 1) (W, (k : Int)), ?_⟩, by simp [intOf]; omega⟩
            exact (Below.setCell (Below.setCell (bel_drewN hblD nq) hgd.1 _) hgd.1 _)
    · go_wp2
      go_ret
      have e : k = n := by omega
      subst e
      exact ⟨_, L, rfl, HP.out, HS.out, hown, hbl⟩
end Go.Proofs.Ytaaahmfkdiogkaa
namespace Go.Proofs.Ytaaahmfkdiogkaa
set_option linter.unusedVariables false
set_option linter.unusedSimpArgs false
open Go.RowKit

theorem packs_get (R : List Item) (p : Nat) (h : 2 * p + 1 < R.length) : (packs R).drop p = (R[2 * p].1 + R[2 * p + 1].1) :: (packs R).drop (p + 1) := by
  induction R using packs.induct generalizing p with
  | case1 a b r ih =>
    cases p with
    | zero => simp [packs]
    | succ p =>
      have := ih p (by simp only [List.length_cons] at h; omega)
      simp only [packs, List.drop_succ_cons]
      rw [this]
      have e1 : (a :: b :: r)[2 * (p + 1)] = r[2 * p]'(by simp only [List.length_cons] at h; omega) := by
        simp only [show 2 * (p + 1) = 2 * p + 1 + 1 by omega, List.getElem_cons_succ]
      have e2 : (a :: b :: r)[2 * (p + 1) + 1] = r[2 * p + 1]'(by simp only [List.length_cons] at h; omega) := by
        simp only [show 2 * (p + 1) + 1 = 2 * p + 1 + 1 + 1 by omega, List.getElem_cons_succ]
      rw [e1, e2]
  | case2 r h2 => cases r with
    | nil => simp at h
    | cons a r => cases r with
      | nil => simp at h
      | cons b r => exact absurd rfl (h2 a b r)
theorem packs_end (R : List Item) (p : Nat) (h : R.length ≤ 2 * p + 1) : (packs R).drop p = [] := List.drop_eq_nil_of_le (by rw [packs_len]; omega)
theorem merge_leaf (L : List Item) (k p0 : Nat) (P : List Nat) (hk : k < L.length) (h : L[k].1 ≤ p0) : mergeM (L.drop k) (p0 :: P) = L[k] :: mergeM (L.drop (k + 1)) (p0 :: P) := by
  rw [← List.getElem_cons_drop (h := hk), mergeM, if_pos h]
theorem merge_pack (L : List Item) (k p0 : Nat) (P : List Nat) (h : ∀ hk : k < L.length, p0 < L[k].1) : mergeM (L.drop k) (p0 :: P) = (p0, -1) :: mergeM (L.drop k) P := by
  rcases Nat.lt_or_ge k L.length with hk | hk
  · rw [← List.getElem_cons_drop (h := hk), mergeM, if_neg (by have := h hk; omega)]
  · rw [List.drop_eq_nil_of_le hk, mergeM]
theorem merge_end (L : List Item) : mergeM L [] = L := by cases L <;> rw [mergeM]

theorem icells_drop (L : List Item) (k : Nat) : icells (L.drop k) = (icells L).drop (k * 2) := by
  induction k generalizing L with
  | zero => rfl
  | succ k ih => cases L with
    | nil => simp [icells]
    | cons x L => rw [show (k + 1) * 2 = k * 2 + 1 + 1 by omega]; simp only [List.drop_succ_cons, icells]; exact ih L
theorem news_from {w : World} {base g n c : Nat} {E : TypeId} {L : List Item} (h : w.ownsRow base E 2 (.slice (some ⟨g, 0, none⟩) n c) n (icells L)) (k : Nat) : ∀ (j : Nat) (u : Value), (icells (L.drop k))[j]? = some u → w.cell? ((⟨g, k * 2, none⟩ : Addr).add j) = some u := by
  intro j u hu
  have e : (⟨g, k * 2, none⟩ : Addr).add j = ⟨g, k * 2 + j, none⟩ := by unfold Addr.add; split <;> simp_all
  rw [icells_drop, List.getElem?_drop] at hu
  have hl := h.1
  have hj : k * 2 + j < n * 2 := by
    rw [← hl]; exact (List.getElem?_eq_some_iff.1 hu).1
  rw [e, h.cellAt _ hj, hu]
set_option maxHeartbeats 4000000 in
set_option maxRecDepth 100000 in
theorem l3next_any (v1 v2 : Value) (base n r : Nat) (L R : List Item) (w : World) (hn : L.length = n) (hr : R.length = r) (h1 : w.ownsRow base 157 2 v1 n (icells L)) (h2 : w.ownsRow base 157 2 v2 r (icells R))
    (hn0 : 0 < n) (hr0 : 0 < r) (hn2 : n ≤ 260) (hr2 : r ≤ 520) (hw : ∀ x ∈ R, x.1 ≤ 1099511627776) (hwL : ∀ x ∈ L, x.1 ≤ 1099511627776) :
    Calls Try.prog 124 #[v1, v2] w fun e w' => ∃ v, e = .returned v ∧ w'.ownsRow w.heap.size 157 2 v (n + r / 2) (icells (mergeM L (packs R))) ∧ Below w.heap.size w w' := by
  obtain ⟨i0, hi, hz0, hz1, hz2⟩ := info_parts Try.infoItem
  obtain ⟨g1, c1, hv1⟩ := Joins.ownsRow_form h1 hn0
  obtain ⟨g2, c2, hv2⟩ := Joins.ownsRow_form h2 hr0
  subst hv1 hv2
  have H1 := hidden h1
  have H2 := hidden h2
  have hg1 := (h1.lt g1 rfl).2
  have hc1 : n ≤ c1 := by
    rcases h1.2 with ⟨h, _⟩ | ⟨g, cap, cur, h, _, _, h5, _⟩
    · cases h
    · simp only [Value.slice.injEq] at h; omega
  have HNL := hidden hn
  have HRL := hidden hr
  have HW := hidden hw
  have HWL := hidden hwL
  clear hn hr hw hwL h1 h2
  go_enter Try.func124, Try.ntmps124
  go_wp2
  go_loopw [5, 6, 7] (fun vo sk si wr => ∃ (p k : Nat) (O : List Item), 2 * p ≤ r ∧ k ≤ n ∧ si = .int .i64 (2 * (p : Int)) ∧ sk = .int .i64 k ∧ Hid (O ++ mergeM (L.drop k) ((packs R).drop p) = mergeM L (packs R)) ∧ Hid (O.length = k + p) ∧ wr.ownsRow w.heap.size 157 2 vo (k + p) (icells O) ∧ Below w.heap.size w wr) (fun _ _ si _ => r - (intOf si).toNat)
  case atStart => exact ⟨0, 0, [], by omega, by omega, rfl, rfl, hidden (by simp), hidden rfl, World.ownsRow_nil _ _ _ _, Below.refl _ _⟩
  case round =>
    obtain ⟨p, k, O, hp, hk, rfl, rfl, HO, HOl, hown, hbl⟩ := hrel
    have hsz := hbl.size
    have hR := own_bel H2.out hbl
    have hL := own_bel H1.out hbl
    by_cases hlt : 2 * p + 1 < r
    · obtain ⟨x, hx⟩ : ∃ x, R[2 * p]'(by rw [HRL.out]; omega) = x := ⟨_, rfl⟩
      obtain ⟨y, hy⟩ : ∃ y, R[2 * p + 1]'(by rw [HRL.out]; omega) = y := ⟨_, rfl⟩
      have c0 := hR.cellAt (2 * p * 2) (by omega)
      have c1' := hR.cellAt ((2 * p + 1) * 2) (by omega)
      rw [icells_fst R (2 * p) (by rw [HRL.out]; omega), hx] at c0
      rw [icells_fst R (2 * p + 1) (by rw [HRL.out]; omega), hy] at c1'
      have hxm := HW.out x (by rw [← hx]; exact List.getElem_mem _)
      have hym := HW.out y (by rw [← hy]; exact List.getElem_mem _)
      have HP : Hid ((packs R).drop p = (x.1 + y.1) :: (packs R).drop (p + 1)) := hidden (by rw [packs_get R p (by rw [HRL.out]; exact hlt), hx, hy])
      obtain ⟨x1, x2⟩ := x
      obtain ⟨y1, y2⟩ := y
      simp only at c0 c1' hxm hym HP
      clear hx hy
      have hltI : 2 * (p : Int) + 1 < (r : Int) := by omega
      go_wp2
      go_quiet (fail)
      go_wp2
      have hbl2 := bel_drewN hbl nq
      have hown2 : (wr.drewN nq).ownsRow w.heap.size 157 2 u5 (k + p) (icells O) := hown
      rw [HP.out] at HO
      obtain ⟨p0, hp0⟩ : ∃ p0 : Nat, x1 + y1 = p0 := ⟨_, rfl⟩
      have hp0I : (x1 : Int) + (y1 : Int) = (p0 : Int) := by omega
      rw [hp0] at HO
      rw [hp0I]
      have hp0b : p0 ≤ 2199023255552 := by omega
      clear hR hL c0 c1' hown hbl hp0 hp0I HP hxm hym
      generalize wr.drewN nq = ws at hbl2 hown2 ⊢
      go_loopw [5, 6] (fun vo sk wx => ∃ (k' : Nat) (O' : List Item), k ≤ k' ∧ k' ≤ n ∧ sk = .int .i64 k' ∧ Hid (O' ++ mergeM (L.drop k') (p0 :: (packs R).drop (p + 1)) = mergeM L (packs R)) ∧ Hid (O'.length = k' + p) ∧ wx.ownsRow w.heap.size 157 2 vo (k' + p) (icells O') ∧ Below w.heap.size w wx) (fun _ sk _ => n - (intOf sk).toNat)
      case atStart => exact ⟨k, O, Nat.le_refl _, hk, rfl, HO, HOl, hown2, hbl2⟩
      case round =>
        obtain ⟨k', O', hkk, hk', rfl, HO', HOl', hown', hbl'⟩ := hrel
        have hL := own_bel H1.out hbl'
        have hsz' := hbl'.size
        by_cases hin : k' < n
        · obtain ⟨z, hz⟩ : ∃ z, L[k']'(by rw [HNL.out]; exact hin) = z := ⟨_, rfl⟩
          have a0 := hL.cellAt (k' * 2) (by omega)
          have a1 := hL.cellAt (k' * 2 + 1) (by omega)
          rw [icells_fst L k' (by rw [HNL.out]; exact hin), hz] at a0
          rw [icells_snd L k' (by rw [HNL.out]; exact hin), hz] at a1
          have HZ := hidden hz
          obtain ⟨z1, z2⟩ := z
          simp only at a0 a1
          clear hz
          by_cases hle : z1 ≤ p0
          · have HM : Hid ((O' ++ [(z1, z2)]) ++ mergeM (L.drop (k' + 1)) (p0 :: (packs R).drop (p + 1)) = mergeM L (packs R)) := hidden (by
              rw [← HO'.out, merge_leaf L k' p0 _ (by rw [HNL.out]; exact hin) (by rw [HZ.out]; exact hle), HZ.out, List.append_assoc]; rfl)
            go_wp2_with (at_builtin; refine wpList_append_own_at _ rfl _ _ 152 rfl w.heap.size 157 i0 (.agg #[.int .i64 0, .int .i64 0]) 2 16 Try.underlying152 hi hz0 hz1 hz2 rfl (by decide) _ _ _ rfl (hown'.alloc _) ⟨wr.heap.size, 0, none⟩ 1 _ [.int .i64 (z1 : Int), .int .i64 z2] rfl ?da1 ?da2 ?da3 ?da4 ?da5 ?da6 ?_)
            case da1 => exact rfl
            case da2 => exact news_two (g := wr.heap.size) (Has.fresh wr _ _)
            case da3 => exact two_one _ _
            case da4 => unfold maxLen; omega
            case da5 => omega
            case da6 => simp; omega
            intro v3 w3 hown3 hgrow _ _
            have hownN : w3.ownsRow w.heap.size 157 2 v3 (k' + p + 1) (icells (O' ++ [(z1, z2)])) := by rw [icells_append]; exact hown3
            have hblN : Below w.heap.size w w3 := (hbl'.alloc (by omega) _).grown hgrow (by simp; omega) (fun b hb => (hown'.lt b hb).1)
            clear hown3 hgrow hL hown' hbl'
            go_wp2
            go_roundw
            case rel => exact ⟨k' + 1, O' ++ [(z1, z2)], by omega, by omega, by go_num, HM, hidden (by rw [List.length_append, HOl'.out]; simp; omega), by rw [show k' + 1 + p = k' + p + 1 by omega]; exact hownN, hblN⟩
            case measure => simp [intOf]; omega
          · have HM : Hid ((O' ++ [(p0, -1)]) ++ mergeM (L.drop k') ((packs R).drop (p + 1)) = mergeM L (packs R)) := hidden (by
              rw [← HO'.out, merge_pack L k' p0 _ (fun hk2 => by rw [HZ.out]; show p0 < z1; omega), List.append_assoc]; rfl)
            go_wp2_with (at_builtin; refine wpList_append_own_at _ rfl _ _ 152 rfl w.heap.size 157 i0 (.agg #[.int .i64 0, .int .i64 0]) 2 16 Try.underlying152 hi hz0 hz1 hz2 rfl (by decide) _ _ _ rfl (hown'.alloc _) ⟨wr.heap.size, 0, none⟩ 1 _ [.int .i64 (p0 : Int), .int .i64 (-1)] rfl ?db1 ?db2 ?db3 ?db4 ?db5 ?db6 ?_)
            case db1 => exact rfl
            case db2 => exact news_two (g := wr.heap.size) (Has.fresh wr _ _)
            case db3 => exact two_one _ _
            case db4 => unfold maxLen; omega
            case db5 => omega
            case db6 => simp; omega
            intro v3 w3 hown3 hgrow _ _
            have hownN : w3.ownsRow w.heap.size 157 2 v3 (k' + p + 1) (icells (O' ++ [(p0, -1)])) := by rw [icells_append]; exact hown3
            have hblN : Below w.heap.size w w3 := (hbl'.alloc (by omega) _).grown hgrow (by simp; omega) (fun b hb => (hown'.lt b hb).1)
            clear hown3 hgrow hL hown' hbl'
            go_wp2
            exact ⟨⟨p + 1, k', O' ++ [(p0, -1)], by omega, hk', by go_num, rfl, HM, hidden (by rw [List.length_append, HOl'.out]; simp; omega), by rw [show k' + (p + 1) = k' + p + 1 by omega]; exact hownN, hblN⟩, by simp [intOf]; omega⟩
        · have HM : Hid ((O' ++ [(p0, -1)]) ++ mergeM (L.drop k') ((packs R).drop (p + 1)) = mergeM L (packs R)) := hidden (by
            rw [← HO'.out, merge_pack L k' p0 _ (fun hk2 => by rw [HNL.out] at hk2; exact absurd hk2 hin), List.append_assoc]; rfl)
          go_wp2_with (at_builtin; refine wpList_append_own_at _ rfl _ _ 152 rfl w.heap.size 157 i0 (.agg #[.int .i64 0, .int .i64 0]) 2 16 Try.underlying152 hi hz0 hz1 hz2 rfl (by decide) _ _ _ rfl (hown'.alloc _) ⟨wr.heap.size, 0, none⟩ 1 _ [.int .i64 (p0 : Int), .int .i64 (-1)] rfl ?dc1 ?dc2 ?dc3 ?dc4 ?dc5 ?dc6 ?_)
          case dc1 => exact rfl
          case dc2 => exact news_two (g := wr.heap.size) (Has.fresh wr _ _)
          case dc3 => exact two_one _ _
          case dc4 => unfold maxLen; omega
          case dc5 => omega
          case dc6 => simp; omega
          intro v3 w3 hown3 hgrow _ _
          have hownN : w3.ownsRow w.heap.size 157 2 v3 (k' + p + 1) (icells (O' ++ [(p0, -1)])) := by rw [icells_append]; exact hown3
          have hblN : Below w.heap.size w w3 := (hbl'.alloc (by omega) _).grown hgrow (by simp; omega) (fun b hb => (hown'.lt b hb).1)
          clear hown3 hgrow hL hown' hbl'
          go_wp2
          exact ⟨⟨p + 1, k', O' ++ [(p0, -1)], by omega, hk', by go_num, rfl, HM, hidden (by rw [List.length_append, HOl'.out]; simp; omega), by rw [show k' + (p + 1) = k' + p + 1 by omega]; exact hownN, hblN⟩, by simp [intOf]; omega⟩
    · have hend := packs_end R p (by rw [HRL.out]; omega)
      rw [hend, merge_end] at HO
      have hc := icells_len (L.drop k)
      rw [List.length_drop, HNL.out] at hc
      by_cases hkc : k < c1
      · go_wp2_with (at_builtin; refine wpList_append_own_at _ rfl _ _ 152 rfl w.heap.size 157 i0 (.agg #[.int .i64 0, .int .i64 0]) 2 16 Try.underlying152 hi hz0 hz1 hz2 rfl (by decide) _ _ _ rfl hown ⟨g1, k * 2, none⟩ (n - k) _ (icells (L.drop k)) rfl ?dd1 ?dd2 ?dd3 ?dd4 ?dd5 ?dd6 ?_)
        case dd1 => exact hc
        case dd2 => exact news_from hL k
        case dd3 => exact icells_cell1 _
        case dd4 => unfold maxLen; omega
        case dd5 => omega
        case dd6 => omega
        intro v3 w3 hown3 hgrow _ _
        have hownN : w3.ownsRow w.heap.size 157 2 v3 (n + r / 2) (icells (mergeM L (packs R))) := by rw [← HO.out, icells_append, show n + r / 2 = k + p + (n - k) by omega]; exact hown3
        have hblN : Below w.heap.size w w3 := hbl.grown hgrow (by omega) (fun b hb => (hown.lt b hb).1)
        clear hown3 hgrow hL hR hown hbl
        go_wp2
        go_ret
        exact ⟨_, rfl, hownN, hblN⟩
      · have hkc' : k = c1 := by omega
        subst hkc'
        obtain rfl : n = k := by omega
        rw [Nat.sub_self] at hc
        go_wp2_with (at_builtin; (refine wpList_append_own_at _ rfl _ _ 152 rfl w.heap.size 157 i0 (.agg #[.int .i64 0, .int .i64 0]) 2 16 Try.underlying152 hi hz0 hz1 hz2 rfl (by decide) _ _ _ rfl hown ⟨g1, 0, none⟩ 0 _ (icells (L.drop n)) rfl ?de1 ?de2 ?de3 ?de4 ?de5 ?de6 ?_))
        case de1 => exact hc
        case de2 => intro j u hu; rw [List.drop_eq_nil_of_le (by rw [HNL.out]; exact hc1)] at hu; simp [icells] at hu
        case de3 => exact icells_cell1 _
        case de4 => unfold maxLen; omega
        case de5 => omega
        case de6 => omega
        intro v3 w3 hown3 hgrow _ _
        have hownN : w3.ownsRow w.heap.size 157 2 v3 (n + r / 2) (icells (mergeM L (packs R))) := by rw [← HO.out, icells_append, show n + r / 2 = n + p + 0 by omega]; exact hown3
        have hblN : Below w.heap.size w w3 := hbl.grown hgrow (by omega) (fun b hb => (hown.lt b hb).1)
        clear hown3 hgrow hL hR hown hbl
        go_wp2
        go_ret
        exact ⟨_, rfl, hownN, hblN⟩
end Go.Proofs.Ytaaahmfkdiogkaa
namespace Go.Proofs.Ytaaahmfkdiogkaa
set_option linter.unusedVariables false
set_option linter.unusedSimpArgs false
open Go.RowKit

/-! ### what the descent counts, by symbols -/
/-- The place of a symbol among the leaves. -/
def pos (L : List Item) (s : Nat) : Nat := (L.map Prod.snd).idxOf (s : Int)
theorem leaf_syms {zs : List Int} {n : Nat} {L : List Item} (hp : L.Perm (items zs n)) : (L.map Prod.snd).Perm ((List.range n).map fun (i : Nat) => (i : Int)) := by
  have := hp.map Prod.snd
  simpa [items, Function.comp_def] using this
theorem leaf_nodup {zs : List Int} {n : Nat} {L : List Item} (hp : L.Perm (items zs n)) : (L.map Prod.snd).Nodup := by
  refine (leaf_syms hp).symm.nodup ?_
  rw [List.Nodup, List.pairwise_map]
  exact List.nodup_range.imp fun {a b} h e => h (by omega)
theorem pos_lt {zs : List Int} {n : Nat} {L : List Item} (hp : L.Perm (items zs n)) (s : Nat) (hs : s < n) : pos L s < L.length := by
  have hm : (s : Int) ∈ L.map Prod.snd := (leaf_syms hp).mem_iff.2 (List.mem_map.2 ⟨s, List.mem_range.2 hs, rfl⟩)
  have := List.idxOf_lt_length_of_mem hm
  simpa [pos] using this
theorem pos_get {zs : List Int} {n : Nat} {L : List Item} (hp : L.Perm (items zs n)) (s : Nat) (hs : s < n) : (L[pos L s]'(pos_lt hp s hs)).2 = s := by
  have hm : (s : Int) ∈ L.map Prod.snd := (leaf_syms hp).mem_iff.2 (List.mem_map.2 ⟨s, List.mem_range.2 hs, rfl⟩)
  have h := List.getElem_idxOf (List.idxOf_lt_length_of_mem hm)
  rw [List.getElem_map] at h
  exact h
theorem pos_of {zs : List Int} {n : Nat} {L : List Item} (hp : L.Perm (items zs n)) (j : Nat) (hj : j < L.length) (s : Nat) (hs : (L[j]).2 = s) : pos L s = j := by
  unfold pos
  have h : (L.map Prod.snd)[j]'(by simpa using hj) = (s : Int) := by simpa using hs
  rw [← h]
  exact List.Nodup.idxOf_getElem (leaf_nodup hp) j (by simpa using hj)
theorem leaf_isLeaf {zs : List Int} {n : Nat} {L : List Item} (hp : L.Perm (items zs n)) : ∀ x ∈ L, isLeaf x = true := by
  intro x hx
  have := items_sym zs n x (hp.mem_iff.1 hx)
  simp [isLeaf, this.1]
theorem cntL_succ (r : List Item) (i : Nat) (hi : i < r.length) : cntL r (i + 1) = cntL r i + if isLeaf r[i] = true then 1 else 0 := by
  unfold cntL
  rw [List.take_succ_eq_append_getElem hi, List.countP_append]
  simp [List.countP_cons]
/-- The leaf at place i of a row is the next one. -/
theorem row_leaf (L : List Item) (hL : ∀ x ∈ L, isLeaf x = true) (k i : Nat) (hi : i < (rowM L k).length) (h : isLeaf (rowM L k)[i] = true) :
    ∃ hc : cntL (rowM L k) i < L.length, (rowM L k)[i] = L[cntL (rowM L k) i] := by
  have h1 := rowM_filter L hL k (i + 1) hi
  have h0 := rowM_filter L hL k i (by omega)
  have hc := cntL_succ (rowM L k) i hi
  rw [if_pos h] at hc
  have hlt : cntL (rowM L k) i < L.length := by omega
  refine ⟨hlt, ?_⟩
  have e := h1.2
  rw [List.take_succ_eq_append_getElem hi, List.filter_append, h0.2, hc, List.take_succ_eq_append_getElem hlt] at e
  have e2 := List.append_cancel_left e
  simpa [h] using e2
theorem row_items (L : List Item) (k : Nat) : ∀ x ∈ rowM L k, x.2 = -1 ∨ x ∈ L := by
  have key : ∀ (L : List Item) (P : List Nat), ∀ x ∈ mergeM L P, x.2 = -1 ∨ x ∈ L := by
    intro L P
    induction L, P using mergeM.induct with
    | case1 L => intro x hx; rw [mergeM] at hx; exact .inr hx
    | case2 p P ih => intro x hx; rw [mergeM] at hx; rcases List.mem_cons.1 hx with rfl | hx
                      · exact .inl rfl
                      · exact ih x hx
    | case3 y L p P h ih => intro x hx; rw [mergeM, if_pos h] at hx; rcases List.mem_cons.1 hx with rfl | hx
                            · exact .inr (by simp)
                            · rcases ih x hx with h | h
                              · exact .inl h
                              · exact .inr (by simp [h])
    | case4 y L p P h ih => intro x hx; rw [mergeM, if_neg h] at hx; rcases List.mem_cons.1 hx with rfl | hx
                            · exact .inl rfl
                            · exact ih x hx
  cases k with
  | zero => intro x hx; exact .inr hx
  | succ k => exact key L _
/-- No row's weights grow beyond their bound. -/
theorem row_bound (L : List Item) (hL : ∀ x ∈ L, x.1 ≤ 1000000) (k : Nat) : ∀ x ∈ rowM L k, x.1 ≤ 1000000 * 2 ^ k := by
  have hpk : ∀ (R : List Item) (c : Nat), (∀ x ∈ R, x.1 ≤ c) → ∀ p ∈ packs R, p ≤ 2 * c := by
    intro R
    induction R using packs.induct with
    | case1 a b r ih =>
      intro c hc p hp
      simp only [packs, List.mem_cons] at hp
      rcases hp with rfl | hp
      · have h1 := hc a (by simp); have h2 := hc b (by simp); omega
      · exact ih c (fun x hx => hc x (by simp [hx])) p hp
    | case2 r h => intro c _ p hp; cases r with
      | nil => simp [packs] at hp
      | cons a r => cases r with
        | nil => simp [packs] at hp
        | cons b r => exact absurd rfl (h a b r)
  induction k with
  | zero => intro x hx; have := hL x hx; simpa using this
  | succ k ih =>
    intro x hx
    have := mergeM_mem L (packs (rowM L k)) x.1 (List.mem_map_of_mem hx)
    rw [Nat.pow_succ]
    have h1 : 1 ≤ 2 ^ k := Nat.one_le_two_pow
    rcases this with h | h
    · simp only [wts, List.mem_map] at h
      obtain ⟨y, hy, he⟩ := h
      have := hL y hy
      rw [← he]
      have : 1000000 * 1 ≤ 1000000 * (2 ^ k * 2) := Nat.mul_le_mul_left _ (by omega)
      omega
    · have := hpk _ _ ih x.1 h
      omega

theorem Try.infoRow : (Try.prog.info? 152).map (fun i => (i.zero, i.size, i.bytes)) = some (some (.slice none 0 0), 1, 24) := by kernel_rfl
/-- One row of the descent. -/
theorem lenJ_row (L : List Item) (p m j : Nat) : lenJ L p m j = (if j < cntL (rowM L p) m then 1 else 0) + (if p = 0 then 0 else lenJ L (p - 1) (2 * (m - cntL (rowM L p) m)) j) := by
  cases p with
  | zero => rfl
  | succ p => rfl
set_option maxHeartbeats 4000000 in
set_option maxRecDepth 100000 in
theorem specLens_yes (a : Option Addr) (cap B lim : Nat) (zs : List Int) (w : World) (hz : Ints w B a zs) (hB : B ≤ w.heap.size) (hf : fOk zs = true) (h1 : 1 ≤ lim) (h2 : lim ≤ 20) (hn2 : 2 ≤ zs.length) (hpow : zs.length ≤ 2 ^ lim) :
    Calls Try.prog 96 #[.slice a zs.length cap, .int .i64 lim] w fun e w' => ∃ v L, e = .returned (.tuple #[v, .bool true]) ∧ L.Perm (items zs zs.length) ∧ LexS L ∧
      w'.ownsRow w.heap.size 3 1 v zs.length (nats zs.length fun s => lenJ L (lim - 1) (2 * zs.length - 2) (pos L s)) ∧ Below w.heap.size w w' := by
  obtain ⟨i0, hi, hz0, hz1, hz2⟩ := info_parts Try.infoRow
  obtain ⟨j0, ji, jz0, jz1, jz2⟩ := info_parts Try.infoInt
  have hfr := (fOk_iff zs).1 hf
  obtain ⟨n, hn⟩ : ∃ n, zs.length = n := ⟨_, rfl⟩
  have K1 := hidden (specFreqsOk_any a cap B zs w hz)
  have K2 := hidden (l3leaves_any a cap B zs w hz hB hfr.2.1 hfr.2.2)
  rw [hf] at K1
  have HR := hidden hfr.2.2
  have hn260 : n ≤ 260 := by rw [← hn]; exact hfr.2.1
  have hM : 2 ^ lim ≤ 2 ^ 20 := Nat.pow_le_pow_right (by omega) h2
  obtain ⟨M, hMe⟩ : ∃ M, 2 ^ lim = M := ⟨_, rfl⟩
  have hMI : wrap64 (2 ^ lim) = (M : Int) := by rw [show ((2 : Int) ^ lim) = ((2 ^ lim : Nat) : Int) by simp, hMe]; exact wrap64_n _ (by omega)
  rw [hMe] at hpow hM
  have HPOW := hidden hMe
  rw [hn] at hn2 hpow K1 K2 ⊢
  have HN := hidden hn
  clear hf hfr hn hz hMe
  have g1 : ¬ (M : Int) < (n : Int) := by omega
  have g2 : ((n : Int) == 1) = false := by rw [beq_eq_false_iff_ne]; omega
  go_enter Try.func96, Try.ntmps96
  go_wp2_with fail
  refine K1.out.mono ?_
  rintro e w' ⟨rfl, rfl⟩
  go_wp2_with fail
  refine K2.out.mono ?_
  rintro e w1 ⟨vL, L, rfl, hP, hS, hown, hb1⟩
  obtain ⟨gL, cL, hvL⟩ := Joins.ownsRow_form hown (by omega)
  subst hvL
  have hLl : L.length = n := by rw [hP.length_eq, items_len]
  have hLeaf := leaf_isLeaf hP
  have hLb : ∀ x ∈ L, x.1 ≤ 1000000 := by
    intro x hx
    have := hP.mem_iff.1 hx
    simp only [items, List.mem_map, List.mem_range] at this
    obtain ⟨i, hi2, rfl⟩ := this
    have hr := HR.out i (by rw [HN.out]; exact hi2)
    rcases wgt_le (zs.getD i 0) hr.2 with h | h
    · exact h.2
    · omega
  have hbd : ∀ k, k ≤ 19 → ∀ x ∈ rowM L k, x.1 ≤ 1099511627776 := by
    intro k hk x hx
    have := row_bound L hLb k x hx
    have h19 : 2 ^ k ≤ 2 ^ 19 := Nat.pow_le_pow_right (by omega) hk
    have : 1000000 * 2 ^ k ≤ 1000000 * 2 ^ 19 := Nat.mul_le_mul_left _ h19
    omega
  have HP := hidden hP
  have HS := hidden hS
  have HLl := hidden hLl
  have HLeaf := hidden hLeaf
  have HBD := hidden hbd
  have HRow : Hid (∀ k, n ≤ (rowM L k).length ∧ (rowM L k).length ≤ 2 * n) := hidden fun k => by
    have := row_most L k
    rw [hLl] at this
    refine ⟨?_, this⟩
    cases k with
    | zero => show n ≤ L.length; omega
    | succ k => rw [rowM_len, hLl]; omega
  have hb1s := hb1.size
  have HL1 := hidden hown
  clear hP hS hLl hLeaf hLb hbd
  go_wp2
  go_loopw [7, 8] (fun vr sk wr => ∃ (k : Nat) (Vs : List Value), 1 ≤ k ∧ k ≤ lim ∧ sk = .int .i64 k ∧ Hid (Vs.length = k) ∧ wr.ownsRow w1.heap.size 152 1 vr k Vs ∧ Hid (∀ i, (h : i < Vs.length) → wr.ownsRow w'.heap.size 157 2 Vs[i] (rowM L i).length (icells (rowM L i))) ∧ Hid (∀ u ∈ Vs, u.oneCell' = true) ∧ Below w1.heap.size w1 wr) (fun _ sk _ => lim - (intOf sk).toNat)
  case atStart => exact ⟨1, [.slice (some ⟨gL, 0, none⟩) n cL], by omega, h1, rfl, hidden rfl, World.ownsRow_lit _ _ _ (Nat.le_refl _) (by decide) rfl, hidden (fun i hi => by
      have : i = 0 := by simpa using hi
      subst this
      show World.ownsRow _ _ _ _ _ L.length _
      rw [HLl.out]
      exact hown.alloc _), hidden (by simp [Value.oneCell']), (Below.refl _ _).alloc (Nat.le_refl _) _⟩
  case round =>
    obtain ⟨k, Vs, hk1, hk2, rfl, HV, hrows, HVs, HV1, hbl⟩ := hrel
    have hsz := hbl.size
    obtain ⟨gr, cr, hvr⟩ := Joins.ownsRow_form hrows (by omega)
    subst hvr
    by_cases hlt : k < lim
    · obtain ⟨q, rfl⟩ : ∃ q, k = q + 1 := ⟨k - 1, by omega⟩
      have hq : q < Vs.length := by rw [HV.out]; omega
      obtain ⟨V, hVe⟩ : ∃ V, Vs[q] = V := ⟨_, rfl⟩
      have hV := HVs.out q hq
      rw [hVe] at hV
      obtain ⟨r, hr⟩ : ∃ r, (rowM L q).length = r := ⟨_, rfl⟩
      have hrr := HRow.out q
      rw [hr] at hrr hV
      obtain ⟨gv, cv, hv⟩ := Joins.ownsRow_form hV (by omega)
      subst hv
      have crow := hrows.cellAt q (by omega)
      rw [List.getElem?_eq_getElem hq, hVe] at crow
      have hLw := own_bel HL1.out hbl
      have K3 := hidden (l3next_any _ _ _ n r L (rowM L q) wr HLl.out hr hLw hV (by omega) (by omega) hn260 (by omega) (HBD.out q (by omega)) (HBD.out 0 (by omega)))
      have hlen3 : (rowM L (q + 1)).length = n + r / 2 := by rw [rowM_len, HLl.out, hr]
      have HLEN := hidden hlen3
      clear hV hLw hr hVe hlen3
      go_wp2_with fail
      refine K3.out.mono ?_
      rintro e w3 ⟨v3, rfl, hown3, hb3⟩
      obtain ⟨g3, c3, hv3⟩ := Joins.ownsRow_form hown3 (by omega)
      subst hv3
      have hrows3 := own_bel hrows hb3
      have hsz3 := hb3.size
      clear crow
      go_wp2_with (at_builtin; refine wpList_append_own_at _ rfl _ _ 154 rfl w1.heap.size 152 i0 (.slice none 0 0) 1 24 Try.underlying154 hi hz0 hz1 hz2 rfl (by decide) _ _ _ rfl (hrows3.alloc _) ⟨w3.heap.size, 0, none⟩ 1 1 [.slice (some ⟨g3, 0, none⟩) (n + r / 2) c3] rfl rfl ?ca2 ?ca3 ?ca4 ?ca5 ?ca6 ?_)
      case ca2 => exact cell_one _ _ _
      case ca3 => exact fun u hu => by simp at hu; subst hu; rfl
      case ca4 => unfold maxLen; omega
      case ca5 => omega
      case ca6 => simp; omega
      intro v4 w4 hown4 hgrow _ _
      have hbl4 : Below w1.heap.size w1 w4 := ((hbl.trans (hb3.mono hsz)).alloc (by omega) _).grown hgrow (by simp; omega) (fun b hb => (hrows.lt b hb).1)
      have HVn : Hid (∀ i, (h : i < (Vs ++ [Value.slice (some ⟨g3, 0, none⟩) (n + r / 2) c3]).length) → w4.ownsRow w'.heap.size 157 2 ((Vs ++ [Value.slice (some ⟨g3, 0, none⟩) (n + r / 2) c3])[i]'h) (rowM L i).length (icells (rowM L i))) := hidden (by
        intro i h
        rcases Nat.lt_or_ge i Vs.length with hi | hi
        · rw [List.getElem_append_left hi]
          have o1 := (own_bel (HVs.out i hi) hb3)
          exact (o1.alloc _).kept hgrow (.inr (own_types hrows3 o1 (by decide) rfl))
        · have e : i = Vs.length := by simp at h; omega
          subst e
          rw [List.getElem_append_right (Nat.le_refl _)]
          simp only [Nat.sub_self, List.getElem_cons_zero]
          rw [HV.out, HLEN.out]
          have o1 := Joins.ownsRow_le hown3 (show w'.heap.size ≤ wr.heap.size by omega)
          exact (o1.alloc _).kept hgrow (.inr (own_types hrows3 o1 (by decide) rfl)))
      have HV1n : Hid (∀ u ∈ Vs ++ [Value.slice (some ⟨g3, 0, none⟩) (n + r / 2) c3], u.oneCell' = true) := hidden (by
        intro u hu
        rcases List.mem_append.1 hu with h | h
        · exact HV1.out u h
        · simp at h; subst h; rfl)
      clear hgrow hrows3 hown3 hb3 hbl hrows
      go_wp2
      go_roundw
      case rel => exact ⟨q + 1 + 1, Vs ++ [.slice (some ⟨g3, 0, none⟩) (n + r / 2) c3], by omega, by omega, by go_num, hidden (by simp [HV.out]), hown4, HVn, HV1n, hbl4⟩
      case measure => simp [intOf]; omega
    · have hkl : k = lim := by omega
      subst hkl
      have hsz1 : w'.heap.size ≤ w1.heap.size := hb1s
      go_wp2_with (at_make; refine wpList_make_full _ rfl _ _ 24 rfl w'.heap.size 3 j0 (.int .i64 0) 1 Try.underlying24 ji jz0 jz1 .i64 .i64 _ _ n rfl rfl rfl rfl ?cb1 ?cb2 ?cb3 ?_)
      case cb1 => rw [jz2]; omega
      case cb2 => unfold maxLen; omega
      case cb3 => omega
      intro w5 hown5 hgrow5
      have hb5 : Below wr.heap.size wr w5 := ⟨hgrow5.os, hgrow5.tape, hgrow5.output, hgrow5.size, fun i hi => hgrow5.block i hi (by simp)⟩
      rw [made_nats] at hown5
      have hbl5 : Below w'.heap.size w' w5 := (hb1.trans (hbl.mono hsz1)).trans (hb5.mono (by omega))
      clear hgrow5
      obtain ⟨go, hgo⟩ : ∃ go, wr.heap.size = go := ⟨_, rfl⟩
      have HM2 : Hid ((2 : Int) * (n : Int) - 2 = ((2 * n - 2 : Nat) : Int)) := hidden (by omega)
      have hbw : Below wr.heap.size wr w5 := hb5
      have HROWS := hidden hrows
      have HBW := hidden (hb1.trans (hbl.mono hsz1))
      have HPOS := hidden (fun s hs => pos_lt HP.out s hs)
      clear hb5 hb1 hown hrows g1 g2 hbl hbl5
      rw [hgo] at hown5 ⊢
      obtain ⟨W0, hW0⟩ : ∃ W0, W0 = wr := ⟨_, rfl⟩
      rw [← hW0] at hbw HROWS HVs hgo HBW
      clear hW0
      have HGO := hidden hgo
      clear hgo hsz hsz1
      go_wp2
      go_loopw [10, 11] (fun sm sk wx => ∃ (q m : Nat) (O : Nat → Nat), q ≤ k ∧ sk = .int .i64 ((q : Int) - 1) ∧ sm = .int .i64 m ∧ m ≤ 2 * n ∧
        Hid (∀ s, s < n → O s + (if q = 0 then 0 else lenJ L (q - 1) m (pos L s)) = lenJ L (k - 1) (2 * n - 2) (pos L s)) ∧ Hid (0 < q → m ≤ (rowM L (q - 1)).length) ∧ Hid (∀ s, s < n → O s ≤ 40) ∧
        wx.ownsRow w'.heap.size 3 1 (.slice (some ⟨go, 0, none⟩) n n) n (nats n O) ∧ Below W0.heap.size W0 wx) (fun _ sk _ => (intOf sk + 1).toNat)
      case atStart => exact ⟨k, 2 * n - 2, fun _ => 0, Nat.le_refl _, rfl, by rw [HM2.out], by omega, hidden (fun s hs => by show 0 + (if k = 0 then 0 else _) = _; rw [if_neg (by omega), Nat.zero_add]), hidden (fun _ => by have := row_big L (k - 1) (by rw [HLl.out, show k - 1 + 1 = k by omega, HPOW.out]; exact hpow); rw [HLl.out] at this; exact this), hidden (fun _ _ => Nat.zero_le _), hown5, hbw⟩
      case round =>
        obtain ⟨q, m, O, hq, rfl, rfl, hm, HO, Hm, HO40, hownO, hblx⟩ := hrel
        clear hMI hM hpow hown5 hbw hb1s
        by_cases hq0 : q = 0
        · subst hq0
          have HO2 := HO
          go_wp2
          refine bodyPost_ret (v := .tuple #[.slice (some ⟨go, 0, none⟩) n n, .bool true]) (by simp [results, Try.results96, go_sem]) rfl ⟨_, rfl, L, HP.out, HS.out, ?_, ?_⟩
          · rw [← nats_congr (f := O) fun s hs => by have := HO.out s hs; simpa using this]; exact hownO
          · exact HBW.out.trans (hblx.mono HBW.out.size)
        · obtain ⟨p, rfl⟩ : ∃ p, q = p + 1 := ⟨q - 1, by omega⟩
          have hpk : p < k := by omega
          have hmr : m ≤ (rowM L p).length := Hm.out (by omega)
          have hVp : p < Vs.length := by rw [HV.out]; omega
          obtain ⟨V, hVe⟩ : ∃ V, Vs[p] = V := ⟨_, rfl⟩
          have hV := HVs.out p hVp
          rw [hVe] at hV
          obtain ⟨r, hr⟩ : ∃ r, (rowM L p).length = r := ⟨_, rfl⟩
          have hrr := HRow.out p
          rw [hr] at hrr hV hmr
          obtain ⟨gv, cv, hv⟩ := Joins.ownsRow_form hV (by omega)
          subst hv
          have HVV := hidden hV
          have HVE := hidden hVe
          have HRR := hidden hr
          clear hV hVe hr hq0
          go_wp2
          go_loopw [12, 13] (fun sp si wy => ∃ (i c : Nat), i ≤ m ∧ c ≤ i ∧ Hid (c = cntL (rowM L p) i) ∧ si = .int .i64 i ∧ sp = .int .i64 ((i - c : Nat) : Int) ∧
            wy.ownsRow w'.heap.size 3 1 (.slice (some ⟨go, 0, none⟩) n n) n (nats n fun s => O s + if pos L s < c then 1 else 0) ∧ Below W0.heap.size W0 wy) (fun _ si _ => m - (intOf si).toNat)
          case atStart => exact ⟨0, 0, Nat.zero_le _, Nat.le_refl _, hidden rfl, rfl, rfl, by rw [nats_congr (g := O) fun s hs => by rw [if_neg (by omega)]; rfl]; exact hownO, hblx⟩
          case round =>
            obtain ⟨i, c, hi3, hc3, HC, rfl, rfl, hownY, hblY⟩ := hrel
            have hrowsY := own_bel HROWS.out hblY
            have hVY := own_bel HVV.out hblY
            have crow := hrowsY.cellAt p (by omega)
            rw [List.getElem?_eq_getElem hVp, HVE.out] at crow
            by_cases him : i < m
            · have hir : i < (rowM L p).length := by rw [HRR.out]; omega
              obtain ⟨x, hx⟩ : ∃ x, (rowM L p)[i]'hir = x := ⟨_, rfl⟩
              have c1 := hVY.cellAt (i * 2 + 1) (by omega)
              rw [icells_snd (rowM L p) i hir, hx] at c1
              have hcs := cntL_succ (rowM L p) i hir
              rw [hx, ← HC.out] at hcs
              by_cases hlf : isLeaf x = true
              · obtain ⟨hcl, hxe⟩ := row_leaf L HLeaf.out p i hir (by rw [hx]; exact hlf)
                have hxL : x ∈ L := by rw [← hx, hxe]; exact List.getElem_mem _
                have hxs := items_sym zs n x (HP.out.mem_iff.1 hxL)
                obtain ⟨t, ht⟩ : ∃ t : Nat, x.2 = t := ⟨x.2.toNat, by omega⟩
                have htn : t < n := by omega
                have hpos : pos L t = c := by rw [pos_of HP.out _ hcl t (by rw [← hxe, hx]; exact ht), HC.out]
                rw [if_pos hlf] at hcs
                rw [ht] at c1
                have d0 := hownY.cellAt t (by omega)
                rw [nats_get _ _ _ htn] at d0
                obtain ⟨y, hy⟩ : ∃ y, O t + (if pos L t < c then 1 else 0) = y := ⟨_, rfl⟩
                have hy2 : y = O t := by rw [← hy, hpos, if_neg (Nat.lt_irrefl _)]; rfl
                have hy40 : y ≤ 40 := by rw [hy2]; exact HO40.out t htn
                rw [hy] at d0
                have f0 := hownY.frozenAt t
                have HCS := hidden hcs
                have HST : Hid ((nats n fun s => O s + if pos L s < c then 1 else 0).set t (.int .i64 ((y + 1 : Nat) : Int)) = nats n fun s => O s + if pos L s < c + 1 then 1 else 0) := hidden (by
                  rw [nats_set]
                  refine nats_congr fun s hs => ?_
                  by_cases e : s = t
                  · subst e; rw [if_pos rfl, if_pos (by omega), hy2]
                  · rw [if_neg e]
                    have hne : pos L s ≠ c := by
                      intro hc
                      have h1 := pos_get HP.out s hs
                      have h2 := pos_get HP.out t htn
                      simp only [hc] at h1
                      simp only [hpos] at h2
                      rw [h1] at h2
                      exact e (by exact_mod_cast h2)
                    congr 1
                    by_cases h : pos L s < c
                    · rw [if_pos h, if_pos (by omega)]
                    · rw [if_neg h, if_neg (by omega)])
                clear hx hxe hxL hxs ht hpos hcs hy hy2 hlf hcl hir
                go_wp2
                go_roundw
                case rel => exact ⟨i + 1, c + 1, by omega, by omega, hidden (by rw [HCS.out]), by go_num, by rw [Nat.add_sub_add_right], by
                  have := (hownY.stored t (.int .i64 ((y + 1 : Nat) : Int))).1
                  rw [HST.out] at this
                  simpa using this, hblY.setCell (by show W0.heap.size ≤ go; rw [HGO.out]; exact Nat.le_refl _) _⟩
                case measure => simp [intOf]; omega
              · have hx2 : x.2 = -1 := by
                  rcases row_items L p x (by rw [← hx]; exact List.getElem_mem _) with h | h
                  · exact h
                  · exact absurd (HLeaf.out x h) hlf
                rw [if_neg hlf] at hcs
                rw [hx2] at c1
                have HCS := hidden hcs
                clear hx hx2 hcs hlf hir
                go_wp2
                go_roundw
                case rel => exact ⟨i + 1, c, by omega, by omega, hidden HCS.out.symm, by go_num, by rw [show ((i + 1 - c : Nat) : Int) = ((i - c : Nat) : Int) + 1 by omega], hownY, hblY⟩
                case measure => simp [intOf]; omega
            · have hime : i = m := by omega
              subst hime
              have HN2 : Hid (∀ s, s < n → (O s + if pos L s < c then 1 else 0) + (if p = 0 then 0 else lenJ L (p - 1) (2 * (i - c)) (pos L s)) = lenJ L (k - 1) (2 * n - 2) (pos L s)) := hidden (by
                intro s hs
                have := HO.out s hs
                rw [if_neg (by omega), Nat.add_sub_cancel, lenJ_row, ← HC.out] at this
                omega)
              have HM2' : Hid (0 < p → 2 * (i - c) ≤ (rowM L (p - 1)).length) := hidden (by
                intro hp
                obtain ⟨p', rfl⟩ : ∃ p', p = p' + 1 := ⟨p - 1, by omega⟩
                rw [HC.out]
                exact pm_room L HLeaf.out p' i (by rw [HRR.out]; exact hmr))
              have H40 : Hid (∀ s, s < n → (O s + if pos L s < c then 1 else 0) ≤ 40) := hidden (by
                intro s hs
                have := HN2.out s hs
                have h2 := lenJ_le L (k - 1) (2 * n - 2) (pos L s)
                omega)
              have H2n : Hid (2 * (i - c) ≤ 2 * n) := hidden (by
                rcases Nat.eq_zero_or_pos p with h0 | h0
                · subst h0
                  have : cntL (rowM L 0) i = i := cntL_all L HLeaf.out i (by have h9 := HRR.out; rw [show (rowM L 0).length = L.length from rfl] at h9; omega)
                  rw [HC.out, this]; omega
                · have h8 := HM2'.out h0
                  have h9 := (HRow.out (p - 1)).2
                  omega)
              go_wp2
              refine ⟨⟨p, 2 * (i - c), _, by omega, rfl, ?_, H2n.out, HN2, HM2', H40, hownY, hblY⟩, ?_⟩
              · rw [Int.natCast_mul]; rfl
              · show ((p : Int) - 1 + 1).toNat < (((p + 1 : Nat) : Int) - 1 + 1).toNat
                omega

theorem specLens_one (a : Option Addr) (cap B lim : Nat) (zs : List Int) (w : World) (hz : Ints w B a zs) (hB : B ≤ w.heap.size) (hf : fOk zs = true) (h1 : 1 ≤ lim) (h2 : lim ≤ 20) (hn1 : zs.length = 1) :
    Calls Try.prog 96 #[.slice a zs.length cap, .int .i64 lim] w fun e w' => e = .returned (.tuple #[.slice (some ⟨w.heap.size, 0, none⟩) 1 1, .bool true]) ∧ w' = w.alloc (.cells #[.int .i64 1] 3) := by
  have K1 := hidden (specFreqsOk_any a cap B zs w hz)
  rw [hf] at K1
  have hM : 2 ^ lim ≤ 2 ^ 20 := Nat.pow_le_pow_right (by omega) h2
  have hM0 : 2 ^ 1 ≤ 2 ^ lim := Nat.pow_le_pow_right (by omega) h1
  obtain ⟨M, hMe⟩ : ∃ M, 2 ^ lim = M := ⟨_, rfl⟩
  have hMI : wrap64 (2 ^ lim) = (M : Int) := by rw [show ((2 : Int) ^ lim) = ((2 ^ lim : Nat) : Int) by simp, hMe]; exact wrap64_n _ (by omega)
  rw [hMe] at hM hM0
  rw [hn1] at K1 ⊢
  clear hz hf hMe hn1
  go_enter Try.func96, Try.ntmps96
  go_wp2_with fail
  refine K1.out.mono ?_
  rintro e w' ⟨rfl, rfl⟩
  go_wp2
  refine bodyPost_ret (v := .tuple #[.slice (some ⟨w'.heap.size, 0, none⟩) 1 1, .bool true]) (by simp [results, Try.results96, go_sem]) rfl ⟨rfl, rfl⟩
theorem specLens_no (a : Option Addr) (cap B : Nat) (lim : Int) (zs : List Int) (w : World) (hz : Ints w B a zs) (b1 : -9223372036854775808 ≤ lim) (b2 : lim ≤ 9223372036854775807)
    (h : ¬ (fOk zs = true ∧ 1 ≤ lim ∧ lim ≤ 20 ∧ zs.length ≤ 2 ^ lim.toNat)) :
    Calls Try.prog 96 #[.slice a zs.length cap, .int .i64 lim] w fun e w' => e = .returned (.tuple #[.slice none 0 0, .bool false]) ∧ w' = w := by
  have K1 := hidden (specFreqsOk_any a cap B zs w hz)
  obtain ⟨f, hf⟩ : ∃ f, fOk zs = f := ⟨_, rfl⟩
  rw [hf] at K1 h
  obtain ⟨n, hn⟩ : ∃ n, zs.length = n := ⟨_, rfl⟩
  have hl := hz.1
  rw [hn] at K1 h hl ⊢
  clear hz hf hn
  cases f
  · go_enter Try.func96, Try.ntmps96
    go_wp2_with fail
    refine K1.out.mono ?_
    rintro e w' ⟨rfl, rfl⟩
    go_wp2
    refine bodyPost_ret (v := .tuple #[.slice none 0 0, .bool false]) (by simp [results, Try.results96, go_sem]) rfl ⟨rfl, rfl⟩
  · by_cases h1 : lim < 1
    · clear h
      go_enter Try.func96, Try.ntmps96
      go_wp2_with fail
      refine K1.out.mono ?_
      rintro e w' ⟨rfl, rfl⟩
      go_wp2
      refine bodyPost_ret (v := .tuple #[.slice none 0 0, .bool false]) (by simp [results, Try.results96, go_sem]) rfl ⟨rfl, rfl⟩
    · by_cases h2 : 20 < lim
      · clear h
        go_enter Try.func96, Try.ntmps96
        go_wp2_with fail
        refine K1.out.mono ?_
        rintro e w' ⟨rfl, rfl⟩
        go_wp2
        refine bodyPost_ret (v := .tuple #[.slice none 0 0, .bool false]) (by simp [results, Try.results96, go_sem]) rfl ⟨rfl, rfl⟩
      · obtain ⟨q, rfl⟩ : ∃ q : Nat, lim = q := ⟨lim.toNat, by omega⟩
        have hM : 2 ^ q ≤ 2 ^ 20 := Nat.pow_le_pow_right (by omega) (by omega)
        obtain ⟨M, hMe⟩ : ∃ M, 2 ^ q = M := ⟨_, rfl⟩
        have hMI : wrap64 (2 ^ q) = (M : Int) := by rw [show ((2 : Int) ^ q) = ((2 ^ q : Nat) : Int) by simp, hMe]; exact wrap64_n _ (by omega)
        have hlt : (M : Int) < (n : Int) := by
          rw [← hMe]
          rcases Nat.lt_or_ge (2 ^ q) n with h3 | h3
          · exact_mod_cast h3
          · exact absurd ⟨rfl, by omega, by omega, by simpa using h3⟩ h
        clear h hM hMe b1 b2
        go_enter Try.func96, Try.ntmps96
        go_wp2_with fail
        refine K1.out.mono ?_
        rintro e w' ⟨rfl, rfl⟩
        go_wp2
        refine bodyPost_ret (v := .tuple #[.slice none 0 0, .bool false]) (by simp [results, Try.results96, go_sem]) rfl ⟨rfl, rfl⟩
end Go.Proofs.Ytaaahmfkdiogkaa
namespace Go.Proofs.Ytaaahmfkdiogkaa
set_option linter.unusedVariables false
set_option linter.unusedSimpArgs false

theorem getD_in {l : List Nat} {i : Nat} (h : i < l.length) : l.getD i 0 = l[i] := by simp [List.getD_eq_getElem?_getD, h]
/-- The symbol of the leaf at a place. -/
def symJ (L : List Item) (j : Nat) : Nat := ((L.map Prod.snd).getD j 0).toNat
theorem rsum_perm (n : Nat) (p : Nat → Nat) (h : ((List.range n).map p).Perm (List.range n)) (g : Nat → Nat) : rsum n (fun s => g (p s)) = rsum n g := by
  have := perm_sum (h.map g)
  rw [List.map_map, rsum_map] at this
  rw [rsum_map] at this
  exact this
theorem leaf_len {zs : List Int} {n : Nat} {L : List Item} (hp : L.Perm (items zs n)) : L.length = n := by rw [hp.length_eq, items_len]
theorem sym_lt {zs : List Int} {n : Nat} {L : List Item} (hp : L.Perm (items zs n)) (j : Nat) (hj : j < n) : symJ L j < n := by
  have hl := leaf_len hp
  have h := items_sym zs n _ (hp.mem_iff.1 (List.getElem_mem (show j < L.length by omega)))
  have e : symJ L j = (L[j]'(by omega)).2.toNat := by simp [symJ, List.getD_eq_getElem?_getD, hl, hj]
  omega
theorem sym_eq {zs : List Int} {n : Nat} {L : List Item} (hp : L.Perm (items zs n)) (j : Nat) (hj : j < L.length) : (L[j]).2 = (symJ L j : Nat) := by
  have h := items_sym zs n _ (hp.mem_iff.1 (List.getElem_mem hj))
  have e : symJ L j = (L[j]).2.toNat := by simp [symJ, List.getD_eq_getElem?_getD, hj]
  omega
theorem pos_sym {zs : List Int} {n : Nat} {L : List Item} (hp : L.Perm (items zs n)) (j : Nat) (hj : j < n) : pos L (symJ L j) = j := by
  have hl := leaf_len hp
  exact pos_of hp j (by omega) _ (sym_eq hp j (by omega))
theorem sym_pos {zs : List Int} {n : Nat} {L : List Item} (hp : L.Perm (items zs n)) (s : Nat) (hs : s < n) : symJ L (pos L s) = s := by
  have h := sym_eq hp (pos L s) (pos_lt hp s hs)
  rw [pos_get hp s hs] at h
  omega
theorem sym_perm {zs : List Int} {n : Nat} {L : List Item} (hp : L.Perm (items zs n)) : ((List.range n).map (symJ L)).Perm (List.range n) := by
  have hl := leaf_len hp
  have h := (leaf_syms hp).map Int.toNat
  rw [List.map_map, List.map_map] at h
  have e1 : List.map (Int.toNat ∘ fun (i : Nat) => (i : Int)) (List.range n) = List.range n := by
    rw [show (Int.toNat ∘ fun (i : Nat) => (i : Int)) = id from funext fun i => by simp]; simp
  rw [e1] at h
  refine List.Perm.trans (List.Perm.of_eq ?_) h
  apply List.ext_getElem (by simp [hl])
  intro j g1 g2
  simp at g1
  simp [symJ, List.getD_eq_getElem?_getD, hl, g1]
theorem pos_perm {zs : List Int} {n : Nat} {L : List Item} (hp : L.Perm (items zs n)) : ((List.range n).map (pos L)).Perm (List.range n) := by
  have h := ((sym_perm hp).map (pos L)).symm
  refine h.trans (List.Perm.of_eq ?_)
  rw [List.map_map]
  apply List.ext_getElem (by simp)
  intro j g1 g2
  simp at g1
  simp [pos_sym hp j g1]
theorem pos_wgt {zs : List Int} {n : Nat} {L : List Item} (hp : L.Perm (items zs n)) (s : Nat) (hs : s < n) : (wts L).getD (pos L s) 0 = wgt (zs.getD s 0) := by
  have hlt := pos_lt hp s hs
  have hg := pos_get hp s hs
  have hm := hp.mem_iff.1 (List.getElem_mem hlt)
  simp only [items, List.mem_map, List.mem_range] at hm
  obtain ⟨i, hi, he⟩ := hm
  have h2 := congrArg Prod.snd he
  have h1 := congrArg Prod.fst he
  simp only at h1 h2
  rw [hg] at h2
  have : i = s := by omega
  subst this
  rw [h1]
  simp [wts, List.getD_eq_getElem?_getD, hlt]

/-- What Lens answers, by symbols. -/
def lenS (L : List Item) (n lim s : Nat) : Nat := lenJ L (lim - 1) (2 * n - 2) (pos L s)
theorem lenS_range {zs : List Int} {n lim : Nat} {L : List Item} (hp : L.Perm (items zs n)) (hs : LexS L) (h2 : 2 ≤ n) (h1 : 1 ≤ lim) (hpow : n ≤ 2 ^ lim) (s : Nat) (hsn : s < n) : 1 ≤ lenS L n lim s ∧ lenS L n lim s ≤ lim := by
  have hl := leaf_len hp
  obtain ⟨k, rfl⟩ : ∃ k, lim = k + 1 := ⟨lim - 1, by omega⟩
  have hL := leaf_isLeaf hp
  have hm := row_big L k (by omega)
  have ht := pm_top L hL hs.sorted (by omega) k _ hm (Nat.le_refl _)
  have hlt := pos_lt hp s hsn
  rw [hl] at ht
  constructor
  · exact lenJ_pos L k _ _ (by rw [ht]; omega)
  · exact lenJ_le L k _ _
theorem lenS_kraft {zs : List Int} {n lim : Nat} {L : List Item} (hp : L.Perm (items zs n)) (hs : LexS L) (h2 : 2 ≤ n) (h1 : 1 ≤ lim) (hpow : n ≤ 2 ^ lim) (D : Nat) (hD : lim ≤ D) : rsum n (fun s => 2 ^ (D - lenS L n lim s)) = 2 ^ D := by
  have hl := leaf_len hp
  obtain ⟨k, rfl⟩ : ∃ k, lim = k + 1 := ⟨lim - 1, by omega⟩
  have hw := pm_whole L (leaf_isLeaf hp) hs.sorted (by omega) k (by omega)
  rw [hl] at hw
  have e : rsum n (fun s => 2 ^ (D - lenS L n (k + 1) s)) = rsum n (fun s => 2 ^ (D - (k + 1)) * 2 ^ (k + 1 - lenS L n (k + 1) s)) :=
    rsum_congr fun s hsn => by
      have := (lenS_range hp hs h2 h1 hpow s hsn).2
      rw [← Nat.pow_add]; congr 1; omega
  have hx : rsum n (fun s => 2 ^ (k + 1 - lenS L n (k + 1) s)) = rsum n (fun j => 2 ^ (k + 1 - lenJ L k (2 * n - 2) j)) := rsum_perm n (pos L) (pos_perm hp) (fun j => 2 ^ (k + 1 - lenJ L k (2 * n - 2) j))
  rw [e, rsum_mul, hx, hw, ← Nat.pow_add]; congr 1; omega
theorem lenS_cost {zs : List Int} {n lim : Nat} {L : List Item} (hp : L.Perm (items zs n)) (h1 : 1 ≤ lim) (hpow : n ≤ 2 ^ lim) : rsum n (fun s => wgt (zs.getD s 0) * lenS L n lim s) = (wts ((rowM L (lim - 1)).take (2 * L.length - 2))).sum := by
  have hl := leaf_len hp
  obtain ⟨k, rfl⟩ : ∃ k, lim = k + 1 := ⟨lim - 1, by omega⟩
  have hm := row_big L k (by omega)
  have hc := pm_cost L (leaf_isLeaf hp) k _ hm
  rw [show k + 1 - 1 = k by omega, ← hc, hl, ← rsum_perm n (pos L) (pos_perm hp) (fun j => (wts L).getD j 0 * lenJ L k (2 * n - 2) j)]
  exact rsum_congr fun s hsn => by rw [pos_wgt hp s hsn]; rfl
/-- None within the limit needs less. -/
theorem lenS_best {zs : List Int} {n lim : Nat} {L : List Item} (hp : L.Perm (items zs n)) (hs : LexS L) (h1 : 1 ≤ lim) (hpow : n ≤ 2 ^ lim) (l : Nat → Nat) (hl1 : ∀ s, s < n → 1 ≤ l s ∧ l s ≤ lim) (hK : rsum n (fun s => 2 ^ (lim - l s)) ≤ 2 ^ lim) :
    rsum n (fun s => wgt (zs.getD s 0) * lenS L n lim s) ≤ rsum n (fun s => wgt (zs.getD s 0) * l s) := by
  have hl := leaf_len hp
  rw [lenS_cost hp h1 hpow]
  obtain ⟨k, rfl⟩ : ∃ k, lim = k + 1 := ⟨lim - 1, by omega⟩
  have hb := pm_best L (leaf_isLeaf hp) hs.sorted k (fun j => l (symJ L j)) (fun j hj => hl1 _ (sym_lt hp j (by omega))) (by
    rw [hl, rsum_perm n (symJ L) (sym_perm hp) (fun s => 2 ^ (k + 1 - l s))]
    exact hK)
  refine Nat.le_trans hb (Nat.le_of_eq ?_)
  rw [hl, ← rsum_perm n (pos L) (pos_perm hp)]
  exact rsum_congr fun s hsn => by rw [pos_wgt hp s hsn, sym_pos hp s hsn]
/-- What comes more often has no longer code. -/
theorem lenS_often {zs : List Int} {n lim : Nat} {L : List Item} (hp : L.Perm (items zs n)) (hs : LexS L) (i k : Nat) (hi : i < n) (hk : k < n) (h : wgt (zs.getD k 0) < wgt (zs.getD i 0)) : lenS L n lim i ≤ lenS L n lim k := by
  refine lenJ_mono L _ _ _ _ ?_
  rcases Nat.lt_or_ge (pos L i) (pos L k) with hlt | hge
  · exfalso
    have hlk := pos_lt hp k hk
    have hli := pos_lt hp i hi
    have := (List.pairwise_iff_getElem.1 hs.sorted) (pos L i) (pos L k) (by simpa [wts] using hli) (by simpa [wts] using hlk) hlt
    have e1 := pos_wgt hp i hi
    have e2 := pos_wgt hp k hk
    rw [getD_in (by simpa [wts] using hli)] at e1
    rw [getD_in (by simpa [wts] using hlk)] at e2
    omega
  · exact hge
/-- A wider limit needs no more. -/
theorem lenS_wider {zs : List Int} {n lim : Nat} {L : List Item} (hp : L.Perm (items zs n)) (hs : LexS L) (h2 : 2 ≤ n) (h1 : 1 ≤ lim) (hpow : n ≤ 2 ^ lim) :
    rsum n (fun s => wgt (zs.getD s 0) * lenS L n (lim + 1) s) ≤ rsum n (fun s => wgt (zs.getD s 0) * lenS L n lim s) :=
  lenS_best hp hs (by omega) (by rw [Nat.pow_succ]; omega) (lenS L n lim) (fun s h => by have := lenS_range hp hs h2 h1 hpow s h; omega)
    (Nat.le_of_eq (lenS_kraft hp hs h2 h1 hpow (lim + 1) (by omega)))
/-- No less than Huffman's sum. -/
theorem lenS_huff {zs : List Int} {n lim c : Nat} {L : List Item} (hp : L.Perm (items zs n)) (hs : LexS L) (h2 : 2 ≤ n) (h1 : 1 ≤ lim) (hpow : n ≤ 2 ^ lim) (hh : Huff (wl zs n) c) :
    c ≤ rsum n (fun s => wgt (zs.getD s 0) * lenS L n lim s) := by
  have h := huff_low hh ((List.range n).map fun s => (wgt (zs.getD s 0), lenS L n lim s)) lim (by simp [wl, Function.comp_def]) (by
      intro z hz
      simp only [List.mem_map, List.mem_range] at hz
      obtain ⟨s, hs', rfl⟩ := hz
      exact (lenS_range hp hs h2 h1 hpow s hs').2) (by
      unfold krP
      rw [List.map_map]
      have e := rsum_map n (fun s => 2 ^ (lim - lenS L n lim s))
      simp only [Function.comp_def]
      rw [e]
      exact lenS_kraft hp hs h2 h1 hpow lim (Nat.le_refl _))
  unfold costP at h
  rw [List.map_map] at h
  have e := rsum_map n (fun s => wgt (zs.getD s 0) * lenS L n lim s)
  simp only [Function.comp_def] at h
  omega
theorem getD_map_snd (P : List WL) (s : Nat) (h : s < P.length) : (P.map Prod.snd).getD s 0 = (P[s]).2 := by simp [List.getD_eq_getElem?_getD, h]
/-- With room enough it is Huffman's sum. -/
theorem lenS_huff_up {zs : List Int} {n lim c : Nat} {L : List Item} (hp : L.Perm (items zs n)) (hs : LexS L) (h2 : 2 ≤ n) (hn : n ≤ lim + 1) (hpow : n ≤ 2 ^ lim) (hh : Huff (wl zs n) c) :
    rsum n (fun s => wgt (zs.getD s 0) * lenS L n lim s) ≤ c := by
  obtain ⟨P, e1, e2, e3, e4, e5⟩ := huff_up hh
  have hPl : P.length = n := by have := congrArg List.length e1; simpa [wl_len] using this
  rw [wl_len] at e2 e3 e4
  have hsum : ∀ g : WL → Nat, (P.map g).sum = rsum n (fun s => g (P.getD s (0, 0))) := by
    intro g
    rw [← rsum_map]
    congr 1
    apply List.ext_getElem (by simp [hPl])
    intro j g1 g2
    simp at g1
    simp [List.getD_eq_getElem?_getD, g1]
  have hw : ∀ s, s < n → (P.getD s (0, 0)).1 = wgt (zs.getD s 0) := by
    intro s hsn
    have hsP : s < P.length := by omega
    have h := congrArg (fun l : List Nat => l[s]?) e1
    simp only [wl, List.getElem?_map, List.getElem?_range hsn, List.getElem?_eq_getElem hsP, Option.map_some] at h
    have h := Option.some.inj h
    rw [show P.getD s (0, 0) = P[s] by simp [List.getD_eq_getElem?_getD, hsP]]
    exact h
  have hmem : ∀ s, s < n → P.getD s (0, 0) ∈ P := by
    intro s hsn
    simp [List.getD_eq_getElem?_getD, hPl, hsn]
  have hb := lenS_best (lim := lim) hp hs (by omega) hpow (fun s => (P.getD s (0, 0)).2) (fun s hsn => by
      have a := e2 _ (hmem s hsn)
      have b := e3 h2 _ (hmem s hsn)
      omega) (by
      refine Nat.le_of_eq ?_
      have hk := e4
      unfold krP at hk
      rw [hsum (fun z => 2 ^ (n - 1 - z.2))] at hk
      have e : rsum n (fun s => 2 ^ (lim - (P.getD s (0, 0)).2)) = rsum n (fun s => 2 ^ (lim - (n - 1)) * 2 ^ (n - 1 - (P.getD s (0, 0)).2)) :=
        rsum_congr fun s hsn => by
          have a := e2 _ (hmem s hsn)
          rw [← Nat.pow_add]; congr 1; omega
      rw [e, rsum_mul, hk, ← Nat.pow_add]; congr 1; omega)
  refine Nat.le_trans hb (Nat.le_of_eq ?_)
  rw [← e5]
  unfold costP
  rw [hsum (fun z => z.1 * z.2)]
  exact rsum_congr fun s hsn => by rw [hw s hsn]
end Go.Proofs.Ytaaahmfkdiogkaa
namespace Go.Proofs.Ytaaahmfkdiogkaa
set_option linter.unusedVariables false
set_option linter.unusedSimpArgs false

def lexB (a b : Item) : Bool := decide (a.1 < b.1 ∨ (a.1 = b.1 ∧ a.2 ≤ b.2))
/-- The leaves in order. -/
def leafL (zs : List Int) : List Item := (items zs zs.length).mergeSort lexB
theorem leafL_perm (zs : List Int) : (leafL zs).Perm (items zs zs.length) := List.mergeSort_perm _ _
theorem leafL_lex (zs : List Int) : LexS (leafL zs) := by
  have h1 : (leafL zs).Pairwise (fun a b => lexB a b = true) := List.pairwise_mergeSort (le := lexB)
    (fun a b c h h' => by simp only [lexB, decide_eq_true_eq] at *; omega) (fun a b => by simp only [lexB, Bool.or_eq_true, decide_eq_true_eq]; omega) _
  have h2 := leaf_nodup (leafL_perm zs)
  rw [List.Nodup, List.pairwise_map] at h2
  refine (h1.and h2).imp ?_
  intro a b h
  have h3 := h.1
  have h4 := h.2
  simp only [lexB, decide_eq_true_eq] at h3
  unfold lex
  omega
theorem leafL_eq {zs : List Int} {L : List Item} (hp : L.Perm (items zs zs.length)) (hs : LexS L) : L = leafL zs :=
  lex_unique hs (leafL_lex zs) (hp.trans (leafL_perm zs).symm)
/-- The lengths. -/
def lensF (zs : List Int) (lim : Nat) : List Int := if zs.length = 1 then [1] else (List.range zs.length).map fun s => (lenS (leafL zs) zs.length lim s : Int)
theorem lensF_len (zs : List Int) (lim : Nat) : (lensF zs lim).length = zs.length := by unfold lensF; split <;> simp [*]
theorem lensF_nats {zs : List Int} {L : List Item} (hp : L.Perm (items zs zs.length)) (hs : LexS L) (h2 : 2 ≤ zs.length) (lim : Nat) :
    nats zs.length (fun s => lenJ L (lim - 1) (2 * zs.length - 2) (pos L s)) = intsV (lensF zs lim) := by
  rw [leafL_eq hp hs]
  unfold lensF intsV nats
  rw [if_neg (by omega), List.map_map]
  rfl
theorem lensF_get {zs : List Int} (h2 : 2 ≤ zs.length) (lim s : Nat) (hs : s < zs.length) : (lensF zs lim).getD s 0 = (lenS (leafL zs) zs.length lim s : Int) := by
  unfold lensF; rw [if_neg (by omega)]; simp [List.getD_eq_getElem?_getD, hs]
/-- When Lens answers. -/
def lensOn (zs : List Int) (lim : Int) : Prop := fOk zs = true ∧ 1 ≤ lim ∧ lim ≤ 20 ∧ zs.length ≤ 2 ^ lim.toNat
instance (zs : List Int) (lim : Int) : Decidable (lensOn zs lim) := by unfold lensOn; exact inferInstance
theorem lensF_range {zs : List Int} {lim : Nat} (h : lensOn zs lim) (s : Nat) (hs : s < zs.length) : 1 ≤ (lensF zs lim).getD s 0 ∧ (lensF zs lim).getD s 0 ≤ lim := by
  obtain ⟨hf, h1, h20, hp⟩ := h
  have hn := (fOk_iff zs).1 hf
  rw [Int.toNat_natCast] at hp
  rcases Nat.lt_or_ge 1 zs.length with h2 | h2
  · rw [lensF_get (by omega) lim s hs]
    have := lenS_range (leafL_perm zs) (leafL_lex zs) (by omega) (by omega) hp s hs
    omega
  · have e : zs.length = 1 := by omega
    have e0 : s = 0 := by omega
    subst e0
    unfold lensF; rw [if_pos e]; simp; omega
theorem lensF_lRange {zs : List Int} {lim : Nat} (h : lensOn zs lim) : lRange (lensF zs lim) := by
  have hn := (fOk_iff zs).1 h.1
  refine ⟨by rw [lensF_len]; omega, by rw [lensF_len]; omega, fun k hk => ?_⟩
  rw [lensF_len] at hk
  have := lensF_range h k hk
  have := h.2.2.1
  omega
theorem lensF_kraft {zs : List Int} {lim : Nat} (h : lensOn zs lim) : kraftI (lensF zs lim) = if zs.length = 1 then 524288 else 1048576 := by
  rw [kraftI_yes (lensF_lRange h), lensF_len]
  obtain ⟨hf, h1, h20, hp⟩ := h
  have hn := (fOk_iff zs).1 hf
  rw [Int.toNat_natCast] at hp
  by_cases e : zs.length = 1
  · rw [if_pos e, e]
    unfold lensF; rw [if_pos e]
    rfl
  · rw [if_neg e]
    unfold kSum
    have hk := lenS_kraft (leafL_perm zs) (leafL_lex zs) (by omega) (by omega) hp 20 (by omega)
    have e2 : rsum zs.length (fun j => 2 ^ (20 - ((lensF zs lim).getD j 0).toNat)) = rsum zs.length (fun s => 2 ^ (20 - lenS (leafL zs) zs.length lim s)) :=
      rsum_congr fun s hs => by rw [lensF_get (by omega) lim s hs, Int.toNat_natCast]
    rw [e2, hk]; rfl
theorem lensF_lOk {zs : List Int} {lim : Nat} (h : lensOn zs lim) : lOk (lensF zs lim) = true := by
  unfold lOk; rw [lensF_kraft h]; split <;> decide
theorem lensF_cost {fs zs : List Int} {lim : Nat} (hf : fOk fs = true) (h : lensOn zs lim) (hl : fs.length = zs.length) : costI fs (lensF zs lim) = (cSum fs (lensF zs lim) fs.length : Int) :=
  costI_yes ⟨hf, lensF_lOk h, by rw [lensF_len, hl]⟩
/-- The weights are the numbers themselves where each symbol comes. -/
theorem wgt_one {x : Int} (h : 1 ≤ x) : wgt x = x.toNat := by unfold wgt; rw [if_neg (by omega)]
theorem cSum_len {fs zs : List Int} {lim : Nat} (h2 : 2 ≤ fs.length) (hl : fs.length = zs.length) (h1 : ∀ k, k < fs.length → 1 ≤ fs.getD k 0) :
    cSum fs (lensF zs lim) fs.length = rsum fs.length (fun s => wgt (fs.getD s 0) * lenS (leafL zs) fs.length lim s) := by
  unfold cSum
  exact rsum_congr fun s hs => by rw [lensF_get (by omega) lim s (by omega), Int.toNat_natCast, wgt_one (h1 s hs), hl]
theorem cSum_one {fs zs : List Int} {lim : Nat} (e : fs.length = 1) (hl : fs.length = zs.length) : cSum fs (lensF zs lim) fs.length = (fs.getD 0 0).toNat := by
  unfold lensF; rw [if_pos (by omega), e]
  unfold cSum rsum rsum; simp
/-- FnBest, its three sums. -/
theorem best_other {fs gs : List Int} {lim : Nat} (h : lensOn fs lim) (h1 : ∀ k, k < fs.length → 1 ≤ fs.getD k 0) (hg : fOk gs = true) (hl : gs.length = fs.length) : costI fs (lensF fs lim) ≤ costI fs (lensF gs lim) := by
  have h' : lensOn gs lim := ⟨hg, h.2.1, h.2.2.1, by rw [hl]; exact h.2.2.2⟩
  rw [lensF_cost h.1 h rfl, lensF_cost h.1 h' hl.symm]
  have hn := (fOk_iff fs).1 h.1
  have hp := h.2.2.2
  rw [Int.toNat_natCast] at hp
  rcases Nat.lt_or_ge 1 fs.length with h2 | h2
  · rw [cSum_len (by omega) rfl h1, cSum_len (by omega) hl.symm h1]
    have hlim := h.2.1
    have hb := lenS_best (lim := lim) (leafL_perm fs) (leafL_lex fs) (by omega) hp (lenS (leafL gs) fs.length lim)
      (fun s hs => by
        have := lenS_range (lim := lim) (leafL_perm gs) (leafL_lex gs) (by omega) (by omega) (by rw [hl]; exact hp) s (by rw [hl]; exact hs)
        rw [hl] at this; exact this)
      (Nat.le_of_eq (by
        have := lenS_kraft (lim := lim) (leafL_perm gs) (leafL_lex gs) (by omega) (by omega) (by rw [hl]; exact hp) lim (Nat.le_refl _)
        rw [hl] at this; exact this))
    exact Int.ofNat_le.2 hb
  · rw [cSum_one (by omega) rfl, cSum_one (by omega) hl.symm]; exact Int.le_refl _
theorem best_wider {fs : List Int} {lim : Nat} (h : lensOn fs lim) (h1 : ∀ k, k < fs.length → 1 ≤ fs.getD k 0) (hlt : lim < 20) : lensOn fs (lim + 1 : Nat) ∧ costI fs (lensF fs (lim + 1)) ≤ costI fs (lensF fs lim) := by
  have hp := h.2.2.2
  have hlim := h.2.1
  rw [Int.toNat_natCast] at hp
  have h' : lensOn fs (lim + 1 : Nat) := ⟨h.1, by omega, by omega, by rw [Int.toNat_natCast, Nat.pow_succ]; omega⟩
  refine ⟨h', ?_⟩
  rw [lensF_cost h.1 h rfl, lensF_cost h.1 h' rfl]
  have hn := (fOk_iff fs).1 h.1
  rcases Nat.lt_or_ge 1 fs.length with h2 | h2
  · rw [cSum_len (by omega) rfl h1, cSum_len (by omega) rfl h1]
    exact Int.ofNat_le.2 (lenS_wider (leafL_perm fs) (leafL_lex fs) (by omega) (by omega) hp)
  · rw [cSum_one (by omega) rfl, cSum_one (by omega) rfl]; exact Int.le_refl _
theorem best_huff {fs : List Int} {lim c : Nat} (h : lensOn fs lim) (h1 : ∀ k, k < fs.length → 1 ≤ fs.getD k 0) (hc : HuffIs fs c) : (c : Int) ≤ costI fs (lensF fs lim) ∧ (lim = 20 → fs.length ≤ 20 → costI fs (lensF fs lim) = c) := by
  have hp := h.2.2.2
  have hlim := h.2.1
  rw [Int.toNat_natCast] at hp
  rw [lensF_cost h.1 h rfl]
  have hn := (fOk_iff fs).1 h.1
  rcases Nat.lt_or_ge 1 fs.length with h2 | h2
  · rw [cSum_len (by omega) rfl h1]
    have hlo := lenS_huff (leafL_perm fs) (leafL_lex fs) (by omega) (by omega) hp (hc.2.1 (by omega))
    refine ⟨Int.ofNat_le.2 hlo, fun hl hle => ?_⟩
    have hup := lenS_huff_up (lim := lim) (leafL_perm fs) (leafL_lex fs) (by omega) (by omega) hp (hc.2.1 (by omega))
    exact congrArg Int.ofNat (Nat.le_antisymm hup hlo)
  · have e : fs.length = 1 := by omega
    rw [cSum_one e rfl]
    have hc1 := hc.1 e
    have := wgt_one (h1 0 (by omega))
    rw [this] at hc1
    exact ⟨by omega, fun _ _ => by omega⟩
/-- Huffman's sum is one number. -/
theorem huff_one {fs : List Int} {c c' : Nat} (hf : fOk fs = true) (h : HuffIs fs c) (h' : HuffIs fs c') : c = c' := by
  have hn := (fOk_iff fs).1 hf
  rcases Nat.lt_or_ge 1 fs.length with h2 | h2
  · exact huff_same (h.2.1 (by omega)) (h'.2.1 (by omega)) (List.Perm.refl _)
  · rw [h.1 (by omega), h'.1 (by omega)]
/-- FnOften. -/
theorem often {fs : List Int} {lim : Nat} (h : lensOn fs lim) (i k : Nat) (hi : i < fs.length) (hk : k < fs.length) (h1 : fs.getD k 0 < fs.getD i 0) (h2 : 1 < fs.getD i 0) : (lensF fs lim).getD i 0 ≤ (lensF fs lim).getD k 0 := by
  have hn := (fOk_iff fs).1 h.1
  rcases Nat.lt_or_ge 1 fs.length with h3 | h3
  · rw [lensF_get (by omega) lim i hi, lensF_get (by omega) lim k hk]
    refine Int.ofNat_le.2 (lenS_often (leafL_perm fs) (leafL_lex fs) i k hi hk ?_)
    have := hn.2.2 k hk
    rw [wgt_one (by omega : 1 ≤ fs.getD i 0)]
    unfold wgt
    split <;> omega
  · have : i = 0 := by omega
    have : k = 0 := by omega
    subst_vars
    exact Int.le_refl _
theorem lensF_wide {zs : List Int} {lim : Nat} (h : lensOn zs lim) : ∀ x ∈ lensF zs lim, -9223372036854775808 ≤ x ∧ x ≤ 9223372036854775807 := by
  intro x hx
  obtain ⟨j, hj, e⟩ := mem_getD hx
  rw [lensF_len] at hj
  have := lensF_range h j hj
  have := h.2.2.1
  omega
end Go.Proofs.Ytaaahmfkdiogkaa
namespace Go.Proofs.Ytaaahmfkdiogkaa
set_option linter.unusedVariables false
set_option linter.unusedSimpArgs false

def grp (n : Nat) : Nat := (n + 9) / 10
theorem grp_lt {i n : Nat} (h : i < n) : i / 10 < grp n := by unfold grp; omega
theorem grp_le (n : Nat) : grp n ≤ n := by unfold grp; omega
theorem grp_pos {n : Nat} : 0 < grp n ↔ 0 < n := by unfold grp; omega
/-- Symbol i, of the first m, is s and lies in a group of table t. -/
def inT (S G : List Int) (t s : Nat) (i : Nat) : Bool := decide (G.getD (i / 10) 0 = (t : Int)) && decide (S.getD i 0 = (s : Int))
def frqN (S G : List Int) (t m s : Nat) : Nat := (List.range m).countP (inT S G t s)
theorem frqN_succ (S G : List Int) (t m s : Nat) : frqN S G t (m + 1) s = frqN S G t m s + if inT S G t s m = true then 1 else 0 := by
  unfold frqN
  rw [List.range_succ, List.countP_append, List.countP_singleton]
theorem frqN_le (S G : List Int) (t m s : Nat) : frqN S G t m s ≤ m := by
  unfold frqN
  have := List.countP_le_length (p := inT S G t s) (l := List.range m)
  rwa [List.length_range] at this
/-- The frequencies of the symbols in the groups of table t. -/
def frqL (S G : List Int) (t n : Nat) : List Int := (List.range n).map fun s => (frqN S G t S.length s : Int)
theorem frqL_len (S G : List Int) (t n : Nat) : (frqL S G t n).length = n := by unfold frqL; simp
/-- The tables of an assignment. -/
def tabL (S G : List Int) (n k : Nat) : List (List Int) := (List.range k).map fun t => lensF (frqL S G t n) 20
theorem tabL_len (S G : List Int) (n k : Nat) : (tabL S G n k).length = k := by unfold tabL; simp
theorem tabL_get (S G : List Int) (n k t : Nat) (h : t < k) : (tabL S G n k).getD t [] = lensF (frqL S G t n) 20 := by
  unfold tabL; simp [List.getD_eq_getElem?_getD, h]
/-- The bits of the symbols from a on, c of them at most, with lengths l. -/
def bitF (S l : List Int) (a : Nat) : Nat → Int
  | 0 => 0
  | c + 1 => bitF S l a c + if a + c < S.length then l.getD (S.getD (a + c) 0).toNat 0 else 0
def bitG (S l : List Int) (g : Nat) : Int := bitF S l (10 * g) 10
/-- The first of the first k tables that needs the fewest bits for group g. -/
def bstN (S : List Int) (T : List (List Int)) (g : Nat) : Nat → Nat
  | 0 => 0
  | 1 => 0
  | k + 2 => if bitG S (T.getD (k + 1) []) g < bitG S (T.getD (bstN S T g (k + 1)) []) g then k + 1 else bstN S T g (k + 1)
theorem bstN_lt (S : List Int) (T : List (List Int)) (g : Nat) : ∀ k, 0 < k → bstN S T g k < k
  | 0, h => by omega
  | 1, _ => by unfold bstN; omega
  | k + 2, _ => by
    have := bstN_lt S T g (k + 1) (by omega)
    unfold bstN
    split <;> omega
def chN (S : List Int) (T : List (List Int)) : List Nat := (List.range (grp S.length)).map fun g => bstN S T g T.length
theorem chN_len (S : List Int) (T : List (List Int)) : (chN S T).length = grp S.length := by unfold chN; simp
def chL (S : List Int) (T : List (List Int)) : List Int := (chN S T).map fun (x : Nat) => (x : Int)
def sel0 (S : List Int) (k : Nat) : List Int := (List.range (grp S.length)).map fun i => ((i * k / grp S.length : Nat) : Int)
def sel1 (S : List Int) (n k : Nat) : List Int := chL S (tabL S (sel0 S k) n k)
def sel2 (S : List Int) (n k : Nat) : List Int := chL S (tabL S (sel1 S n k) n k)
def tab2 (S : List Int) (n k : Nat) : List (List Int) := tabL S (sel2 S n k) n k
end Go.Proofs.Ytaaahmfkdiogkaa
namespace Go.Proofs.Ytaaahmfkdiogkaa
set_option linter.unusedVariables false
set_option linter.unusedSimpArgs false
open Go.RowKit

theorem own_only {w w' : World} {base g : Nat} {e : TypeId} {size : Nat} {v : Value} {n : Nat} {xs : List Value} (h : w.ownsRow base e size v n xs) (ho : Only g w w') (hg : g < base) : w'.ownsRow base e size v n xs :=
  h.kept (row := some g) ho (.inr (own_ne h hg).symm)
theorem Cur.grown {w w' : World} {g B : Nat} {row : Option Nat} (h : Cur w g B) (hg : w.grownBy w' row) (hr : ∀ k, row = some k → g < k) : Cur w' g B := by
  have hl := h.lt
  refine h.below (B' := g + 1) ⟨hg.os, hg.tape, hg.output, hg.size, fun i hi => hg.block i (by omega) (fun e => by have := hr i e.symm; omega)⟩ (by omega)
theorem Cur.alloc {w : World} {g B : Nat} (h : Cur w g B) (o : Obj) : Cur (w.alloc o) g B := h.below (B' := w.heap.size) ((Below.refl _ _).alloc (Nat.le_refl _) o) h.lt
theorem Cur.store {w : World} {g B : Nat} (h : Cur w g B) {p : Addr} (hp : g < p.block) (u : Value) : Cur (w.setCell p u) g B := h.below (B' := g + 1) ((Below.refl _ _).setCell hp u) (by omega)
theorem Cur.drew {w : World} {g B : Nat} (h : Cur w g B) : Cur w.drew g B := h
theorem Cur.drewN {w : World} {g B : Nat} (h : Cur w g B) (n : Nat) : Cur (w.drewN n) g B := h

theorem l1PickInt_any (g B gl n c : Nat) (zs : List Int) (w : World) (hcr : Cur w g B) (hn : 0 < n) (hn2 : n ≤ 1000) (hne : gl ≠ g) (hz : ∀ j, j < n → w.cell? ⟨gl, j, none⟩ = some (.int .i64 (zs.getD j 0))) :
    Calls Try.prog 93 #[.pointer (some ⟨g, 0, none⟩), .slice (some ⟨gl, 0, none⟩) n c] w fun e w' => ∃ j : Nat, j < n ∧ e = .returned (.int .i64 (zs.getD j 0)) ∧ Cur w' g B ∧ Only g w w' := by
  have hgll : gl < w.heap.size := by have := cell_lt (hz 0 hn); simpa using this
  go_enter Try.func93, Try.ntmps93
  go_wp2_with fail
  refine (l1Below_any g B _ _ hcr (by omega)).mono ?_
  rintro e w1 ⟨r, rfl, hr0, hr1, _, hc1, hO⟩
  obtain ⟨j, rfl⟩ : ∃ j : Nat, r = j := ⟨r.toNat, by omega⟩
  have hjn : j < n := by have := hr1 (by omega); omega
  have hcj : w1.cell? ⟨gl, j, none⟩ = some (.int .i64 (zs.getD j 0)) := by rw [(ocell hO).1 gl j hgll hne]; exact hz j hjn
  clear hz hr1
  go_wp2
  go_ret
  refine ⟨j, hjn, ?_, hc1, hO⟩
  rw [List.getD_eq_getElem?_getD]
  rfl
end Go.Proofs.Ytaaahmfkdiogkaa
namespace Go.Proofs.Ytaaahmfkdiogkaa
set_option linter.unusedVariables false
set_option linter.unusedSimpArgs false
open Go.RowKit

theorem specLens_on (a : Option Addr) (cap B lim : Nat) (zs : List Int) (w : World) (hz : Ints w B a zs) (hB : B ≤ w.heap.size) (h : lensOn zs lim) :
    Calls Try.prog 96 #[.slice a zs.length cap, .int .i64 lim] w fun e w' => ∃ v, e = .returned (.tuple #[v, .bool true]) ∧ w'.ownsRow w.heap.size 3 1 v zs.length (intsV (lensF zs lim)) ∧ Below w.heap.size w w' := by
  obtain ⟨hf, h1, h20, hp⟩ := h
  rw [Int.toNat_natCast] at hp
  have hn := (fOk_iff zs).1 hf
  by_cases e1 : zs.length = 1
  · refine (specLens_one a cap B lim zs w hz hB hf (by omega) (by omega) e1).mono ?_
    rintro e w' ⟨rfl, rfl⟩
    refine ⟨_, rfl, ?_, (Below.refl _ _).alloc (Nat.le_refl _) _⟩
    have e2 : lensF zs lim = [1] := by unfold lensF; rw [if_pos e1]
    rw [e2, e1]
    exact World.ownsRow_lit w #[.int .i64 1] 1 (Nat.le_refl _) (by decide) rfl
  · refine (specLens_yes a cap B lim zs w hz hB hf (by omega) (by omega) (by omega) hp).mono ?_
    rintro e w' ⟨v, L, rfl, hL, hs, hown, hb⟩
    rw [lensF_nats hL hs (by omega)] at hown
    exact ⟨v, rfl, hown, hb⟩

end Go.Proofs.Ytaaahmfkdiogkaa
namespace Go.Proofs.Ytaaahmfkdiogkaa
set_option linter.unusedVariables false
set_option linter.unusedSimpArgs false

/-- The codes of the first t tables. -/
def cdT (T : List (List Int)) (t : Nat) : List (List Int) := (List.range t).map fun j => ints (cdL (T.getD j []))
theorem cdT_zero (T : List (List Int)) : cdT T 0 = [] := rfl
theorem cdT_succ (T : List (List Int)) (t : Nat) : cdT T (t + 1) = cdT T t ++ [ints (cdL (T.getD t []))] := by unfold cdT; rw [List.range_succ, List.map_append]; rfl
theorem cdT_len (T : List (List Int)) (t : Nat) : (cdT T t).length = t := by unfold cdT; simp
theorem cdT_get (T : List (List Int)) (t j : Nat) (h : j < t) : (cdT T t).getD j [] = ints (cdL (T.getD j [])) := by
  unfold cdT; simp [List.getD_eq_getElem?_getD, h]
/-- The table of symbol i. -/
def tabOf (T : List (List Int)) (G : List Int) (i : Nat) : List Int := T.getD (G.getD (i / 10) 0).toNat []
/-- The bits of the first i symbols, each with the table of its group. -/
def cpF (S : List Int) (T : List (List Int)) (G : List Int) : Nat → List Nat
  | 0 => []
  | i + 1 => cpF S T G i ++ symBits1 (tabOf T G i) (S.getD i 0).toNat
theorem cpF_lt (S : List Int) (T : List (List Int)) (G : List Int) : ∀ i, ∀ b ∈ cpF S T G i, b < 2
  | 0, b, h => by simp [cpF] at h
  | i + 1, b, h => by
    unfold cpF at h
    rw [List.mem_append] at h
    rcases h with h | h
    · exact cpF_lt S T G i b h
    · exact nbits_lt _ _ b h
/-- How many these are. -/
def cpN (S : List Int) (T : List (List Int)) (G : List Int) : Nat → Nat
  | 0 => 0
  | i + 1 => cpN S T G i + lnF (tabOf T G i) (S.getD i 0).toNat
theorem cpF_len (S : List Int) (T : List (List Int)) (G : List Int) : ∀ i, (cpF S T G i).length = cpN S T G i
  | 0 => rfl
  | i + 1 => by unfold cpF cpN; rw [List.length_append, cpF_len]; unfold symBits1; rw [nbits_len]
/-- What is asked of the tables and the assignment. -/
structure CdArg (S : List Int) (T : List (List Int)) (G : List Int) (n : Nat) : Prop where
  tab : ∀ j, j < T.length → (T.getD j []).length = n ∧ lOk (T.getD j []) = true
  sel : ∀ g, g < G.length → 0 ≤ G.getD g 0 ∧ G.getD g 0 < (T.length : Int)
  len : G.length = grp S.length
  sym : ∀ k, k < S.length → 0 ≤ S.getD k 0 ∧ S.getD k 0 < (n : Int)
theorem CdArg.of {S : List Int} {T : List (List Int)} {G : List Int} {n : Nat} (h : CdArg S T G n) {i : Nat} (hi : i < S.length) :
    ∃ k x : Nat, k < T.length ∧ x < n ∧ G.getD (i / 10) 0 = (k : Int) ∧ S.getD i 0 = (x : Int) ∧ tabOf T G i = T.getD k [] ∧ i / 10 < G.length := by
  have hg : i / 10 < G.length := by rw [h.len]; exact grp_lt hi
  have h1 := h.sel _ hg
  have h2 := h.sym _ hi
  refine ⟨(G.getD (i / 10) 0).toNat, (S.getD i 0).toNat, by omega, by omega, by omega, by omega, rfl, hg⟩
theorem cpN_le {S : List Int} {T : List (List Int)} {G : List Int} {n : Nat} (h : CdArg S T G n) : ∀ i, i ≤ S.length → cpN S T G i ≤ 20 * i
  | 0, _ => by simp [cpN]
  | i + 1, hi => by
    have ih := cpN_le h i (by omega)
    obtain ⟨k, x, hk, hx, e1, e2, e3, _⟩ := h.of (i := i) (by omega)
    obtain ⟨h1, h2⟩ := h.tab k hk
    unfold cpN
    rw [e3, e2, Int.toNat_natCast]
    have := (lRange_ln (lOk_range h2) x (by omega)).2
    omega
end Go.Proofs.Ytaaahmfkdiogkaa
namespace Go.Proofs.Ytaaahmfkdiogkaa
set_option linter.unusedVariables false
set_option linter.unusedSimpArgs false

/-- From bit a on, where i symbols are read already, the symbols xs are read, up to bit b: the last one is the end, which lies in the last group. -/
inductive Fin12 (s : ByteArray) (T : List (List Int)) (G : List Int) (e : Int) : Nat → Nat → List Nat → Nat → Prop
  | last (a i n x : Nat) (h1 : i < 2000) (h2 : hit (tabOf T G i) s a n x) (h3 : (x : Int) = e) (h4 : grp (i + 1) = G.length) : Fin12 s T G e a i [x] (a + n)
  | more (a i n x : Nat) (xs : List Nat) (b : Nat) (h1 : i < 2000) (h2 : hit (tabOf T G i) s a n x) (h3 : (x : Int) ≠ e) (h4 : Fin12 s T G e (a + n) (i + 1) xs b) : Fin12 s T G e a i (x :: xs) b
theorem Fin12.grp {s : ByteArray} {T : List (List Int)} {G : List Int} {e : Int} {a i : Nat} {xs : List Nat} {b : Nat} (h : Fin12 s T G e a i xs b) : grp (i + xs.length) = G.length ∧ 1 ≤ xs.length ∧ i + xs.length ≤ 2000 := by
  induction h with
  | last a i n x h1 h2 h3 h4 => exact ⟨h4, Nat.le_refl _, h1⟩
  | more a i n x xs b h1 h2 h3 h4 ih =>
    rw [List.length_cons]
    have e : i + (xs.length + 1) = i + 1 + xs.length := by omega
    rw [e]
    exact ⟨ih.1, by omega, ih.2.2⟩
theorem Fin12.room {s : ByteArray} {T : List (List Int)} {G : List Int} {e : Int} {a i : Nat} {xs : List Nat} {b : Nat} (h : Fin12 s T G e a i xs b) : i < 2000 ∧ i / 10 < G.length := by
  have h1 := h.grp
  have h2 := h1.1
  unfold Go.Proofs.Ytaaahmfkdiogkaa.grp at h2
  omega
theorem Fin12.hit {s : ByteArray} {T : List (List Int)} {G : List Int} {e : Int} {a i : Nat} {xs : List Nat} {b : Nat} (h : Fin12 s T G e a i xs b) : ∃ n x, Go.Proofs.Ytaaahmfkdiogkaa.hit (tabOf T G i) s a n x := by
  cases h with
  | last _ _ n x h1 h2 h3 h4 => exact ⟨_, _, h2⟩
  | more _ _ n x xs _ h1 h2 h3 h4 => exact ⟨_, _, h2⟩
/-- What is asked of the tables and of the groups. -/
structure GdArg (T : List (List Int)) (G : List Int) (n : Nat) : Prop where
  tab : ∀ j, j < T.length → (T.getD j []).length = n ∧ lOk (T.getD j []) = true
  sel : ∀ g, g < G.length → 0 ≤ G.getD g 0 ∧ G.getD g 0 < (T.length : Int)
theorem GdArg.of {T : List (List Int)} {G : List Int} {n : Nat} (h : GdArg T G n) {i : Nat} (hi : i / 10 < G.length) :
    ∃ k : Nat, k < T.length ∧ G.getD (i / 10) 0 = (k : Int) ∧ tabOf T G i = T.getD k [] := by
  have h1 := h.sel _ hi
  exact ⟨(G.getD (i / 10) 0).toNat, by omega, by omega, rfl⟩
theorem GdArg.ok {T : List (List Int)} {G : List Int} {n : Nat} (h : GdArg T G n) {i : Nat} (hi : i / 10 < G.length) : lOk (tabOf T G i) = true := by
  obtain ⟨k, hk, _, e⟩ := h.of hi
  rw [e]; exact (h.tab k hk).2
/-- One step further: the symbol x, not the end. -/
theorem fin_more {s : ByteArray} {T : List (List Int)} {G : List Int} {e : Int} {at0 c i n x : Nat} {D : List Nat} (hG : lOk (tabOf T G i) = true)
    (h : ∀ xs b, Fin12 s T G e at0 0 xs b ↔ ∃ zs, xs = D ++ zs ∧ Fin12 s T G e c i zs b) (h1 : i < 2000) (hh : hit (tabOf T G i) s c n x) (hx : (x : Int) ≠ e) :
    ∀ xs b, Fin12 s T G e at0 0 xs b ↔ ∃ zs, xs = (D ++ [x]) ++ zs ∧ Fin12 s T G e (c + n) (i + 1) zs b := by
  intro xs b
  rw [h]
  constructor
  · rintro ⟨zs, rfl, hz⟩
    cases hz with
    | last _ _ n2 x2 h1 h2 h3 h4 =>
      obtain ⟨_, rfl⟩ := hit_one hG hh h2
      exact absurd h3 hx
    | more _ _ n2 x2 ys _ h1b h2 h3 h4 =>
      obtain ⟨rfl, rfl⟩ := hit_one hG hh h2
      exact ⟨ys, by simp, h4⟩
  · rintro ⟨zs, rfl, hz⟩
    exact ⟨x :: zs, by simp, .more _ _ _ _ _ _ h1 hh hx hz⟩
theorem fin_start (s : ByteArray) (T : List (List Int)) (G : List Int) (e : Int) (at0 : Nat) : ∀ xs b, Fin12 s T G e at0 0 xs b ↔ ∃ zs, xs = [] ++ zs ∧ Fin12 s T G e at0 0 zs b := fun xs b => ⟨fun h => ⟨xs, rfl, h⟩, fun ⟨zs, e, h⟩ => by subst e; exact h⟩
/-- The end, in the last group. -/
theorem fin_last {s : ByteArray} {T : List (List Int)} {G : List Int} {e : Int} {at0 c i n x : Nat} {D : List Nat}
    (h : ∀ xs b, Fin12 s T G e at0 0 xs b ↔ ∃ zs, xs = D ++ zs ∧ Fin12 s T G e c i zs b) (h1 : i < 2000) (hh : hit (tabOf T G i) s c n x) (hx : (x : Int) = e) (hg : grp (i + 1) = G.length) : Fin12 s T G e at0 0 (D ++ [x]) (c + n) :=
  (h _ _).2 ⟨[x], rfl, .last _ _ _ _ h1 hh hx hg⟩
/-- The end, in another group. -/
theorem fin_other {s : ByteArray} {T : List (List Int)} {G : List Int} {e : Int} {at0 c i n x : Nat} {D : List Nat} (hG : lOk (tabOf T G i) = true)
    (h : ∀ xs b, Fin12 s T G e at0 0 xs b ↔ ∃ zs, xs = D ++ zs ∧ Fin12 s T G e c i zs b) (hh : hit (tabOf T G i) s c n x) (hx : (x : Int) = e) (hg : grp (i + 1) ≠ G.length) : ∀ xs b, ¬ Fin12 s T G e at0 0 xs b := by
  intro xs b hf
  obtain ⟨zs, _, hz⟩ := (h _ _).1 hf
  cases hz with
  | last _ _ n2 x2 h1 h2 h3 h4 => exact hg h4
  | more _ _ n2 x2 ys _ h1b h2 h3 h4 =>
    obtain ⟨_, rfl⟩ := hit_one hG hh h2
    exact h3 hx
/-- No code. -/
theorem fin_none {s : ByteArray} {T : List (List Int)} {G : List Int} {e : Int} {at0 c i : Nat} {D : List Nat}
    (h : ∀ xs b, Fin12 s T G e at0 0 xs b ↔ ∃ zs, xs = D ++ zs ∧ Fin12 s T G e c i zs b) (hh : ∀ n x, ¬ hit (tabOf T G i) s c n x) : ∀ xs b, ¬ Fin12 s T G e at0 0 xs b := by
  intro xs b hf
  obtain ⟨zs, _, hz⟩ := (h _ _).1 hf
  obtain ⟨n, x, h2⟩ := hz.hit
  exact hh _ _ h2
/-- No room. -/
theorem fin_full {s : ByteArray} {T : List (List Int)} {G : List Int} {e : Int} {at0 c i : Nat} {D : List Nat}
    (h : ∀ xs b, Fin12 s T G e at0 0 xs b ↔ ∃ zs, xs = D ++ zs ∧ Fin12 s T G e c i zs b) (hh : ¬ (i < 2000 ∧ i / 10 < G.length)) : ∀ xs b, ¬ Fin12 s T G e at0 0 xs b := by
  intro xs b hf
  obtain ⟨zs, _, hz⟩ := (h _ _).1 hf
  exact hh hz.room
theorem Fin12.lt {s : ByteArray} {T : List (List Int)} {G : List Int} {e : Int} {n : Nat} (hG : GdArg T G n) {a i : Nat} {xs : List Nat} {b : Nat} (h : Fin12 s T G e a i xs b) : ∀ x ∈ xs, x < n := by
  induction h with
  | last a i m x h1 h2 h3 h4 =>
    have hr : i / 10 < G.length := (Fin12.last a i m x h1 h2 h3 h4).room.2
    obtain ⟨k, hk, _, e1⟩ := hG.of hr
    intro y hy
    rw [List.mem_singleton] at hy
    subst hy
    have := h2.1
    rw [e1, (hG.tab k hk).1] at this
    exact this
  | more a i m x xs b h1 h2 h3 h4 ih =>
    have hr : i / 10 < G.length := (Fin12.more a i m x xs b h1 h2 h3 h4).room.2
    obtain ⟨k, hk, _, e1⟩ := hG.of hr
    intro y hy
    rcases List.mem_cons.1 hy with rfl | hy
    · have := h2.1
      rw [e1, (hG.tab k hk).1] at this
      exact this
    · exact ih y hy
theorem Fin12.le {s : ByteArray} {T : List (List Int)} {G : List Int} {e : Int} {a i : Nat} {xs : List Nat} {b : Nat} (h : Fin12 s T G e a i xs b) : b ≤ 8 * s.size := by
  induction h with
  | last a i m x h1 h2 h3 h4 => exact h2.2.2.1
  | more a i m x xs b h1 h2 h3 h4 ih => exact ih
/-- There is one such reading at most. -/
theorem Fin12.one {s : ByteArray} {T : List (List Int)} {G : List Int} {e : Int} {n : Nat} (hG : GdArg T G n) {a i : Nat} {xs ys : List Nat} {b c : Nat} (h : Fin12 s T G e a i xs b) (h' : Fin12 s T G e a i ys c) : xs = ys ∧ b = c := by
  induction h generalizing ys with
  | last a i m x h1 h2 h3 h4 =>
    have hl := hG.ok h'.room.2
    cases h' with
    | last _ _ m2 x2 k1 k2 k3 k4 =>
      obtain ⟨rfl, rfl⟩ := hit_one hl h2 k2
      exact ⟨rfl, rfl⟩
    | more _ _ m2 x2 zs _ k1 k2 k3 k4 =>
      obtain ⟨rfl, rfl⟩ := hit_one hl h2 k2
      exact absurd h3 k3
  | more a i m x xs b h1 h2 h3 h4 ih =>
    have hl := hG.ok h'.room.2
    cases h' with
    | last _ _ m2 x2 k1 k2 k3 k4 =>
      obtain ⟨rfl, rfl⟩ := hit_one hl h2 k2
      exact absurd k3 h3
    | more _ _ m2 x2 zs _ k1 k2 k3 k4 =>
      obtain ⟨rfl, rfl⟩ := hit_one hl h2 k2
      obtain ⟨rfl, rfl⟩ := ih k4
      exact ⟨rfl, rfl⟩
end Go.Proofs.Ytaaahmfkdiogkaa
namespace Go.Proofs.Ytaaahmfkdiogkaa
set_option linter.unusedVariables false
set_option linter.unusedSimpArgs false

/-! ### items -/
def ltI (a b : Item) : Bool := decide (a.1 < b.1)
theorem mrg_lex (L M : List Item) (hL : LexS L) (hM : LexS M) (h : ∀ x ∈ L, ∀ y ∈ M, x.2 < y.2) : LexS (mrg ltI L M) := by
  induction L, M using mrg.induct (lt := ltI) with
  | case1 M => rw [mrg_nil]; exact hM
  | case2 x L => rw [mrg_nil']; exact hL
  | case3 x L y M hc ih =>
    rw [mrg, if_pos hc]
    have hM' := List.pairwise_cons.1 hM
    unfold LexS at *
    refine List.pairwise_cons.2 ⟨fun z hz => ?_, ih hL hM'.2 (fun a ha b hb => h a ha b (List.mem_cons_of_mem _ hb))⟩
    rcases List.mem_append.1 ((mrg_perm _ _ _).mem_iff.1 hz) with hz | hz
    · have hy : y.1 < x.1 := by simpa [ltI] using hc
      rcases List.mem_cons.1 hz with rfl | hz
      · exact .inl hy
      · rcases (List.pairwise_cons.1 hL).1 z hz with h1 | h1 <;> exact .inl (by omega)
    · exact hM'.1 z hz
  | case4 x L y M hc ih =>
    rw [mrg, if_neg hc]
    have hL' := List.pairwise_cons.1 hL
    unfold LexS at *
    refine List.pairwise_cons.2 ⟨fun z hz => ?_, ih hL'.2 hM (fun a ha b hb => h a (List.mem_cons_of_mem _ ha) b hb)⟩
    rcases List.mem_append.1 ((mrg_perm _ _ _).mem_iff.1 hz) with hz | hz
    · exact hL'.1 z hz
    · have hx : x.1 ≤ y.1 := by simpa [ltI] using hc
      have hs := h x (by simp) z hz
      rcases List.mem_cons.1 hz with rfl | hz
      · rcases Nat.lt_or_ge x.1 z.1 with h1 | h1
        · exact .inl h1
        · exact .inr ⟨by omega, hs⟩
      · rcases (List.pairwise_cons.1 hM).1 z hz with h1 | h1
        · exact .inl (by omega)
        · rcases Nat.lt_or_ge x.1 z.1 with h2 | h2
          · exact .inl h2
          · exact .inr ⟨by omega, hs⟩
theorem srt_lex (L : List Item) (h : L.Pairwise (fun a b => a.2 < b.2)) : LexS (srt ltI L) := by
  induction L using srt.induct with
  | case1 L h2 =>
    rw [srt_small ltI L h2]
    match L, h2 with
    | [], _ => exact List.Pairwise.nil
    | [x], _ => exact List.pairwise_singleton _ _
  | case2 L h2 ih1 ih2 =>
    rw [srt_big ltI L h2]
    rw [← List.take_append_drop (L.length / 2) L, List.pairwise_append] at h
    refine mrg_lex _ _ (ih1 h.1) (ih2 h.2.1) ?_
    intro x hx y hy
    exact h.2.2 x ((srt_perm _ _).mem_iff.1 hx) y ((srt_perm _ _).mem_iff.1 hy)
theorem items_asc (zs : List Int) (k : Nat) : (items zs k).Pairwise (fun a b => a.2 < b.2) := by
  unfold items
  rw [List.pairwise_map]
  exact List.pairwise_lt_range.imp fun {a b} h => by show (a : Int) < b; omega
theorem srt_items (zs : List Int) : srt ltI (items zs zs.length) = leafL zs := leafL_eq (srt_perm _ _) (srt_lex _ (items_asc zs _))
/-- The packages of a row, as items. -/
def pks (R : List Item) : List Item := (packs R).map fun p => (p, (-1 : Int))
theorem pks_len (R : List Item) : (pks R).length = R.length / 2 := by simp [pks, packs_len]
theorem mrg_packs (L : List Item) (P : List Nat) : mrg ltI L (P.map fun p => (p, (-1 : Int))) = mergeM L P := by
  induction L, P using mergeM.induct with
  | case1 L => rw [mergeM]; exact mrg_nil' _ _
  | case2 p P ih => rw [mergeM, mrg_nil]; rw [mrg_nil] at ih; rw [← ih]; rfl
  | case3 x L p P h ih =>
    rw [mergeM, if_pos h, List.map_cons, mrg, if_neg (by simp [ltI]; omega), ← ih]; rfl
  | case4 x L p P h ih =>
    rw [mergeM, if_neg h, List.map_cons, mrg, if_pos (by simp [ltI]; omega), ← ih]
theorem mrg_pks (L R : List Item) : mrg ltI L (pks R) = mergeM L (packs R) := mrg_packs L _
theorem pks_get (R : List Item) (p : Nat) (h : 2 * p + 1 < R.length) : (pks R)[p]'(by rw [pks_len]; omega) = (R[2 * p].1 + R[2 * p + 1].1, -1) := by
  have h1 := packs_get R p h
  have hp : p < (packs R).length := by rw [packs_len]; omega
  rw [← List.getElem_cons_drop (h := hp)] at h1
  injection h1 with h1 h2
  unfold pks
  rw [List.getElem_map, h1]

/-! ### numbers -/
def ltN (a b : Nat) : Bool := decide (a < b)
theorem mrg_nat (L M : List Nat) (hL : Sorted L) (hM : Sorted M) : Sorted (mrg ltN L M) := by
  induction L, M using mrg.induct (lt := ltN) with
  | case1 M => rw [mrg_nil]; exact hM
  | case2 x L => rw [mrg_nil']; exact hL
  | case3 x L y M hc ih =>
    rw [mrg, if_pos hc]
    have hM' := List.pairwise_cons.1 hM
    unfold Sorted at *
    refine List.pairwise_cons.2 ⟨fun z hz => ?_, ih hL hM'.2⟩
    have hy : y < x := by simpa [ltN] using hc
    rcases List.mem_append.1 ((mrg_perm _ _ _).mem_iff.1 hz) with hz | hz
    · rcases List.mem_cons.1 hz with rfl | hz
      · omega
      · have := (List.pairwise_cons.1 hL).1 z hz; omega
    · exact hM'.1 z hz
  | case4 x L y M hc ih =>
    rw [mrg, if_neg hc]
    have hL' := List.pairwise_cons.1 hL
    unfold Sorted at *
    refine List.pairwise_cons.2 ⟨fun z hz => ?_, ih hL'.2 hM⟩
    have hx : x ≤ y := by simpa [ltN] using hc
    rcases List.mem_append.1 ((mrg_perm _ _ _).mem_iff.1 hz) with hz | hz
    · exact hL'.1 z hz
    · rcases List.mem_cons.1 hz with rfl | hz
      · exact hx
      · have := (List.pairwise_cons.1 hM).1 z hz; omega
theorem srt_nat (L : List Nat) : Sorted (srt ltN L) := by
  induction L using srt.induct with
  | case1 L h2 =>
    rw [srt_small ltN L h2]
    match L, h2 with
    | [], _ => exact List.Pairwise.nil
    | [x], _ => exact List.pairwise_singleton _ _
  | case2 L h2 ih1 ih2 => rw [srt_big ltN L h2]; exact mrg_nat _ _ ih1 ih2
/-- A round of Huffman's: the two first of a sorted list. -/
theorem huff_sorted {x y c : Nat} {R : List Nat} (hs : Sorted (x :: y :: R)) (h : Huff (mrg ltN R [x + y]) c) : Huff (x :: y :: R) (x + y + c) := by
  have h1 := List.pairwise_cons.1 hs
  have h2 := List.pairwise_cons.1 h1.2
  exact Huff.two _ x y R _ c (List.Perm.refl _) h1.1 h2.1 ((mrg_perm _ _ _).trans List.perm_append_comm) h
theorem huff_perm {l l' : List Nat} {c : Nat} (h : Huff l c) (hp : l'.Perm l) : Huff l' c := by
  cases h with
  | one x => rw [List.perm_singleton.1 hp]; exact Huff.one x
  | two l x y r r' c hl hx hy hr h => exact Huff.two l' x y r r' c (hp.trans hl) hx hy hr h
theorem sorted_next {x y : Nat} {R : List Nat} (hs : Sorted (x :: y :: R)) : Sorted (mrg ltN R [x + y]) :=
  mrg_nat _ _ (List.pairwise_cons.1 (List.pairwise_cons.1 hs).2).2 (List.pairwise_singleton _ _)
end Go.Proofs.Ytaaahmfkdiogkaa
