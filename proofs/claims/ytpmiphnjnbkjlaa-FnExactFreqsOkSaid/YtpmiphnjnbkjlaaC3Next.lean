/- Chapter 3: the next row of packages (the model). -/
import Derived.Test.YtpmiphnjnbkjlaaC3Leaves
namespace Go.Proofs.Ytpmiphnjnbkjlaa
set_option linter.unusedVariables false
set_option linter.unusedSimpArgs false
open Go.RowKit

theorem packs_get (R : List Item) (p : Nat) (h : 2 * p + 1 < R.length) : (packs R).drop p = (R[2 * p].1 + R[2 * p + 1].1) :: (packs R).drop (p + 1) := by
  induction R using packs.induct generalizing p with
  | case1 a b r ih =>
    cases p with
    | zero => simp [packs]
    | succ p =>
      have := ih p (by simp only [List.length_cons] at h; omega)
      simp only [packs, List.drop_succ_cons]
      rw [this]
      have e1 : (a :: b :: r)[2 * (p + 1)] = r[2 * p]'(by simp only [List.length_cons] at h; omega) := by
        simp only [show 2 * (p + 1) = 2 * p + 1 + 1 by omega, List.getElem_cons_succ]
      have e2 : (a :: b :: r)[2 * (p + 1) + 1] = r[2 * p + 1]'(by simp only [List.length_cons] at h; omega) := by
        simp only [show 2 * (p + 1) + 1 = 2 * p + 1 + 1 + 1 by omega, List.getElem_cons_succ]
      rw [e1, e2]
  | case2 r h2 => cases r with
    | nil => simp at h
    | cons a r => cases r with
      | nil => simp at h
      | cons b r => exact absurd rfl (h2 a b r)
theorem packs_end (R : List Item) (p : Nat) (h : R.length ≤ 2 * p + 1) : (packs R).drop p = [] := List.drop_eq_nil_of_le (by rw [packs_len]; omega)
theorem merge_leaf (L : List Item) (k p0 : Nat) (P : List Nat) (hk : k < L.length) (h : L[k].1 ≤ p0) : mergeM (L.drop k) (p0 :: P) = L[k] :: mergeM (L.drop (k + 1)) (p0 :: P) := by
  rw [← List.getElem_cons_drop (h := hk), mergeM, if_pos h]
theorem merge_pack (L : List Item) (k p0 : Nat) (P : List Nat) (h : ∀ hk : k < L.length, p0 < L[k].1) : mergeM (L.drop k) (p0 :: P) = (p0, -1) :: mergeM (L.drop k) P := by
  rcases Nat.lt_or_ge k L.length with hk | hk
  · rw [← List.getElem_cons_drop (h := hk), mergeM, if_neg (by have := h hk; omega)]
  · rw [List.drop_eq_nil_of_le hk, mergeM]
theorem merge_end (L : List Item) : mergeM L [] = L := by cases L <;> rw [mergeM]

theorem icells_drop (L : List Item) (k : Nat) : icells (L.drop k) = (icells L).drop (k * 2) := by
  induction k generalizing L with
  | zero => rfl
  | succ k ih => cases L with
    | nil => simp [icells]
    | cons x L => rw [show (k + 1) * 2 = k * 2 + 1 + 1 by omega]; simp only [List.drop_succ_cons, icells]; exact ih L
theorem news_from {w : World} {base g n c : Nat} {E : TypeId} {L : List Item} (h : w.ownsRow base E 2 (.slice (some ⟨g, 0, none⟩) n c) n (icells L)) (k : Nat) : ∀ (j : Nat) (u : Value), (icells (L.drop k))[j]? = some u → w.cell? ((⟨g, k * 2, none⟩ : Addr).add j) = some u := by
  intro j u hu
  have e : (⟨g, k * 2, none⟩ : Addr).add j = ⟨g, k * 2 + j, none⟩ := by unfold Addr.add; split <;> simp_all
  rw [icells_drop, List.getElem?_drop] at hu
  have hl := h.1
  have hj : k * 2 + j < n * 2 := by
    rw [← hl]; exact (List.getElem?_eq_some_iff.1 hu).1
  rw [e, h.cellAt _ hj, hu]
theorem own_bel {w w' : World} {base : Nat} {e : TypeId} {size : Nat} {v : Value} {n : Nat} {xs : List Value} (h : w.ownsRow base e size v n xs) (hb : Below w.heap.size w w') : w'.ownsRow base e size v n xs :=
  h.kept (row := none) ⟨hb.os, hb.tape, hb.output, hb.size, fun i hi _ => hb.block i hi⟩ (by
    rcases h.2 with ⟨rfl, _⟩ | ⟨g, _, _, rfl, _⟩
    · exact .inl rfl
    · exact .inr (by simp [Value.ownBlock]))
set_option maxHeartbeats 4000000 in
theorem l3next_any (v1 v2 : Value) (base n r : Nat) (L R : List Item) (w : World) (hn : L.length = n) (hr : R.length = r) (h1 : w.ownsRow base 52 2 v1 n (icells L)) (h2 : w.ownsRow base 52 2 v2 r (icells R))
    (hn0 : 0 < n) (hr0 : 0 < r) (hn2 : n ≤ 260) (hr2 : r ≤ 520) (hw : ∀ x ∈ R, x.1 ≤ 1099511627776) (hwL : ∀ x ∈ L, x.1 ≤ 1099511627776) :
    Calls Try.prog 38 #[v1, v2] w fun e w' => ∃ v, e = .returned v ∧ w'.ownsRow w.heap.size 52 2 v (n + r / 2) (icells (mergeM L (packs R))) ∧ Below w.heap.size w w' := by
  obtain ⟨i0, hi, hz0, hz1, hz2⟩ := info_parts Try.infoItem
  obtain ⟨g1, c1, hv1⟩ := Joins.ownsRow_form h1 hn0
  obtain ⟨g2, c2, hv2⟩ := Joins.ownsRow_form h2 hr0
  subst hv1 hv2
  have H1 := hidden h1
  have H2 := hidden h2
  have hg1 := (h1.lt g1 rfl).2
  have hc1 : n ≤ c1 := by
    rcases h1.2 with ⟨h, _⟩ | ⟨g, cap, cur, h, _, _, h5, _⟩
    · cases h
    · simp only [Value.slice.injEq] at h; omega
  have HNL := hidden hn
  have HRL := hidden hr
  have HW := hidden hw
  have HWL := hidden hwL
  clear hn hr hw hwL h1 h2
  go_enter Try.func38, Try.ntmps38
  go_wp2
  go_loopw [5, 6, 7] (fun vo sk si wr => ∃ (p k : Nat) (O : List Item), 2 * p ≤ r ∧ k ≤ n ∧ si = .int .i64 (2 * (p : Int)) ∧ sk = .int .i64 k ∧ Hid (O ++ mergeM (L.drop k) ((packs R).drop p) = mergeM L (packs R)) ∧ Hid (O.length = k + p) ∧ wr.ownsRow w.heap.size 52 2 vo (k + p) (icells O) ∧ Below w.heap.size w wr) (fun _ _ si _ => r - (intOf si).toNat)
  case atStart => exact ⟨0, 0, [], by omega, by omega, rfl, rfl, hidden (by simp), hidden rfl, World.ownsRow_nil _ _ _ _, Below.refl _ _⟩
  case round =>
    obtain ⟨p, k, O, hp, hk, rfl, rfl, HO, HOl, hown, hbl⟩ := hrel
    have hsz := hbl.size
    have hR := own_bel H2.out hbl
    have hL := own_bel H1.out hbl
    by_cases hlt : 2 * p + 1 < r
    · obtain ⟨x, hx⟩ : ∃ x, R[2 * p]'(by rw [HRL.out]; omega) = x := ⟨_, rfl⟩
      obtain ⟨y, hy⟩ : ∃ y, R[2 * p + 1]'(by rw [HRL.out]; omega) = y := ⟨_, rfl⟩
      have c0 := hR.cellAt (2 * p * 2) (by omega)
      have c1' := hR.cellAt ((2 * p + 1) * 2) (by omega)
      rw [icells_fst R (2 * p) (by rw [HRL.out]; omega), hx] at c0
      rw [icells_fst R (2 * p + 1) (by rw [HRL.out]; omega), hy] at c1'
      have hxm := HW.out x (by rw [← hx]; exact List.getElem_mem _)
      have hym := HW.out y (by rw [← hy]; exact List.getElem_mem _)
      have HP : Hid ((packs R).drop p = (x.1 + y.1) :: (packs R).drop (p + 1)) := hidden (by rw [packs_get R p (by rw [HRL.out]; exact hlt), hx, hy])
      obtain ⟨x1, x2⟩ := x
      obtain ⟨y1, y2⟩ := y
      simp only at c0 c1' hxm hym HP
      clear hx hy
      have hltI : 2 * (p : Int) + 1 < (r : Int) := by omega
      go_wp2
      go_quiet (fail)
      go_wp2
      have hbl2 := bel_drewN hbl nq
      have hown2 : (wr.drewN nq).ownsRow w.heap.size 52 2 u5 (k + p) (icells O) := hown
      rw [HP.out] at HO
      obtain ⟨p0, hp0⟩ : ∃ p0 : Nat, x1 + y1 = p0 := ⟨_, rfl⟩
      have hp0I : (x1 : Int) + (y1 : Int) = (p0 : Int) := by omega
      rw [hp0] at HO
      rw [hp0I]
      have hp0b : p0 ≤ 2199023255552 := by omega
      clear hR hL c0 c1' hown hbl hp0 hp0I HP hxm hym
      generalize wr.drewN nq = ws at hbl2 hown2 ⊢
      go_loopw [5, 6] (fun vo sk wx => ∃ (k' : Nat) (O' : List Item), k ≤ k' ∧ k' ≤ n ∧ sk = .int .i64 k' ∧ Hid (O' ++ mergeM (L.drop k') (p0 :: (packs R).drop (p + 1)) = mergeM L (packs R)) ∧ Hid (O'.length = k' + p) ∧ wx.ownsRow w.heap.size 52 2 vo (k' + p) (icells O') ∧ Below w.heap.size w wx) (fun _ sk _ => n - (intOf sk).toNat)
      case atStart => exact ⟨k, O, Nat.le_refl _, hk, rfl, HO, HOl, hown2, hbl2⟩
      case round =>
        obtain ⟨k', O', hkk, hk', rfl, HO', HOl', hown', hbl'⟩ := hrel
        have hL := own_bel H1.out hbl'
        have hsz' := hbl'.size
        by_cases hin : k' < n
        · obtain ⟨z, hz⟩ : ∃ z, L[k']'(by rw [HNL.out]; exact hin) = z := ⟨_, rfl⟩
          have a0 := hL.cellAt (k' * 2) (by omega)
          have a1 := hL.cellAt (k' * 2 + 1) (by omega)
          rw [icells_fst L k' (by rw [HNL.out]; exact hin), hz] at a0
          rw [icells_snd L k' (by rw [HNL.out]; exact hin), hz] at a1
          have HZ := hidden hz
          obtain ⟨z1, z2⟩ := z
          simp only at a0 a1
          clear hz
          by_cases hle : z1 ≤ p0
          · have HM : Hid ((O' ++ [(z1, z2)]) ++ mergeM (L.drop (k' + 1)) (p0 :: (packs R).drop (p + 1)) = mergeM L (packs R)) := hidden (by
              rw [← HO'.out, merge_leaf L k' p0 _ (by rw [HNL.out]; exact hin) (by rw [HZ.out]; exact hle), HZ.out, List.append_assoc]; rfl)
            go_wp2_with (at_builtin; refine wpList_append_own_at _ rfl _ _ 47 rfl w.heap.size 52 i0 (.agg #[.int .i64 0, .int .i64 0]) 2 16 Try.underlying47 hi hz0 hz1 hz2 rfl (by decide) _ _ _ rfl (hown'.alloc _) ⟨wr.heap.size, 0, none⟩ 1 _ [.int .i64 (z1 : Int), .int .i64 z2] rfl ?da1 ?da2 ?da3 ?da4 ?da5 ?da6 ?_)
            case da1 => exact rfl
            case da2 => exact news_two (g := wr.heap.size) (Has.fresh wr _ _)
            case da3 => exact two_one _ _
            case da4 => unfold maxLen; omega
            case da5 => omega
            case da6 => simp; omega
            intro v3 w3 hown3 hgrow _ _
            have hownN : w3.ownsRow w.heap.size 52 2 v3 (k' + p + 1) (icells (O' ++ [(z1, z2)])) := by rw [icells_append]; exact hown3
            have hblN : Below w.heap.size w w3 := (hbl'.alloc (by omega) _).grown hgrow (by simp; omega) (fun b hb => (hown'.lt b hb).1)
            clear hown3 hgrow hL hown' hbl'
            go_wp2
            go_roundw
            case rel => exact ⟨k' + 1, O' ++ [(z1, z2)], by omega, by omega, by go_num, HM, hidden (by rw [List.length_append, HOl'.out]; simp; omega), by rw [show k' + 1 + p = k' + p + 1 by omega]; exact hownN, hblN⟩
            case measure => simp [intOf]; omega
          · have HM : Hid ((O' ++ [(p0, -1)]) ++ mergeM (L.drop k') ((packs R).drop (p + 1)) = mergeM L (packs R)) := hidden (by
              rw [← HO'.out, merge_pack L k' p0 _ (fun hk2 => by rw [HZ.out]; show p0 < z1; omega), List.append_assoc]; rfl)
            go_wp2_with (at_builtin; refine wpList_append_own_at _ rfl _ _ 47 rfl w.heap.size 52 i0 (.agg #[.int .i64 0, .int .i64 0]) 2 16 Try.underlying47 hi hz0 hz1 hz2 rfl (by decide) _ _ _ rfl (hown'.alloc _) ⟨wr.heap.size, 0, none⟩ 1 _ [.int .i64 (p0 : Int), .int .i64 (-1)] rfl ?db1 ?db2 ?db3 ?db4 ?db5 ?db6 ?_)
            case db1 => exact rfl
            case db2 => exact news_two (g := wr.heap.size) (Has.fresh wr _ _)
            case db3 => exact two_one _ _
            case db4 => unfold maxLen; omega
            case db5 => omega
            case db6 => simp; omega
            intro v3 w3 hown3 hgrow _ _
            have hownN : w3.ownsRow w.heap.size 52 2 v3 (k' + p + 1) (icells (O' ++ [(p0, -1)])) := by rw [icells_append]; exact hown3
            have hblN : Below w.heap.size w w3 := (hbl'.alloc (by omega) _).grown hgrow (by simp; omega) (fun b hb => (hown'.lt b hb).1)
            clear hown3 hgrow hL hown' hbl'
            go_wp2
            exact ⟨⟨p + 1, k', O' ++ [(p0, -1)], by omega, hk', by go_num, rfl, HM, hidden (by rw [List.length_append, HOl'.out]; simp; omega), by rw [show k' + (p + 1) = k' + p + 1 by omega]; exact hownN, hblN⟩, by simp [intOf]; omega⟩
        · have HM : Hid ((O' ++ [(p0, -1)]) ++ mergeM (L.drop k') ((packs R).drop (p + 1)) = mergeM L (packs R)) := hidden (by
            rw [← HO'.out, merge_pack L k' p0 _ (fun hk2 => by rw [HNL.out] at hk2; exact absurd hk2 hin), List.append_assoc]; rfl)
          go_wp2_with (at_builtin; refine wpList_append_own_at _ rfl _ _ 47 rfl w.heap.size 52 i0 (.agg #[.int .i64 0, .int .i64 0]) 2 16 Try.underlying47 hi hz0 hz1 hz2 rfl (by decide) _ _ _ rfl (hown'.alloc _) ⟨wr.heap.size, 0, none⟩ 1 _ [.int .i64 (p0 : Int), .int .i64 (-1)] rfl ?dc1 ?dc2 ?dc3 ?dc4 ?dc5 ?dc6 ?_)
          case dc1 => exact rfl
          case dc2 => exact news_two (g := wr.heap.size) (Has.fresh wr _ _)
          case dc3 => exact two_one _ _
          case dc4 => unfold maxLen; omega
          case dc5 => omega
          case dc6 => simp; omega
          intro v3 w3 hown3 hgrow _ _
          have hownN : w3.ownsRow w.heap.size 52 2 v3 (k' + p + 1) (icells (O' ++ [(p0, -1)])) := by rw [icells_append]; exact hown3
          have hblN : Below w.heap.size w w3 := (hbl'.alloc (by omega) _).grown hgrow (by simp; omega) (fun b hb => (hown'.lt b hb).1)
          clear hown3 hgrow hL hown' hbl'
          go_wp2
          exact ⟨⟨p + 1, k', O' ++ [(p0, -1)], by omega, hk', by go_num, rfl, HM, hidden (by rw [List.length_append, HOl'.out]; simp; omega), by rw [show k' + (p + 1) = k' + p + 1 by omega]; exact hownN, hblN⟩, by simp [intOf]; omega⟩
    · have hend := packs_end R p (by rw [HRL.out]; omega)
      rw [hend, merge_end] at HO
      have hc := icells_len (L.drop k)
      rw [List.length_drop, HNL.out] at hc
      by_cases hkc : k < c1
      · go_wp2_with (at_builtin; refine wpList_append_own_at _ rfl _ _ 47 rfl w.heap.size 52 i0 (.agg #[.int .i64 0, .int .i64 0]) 2 16 Try.underlying47 hi hz0 hz1 hz2 rfl (by decide) _ _ _ rfl hown ⟨g1, k * 2, none⟩ (n - k) _ (icells (L.drop k)) rfl ?dd1 ?dd2 ?dd3 ?dd4 ?dd5 ?dd6 ?_)
        case dd1 => exact hc
        case dd2 => exact news_from hL k
        case dd3 => exact icells_cell1 _
        case dd4 => unfold maxLen; omega
        case dd5 => omega
        case dd6 => omega
        intro v3 w3 hown3 hgrow _ _
        have hownN : w3.ownsRow w.heap.size 52 2 v3 (n + r / 2) (icells (mergeM L (packs R))) := by rw [← HO.out, icells_append, show n + r / 2 = k + p + (n - k) by omega]; exact hown3
        have hblN : Below w.heap.size w w3 := hbl.grown hgrow (by omega) (fun b hb => (hown.lt b hb).1)
        clear hown3 hgrow hL hR hown hbl
        go_wp2
        go_ret
        exact ⟨_, rfl, hownN, hblN⟩
      · have hkc' : k = c1 := by omega
        subst hkc'
        obtain rfl : n = k := by omega
        rw [Nat.sub_self] at hc
        go_wp2_with (at_builtin; (refine wpList_append_own_at _ rfl _ _ 47 rfl w.heap.size 52 i0 (.agg #[.int .i64 0, .int .i64 0]) 2 16 Try.underlying47 hi hz0 hz1 hz2 rfl (by decide) _ _ _ rfl hown ⟨g1, 0, none⟩ 0 _ (icells (L.drop n)) rfl ?de1 ?de2 ?de3 ?de4 ?de5 ?de6 ?_))
        case de1 => exact hc
        case de2 => intro j u hu; rw [List.drop_eq_nil_of_le (by rw [HNL.out]; exact hc1)] at hu; simp [icells] at hu
        case de3 => exact icells_cell1 _
        case de4 => unfold maxLen; omega
        case de5 => omega
        case de6 => omega
        intro v3 w3 hown3 hgrow _ _
        have hownN : w3.ownsRow w.heap.size 52 2 v3 (n + r / 2) (icells (mergeM L (packs R))) := by rw [← HO.out, icells_append, show n + r / 2 = n + p + 0 by omega]; exact hown3
        have hblN : Below w.heap.size w w3 := hbl.grown hgrow (by omega) (fun b hb => (hown.lt b hb).1)
        clear hown3 hgrow hL hR hown hbl
        go_wp2
        go_ret
        exact ⟨_, rfl, hownN, hblN⟩
end Go.Proofs.Ytpmiphnjnbkjlaa
