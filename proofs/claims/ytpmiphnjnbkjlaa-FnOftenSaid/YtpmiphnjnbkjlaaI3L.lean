/- Chapter 3, the program: the count of what is selected. -/
import Derived.Test.YtpmiphnjnbkjlaaI3R
namespace Go.Proofs.Ytpmiphnjnbkjlaa
set_option linter.unusedVariables false
set_option linter.unusedSimpArgs false
open Go.RowKit

set_option maxHeartbeats 4000000 in
theorem selected_any (vr : Value) (base b1 n lim : Nat) (zs : List Int) (L : List Item) (Vs : List Value) (w : World) (hrows : w.ownsRow b1 45 1 vr lim Vs) (hV : Vs.length = lim) (hVs : ∀ i, (h : i < Vs.length) → w.ownsRow base 65 2 Vs[i] (rowM L i).length (icells (rowM L i)))
    (hP : L.Perm (items zs n)) (h1 : 1 ≤ lim) (h2 : lim ≤ 20) (hn2 : 2 ≤ n) (hn260 : n ≤ 260) (hpow : n ≤ 2 ^ lim) :
    Calls Try.prog 34 #[vr, .int .i64 n, .int .i64 ((2 * n - 2 : Nat) : Int)] w fun e w' => ∃ v, e = .returned v ∧ w'.ownsRow w.heap.size 3 1 v n (nats n fun s => lenJ L (lim - 1) (2 * n - 2) (pos L s)) ∧ Below w.heap.size w w' := by
  obtain ⟨j0, ji, jz0, jz1, jz2⟩ := info_parts Try.infoInt
  obtain ⟨gr, cr, hvr⟩ := Joins.ownsRow_form hrows (by omega)
  subst hvr
  have hLl : L.length = n := by rw [hP.length_eq, items_len]
  have HLeaf := hidden (leaf_isLeaf hP)
  have HP := hidden hP
  have HV := hidden hV
  have HLl := hidden hLl
  have HPOW := hidden hpow
  have HROWS := hidden hrows
  have HVs := hidden hVs
  have hgr := (hrows.lt gr rfl).2
  have HRow : Hid (∀ k, n ≤ (rowM L k).length ∧ (rowM L k).length ≤ 2 * n) := hidden fun k => by
    have := row_most L k
    rw [hLl] at this
    refine ⟨?_, this⟩
    cases k with
    | zero => show n ≤ L.length; omega
    | succ k => rw [rowM_len, hLl]; omega
  have HM0 : Hid (2 * n - 2 ≤ (rowM L (lim - 1)).length) := hidden (by
    have := row_big L (lim - 1) (by rw [hLl, show lim - 1 + 1 = lim by omega]; exact hpow)
    rw [hLl] at this; exact this)
  obtain ⟨m0, hm0⟩ : ∃ m, 2 * n - 2 = m := ⟨_, rfl⟩
  rw [hm0] at HM0 ⊢
  have hm0n : m0 ≤ 2 * n := by omega
  clear hrows hV hVs hP hpow hLl hm0
  go_enter Try.func34, Try.ntmps34
  go_wp2_with (at_make; refine wpList_make_full _ rfl _ _ 23 rfl w.heap.size 3 j0 (.int .i64 0) 1 Try.underlying23 ji jz0 jz1 .i64 .i64 _ _ n rfl rfl rfl rfl ?cb1 ?cb2 ?cb3 ?_)
  case cb1 => rw [jz2]; omega
  case cb2 => unfold maxLen; omega
  case cb3 => omega
  intro w5 hown5 hgrow5
  have hb5 : Below w.heap.size w w5 := ⟨hgrow5.os, hgrow5.tape, hgrow5.output, hgrow5.size, fun i hi => hgrow5.block i hi (by simp)⟩
  rw [made_nats] at hown5
  clear hgrow5
  obtain ⟨go, hgo⟩ : ∃ go, w.heap.size = go := ⟨_, rfl⟩
  rw [hgo] at hown5 ⊢
  have HGO := hidden hgo
  have hgrg : gr < go := by rw [← hgo]; exact hgr
  clear hgo
  go_wp2
  go_loopw [2, 8] (fun sm sk wx => ∃ (q m : Nat) (O : Nat → Nat), q ≤ lim ∧ sk = .int .i64 ((q : Int) - 1) ∧ sm = .int .i64 m ∧ m ≤ 2 * n ∧
    Hid (∀ s, s < n → O s + (if q = 0 then 0 else lenJ L (q - 1) m (pos L s)) = lenJ L (lim - 1) m0 (pos L s)) ∧ Hid (0 < q → m ≤ (rowM L (q - 1)).length) ∧ Hid (∀ s, s < n → O s ≤ 40) ∧
    wx.ownsRow go 3 1 (.slice (some ⟨go, 0, none⟩) n n) n (nats n O) ∧ Below go w wx) (fun _ sk _ => (intOf sk + 1).toNat)
  case atStart => exact ⟨lim, m0, fun _ => 0, Nat.le_refl _, rfl, rfl, hm0n, hidden (fun s hs => by show 0 + (if lim = 0 then 0 else _) = _; rw [if_neg (by omega), Nat.zero_add]), hidden (fun _ => HM0.out), hidden (fun _ _ => Nat.zero_le _), hown5, by rw [← HGO.out]; exact hb5⟩
  case round =>
    obtain ⟨q, m, O, hq, rfl, rfl, hm, HO, Hm, HO40, hownO, hblx⟩ := hrel
    clear hown5 hb5
    by_cases hq0 : q = 0
    · subst hq0
      have HO2 := HO
      go_wp2
      go_ret
      refine ⟨_, rfl, ?_, by rw [HGO.out]; exact hblx⟩
      rw [HGO.out, ← nats_congr (f := O) fun s hs => by have := HO.out s hs; simpa using this]; exact hownO
    · obtain ⟨p, rfl⟩ : ∃ p, q = p + 1 := ⟨q - 1, by omega⟩
      have hpk : p < lim := by omega
      have hmr : m ≤ (rowM L p).length := Hm.out (by omega)
      have hVp : p < Vs.length := by rw [HV.out]; omega
      obtain ⟨V, hVe⟩ : ∃ V, Vs[p] = V := ⟨_, rfl⟩
      have hV := HVs.out p hVp
      rw [hVe] at hV
      obtain ⟨r, hr⟩ : ∃ r, (rowM L p).length = r := ⟨_, rfl⟩
      have hrr := HRow.out p
      rw [hr] at hrr hV hmr
      obtain ⟨gv, cv, hv⟩ := Joins.ownsRow_form hV (by omega)
      subst hv
      have hgv := (hV.lt gv rfl).2
      rw [HGO.out] at hgv
      have hrcv : r ≤ cv := by
        obtain ⟨a', c', e, h, _⟩ := own_full hV
        simp only [Value.slice.injEq] at e
        omega
      have crow0 := (own_bel HROWS.out (by rw [HGO.out]; exact hblx)).cellAt p (by omega)
      rw [List.getElem?_eq_getElem hVp, hVe] at crow0
      have HVV := hidden hV
      have HVE := hidden hVe
      have HRR := hidden hr
      have j1 : (m : Int) ≤ (cv : Int) := by omega
      have j2 : (0 : Int) ≤ (m : Int) := by omega
      clear hV hVe hr hq0
      go_wp2
      go_loopw [9, 28] (fun sp si wy => ∃ (i c : Nat), i ≤ m ∧ c ≤ i ∧ Hid (c = cntL (rowM L p) i) ∧ si = .int .i64 i ∧ sp = .int .i64 ((i - c : Nat) : Int) ∧
        wy.ownsRow go 3 1 (.slice (some ⟨go, 0, none⟩) n n) n (nats n fun s => O s + if pos L s < c then 1 else 0) ∧ Below go w wy) (fun _ si _ => m - (intOf si).toNat)
      case atStart => exact ⟨0, 0, Nat.zero_le _, Nat.le_refl _, hidden rfl, rfl, rfl, by rw [nats_congr (g := O) fun s hs => by rw [if_neg (by omega)]; rfl]; exact hownO, hblx⟩
      case round =>
        obtain ⟨i, c, hi3, hc3, HC, rfl, rfl, hownY, hblY⟩ := hrel
        have hVY := own_bel HVV.out (by rw [HGO.out]; exact hblY)
        have hszY : go ≤ wr.heap.size := by have := hblY.size; rw [HGO.out] at this; exact this
        have hgoY := (hownY.lt go rfl).2
        by_cases him : i < m
        · have hir : i < (rowM L p).length := by rw [HRR.out]; omega
          obtain ⟨x, hx⟩ : ∃ x, (rowM L p)[i]'hir = x := ⟨_, rfl⟩
          have c0 := hVY.cellAt (i * 2) (by omega)
          have c1 := hVY.cellAt (i * 2 + 1) (by omega)
          rw [icells_fst (rowM L p) i hir, hx] at c0
          rw [icells_snd (rowM L p) i hir, hx] at c1
          have hcs := cntL_succ (rowM L p) i hir
          rw [hx, ← HC.out] at hcs
          obtain ⟨x1, x2⟩ := x
          simp only at c0 c1
          by_cases hlf : isLeaf (x1, x2) = true
          · obtain ⟨hcl, hxe⟩ := row_leaf L HLeaf.out p i hir (by rw [hx]; exact hlf)
            have hxL : (x1, x2) ∈ L := by rw [← hx, hxe]; exact List.getElem_mem _
            have hxs := items_sym zs n (x1, x2) (HP.out.mem_iff.1 hxL)
            obtain ⟨t, ht⟩ : ∃ t : Nat, x2 = t := ⟨x2.toNat, by have := hxs.1; simp only at this; omega⟩
            subst ht
            have htn : t < n := by have := hxs.2; simp only at this; omega
            have hpos : pos L t = c := by rw [pos_of HP.out _ hcl t (by rw [← hxe, hx]), HC.out]
            rw [if_pos hlf] at hcs
            have d0 := hownY.cellAt t (by omega)
            rw [nats_get _ _ _ htn] at d0
            obtain ⟨y, hy⟩ : ∃ y, O t + (if pos L t < c then 1 else 0) = y := ⟨_, rfl⟩
            have hy2 : y = O t := by rw [← hy, hpos, if_neg (Nat.lt_irrefl _)]; rfl
            have hy40 : y ≤ 40 := by rw [hy2]; exact HO40.out t htn
            rw [hy] at d0
            have f0 := hownY.frozenAt t
            have HCS := hidden hcs
            have HST : Hid ((nats n fun s => O s + if pos L s < c then 1 else 0).set t (.int .i64 ((y + 1 : Nat) : Int)) = nats n fun s => O s + if pos L s < c + 1 then 1 else 0) := hidden (by
              rw [nats_set]
              refine nats_congr fun s hs => ?_
              by_cases e : s = t
              · subst e; rw [if_pos rfl, if_pos (by omega), hy2]
              · rw [if_neg e]
                have hne : pos L s ≠ c := by
                  intro hc
                  have h1 := pos_get HP.out s hs
                  have h2 := pos_get HP.out t htn
                  simp only [hc] at h1
                  simp only [hpos] at h2
                  rw [h1] at h2
                  exact e (by exact_mod_cast h2)
                congr 1
                by_cases h : pos L s < c
                · rw [if_pos h, if_pos (by omega)]
                · rw [if_neg h, if_neg (by omega)])
            have k1 : ((t : Int) == -1) = false := by rw [beq_eq_false_iff_ne]; omega
            clear hx hxe hxL hxs hpos hcs hy hy2 hlf hcl hir
            go_wp2
            go_roundw
            case rel => exact ⟨i + 1, c + 1, by omega, by omega, hidden (by rw [HCS.out]), by go_num, by rw [Nat.add_sub_add_right], by
              have := (hownY.stored t (.int .i64 ((y + 1 : Nat) : Int))).1
              rw [HST.out] at this
              exact (by simpa using this : World.ownsRow _ _ _ _ _ _ _).alloc _, (hblY.setCell (Nat.le_refl _) _).alloc (by simpa using hszY) _⟩
            case measure => simp [intOf]; omega
          · have hx2 : x2 = -1 := by
              rcases row_items L p (x1, x2) (by rw [← hx]; exact List.getElem_mem _) with h | h
              · exact h
              · exact absurd (HLeaf.out _ h) hlf
            rw [if_neg hlf] at hcs
            subst hx2
            have HCS := hidden hcs
            clear hx hcs hlf hir
            go_wp2
            go_roundw
            case rel => exact ⟨i + 1, c, by omega, by omega, hidden HCS.out.symm, by go_num, by rw [show ((i + 1 - c : Nat) : Int) = ((i - c : Nat) : Int) + 1 by omega], hownY.alloc _, hblY.alloc hszY _⟩
            case measure => simp [intOf]; omega
        · have hime : i = m := by omega
          subst hime
          have HN2 : Hid (∀ s, s < n → (O s + if pos L s < c then 1 else 0) + (if p = 0 then 0 else lenJ L (p - 1) (2 * (i - c)) (pos L s)) = lenJ L (lim - 1) m0 (pos L s)) := hidden (by
            intro s hs
            have := HO.out s hs
            rw [if_neg (by omega), Nat.add_sub_cancel, lenJ_row, ← HC.out] at this
            omega)
          have HM2' : Hid (0 < p → 2 * (i - c) ≤ (rowM L (p - 1)).length) := hidden (by
            intro hp
            obtain ⟨p', rfl⟩ : ∃ p', p = p' + 1 := ⟨p - 1, by omega⟩
            rw [HC.out]
            exact pm_room L HLeaf.out p' i (by rw [HRR.out]; exact hmr))
          have H40 : Hid (∀ s, s < n → (O s + if pos L s < c then 1 else 0) ≤ 40) := hidden (by
            intro s hs
            have := HN2.out s hs
            have h2 := lenJ_le L (lim - 1) m0 (pos L s)
            omega)
          have H2n : Hid (2 * (i - c) ≤ 2 * n) := hidden (by
            rcases Nat.eq_zero_or_pos p with h0 | h0
            · subst h0
              have : cntL (rowM L 0) i = i := cntL_all L HLeaf.out i (by have h9 := HRR.out; rw [show (rowM L 0).length = L.length from rfl] at h9; omega)
              rw [HC.out, this]; omega
            · have h8 := HM2'.out h0
              have h9 := (HRow.out (p - 1)).2
              omega)
          go_wp2
          refine ⟨⟨p, 2 * (i - c), _, by omega, rfl, ?_, H2n.out, HN2, HM2', H40, hownY, hblY⟩, ?_⟩
          · rw [Int.natCast_mul]; rfl
          · show ((p : Int) - 1 + 1).toNat < (((p + 1 : Nat) : Int) - 1 + 1).toNat
            omega
end Go.Proofs.Ytpmiphnjnbkjlaa
