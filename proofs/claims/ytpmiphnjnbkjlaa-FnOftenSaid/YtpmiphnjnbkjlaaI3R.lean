/- Chapter 3, the program: packages, all rows, the count of what is selected. -/
import Derived.Test.YtpmiphnjnbkjlaaI3S
namespace Go.Proofs.Ytpmiphnjnbkjlaa
set_option linter.unusedVariables false
set_option linter.unusedSimpArgs false
open Go.RowKit

theorem own_item0 {w : World} {base g n cap : Nat} {E : TypeId} {D : List Item} (h : w.ownsRow base E 2 (.slice (some ⟨g, 0, none⟩) n cap) n (icells D)) (q : Nat) (x : Item) :
    ((w.setCell ⟨g, q * 2, none⟩ (.int .i64 (x.1 : Int))).setCell ⟨g, q * 2 + 1, none⟩ (.int .i64 x.2)).ownsRow base E 2 (.slice (some ⟨g, 0, none⟩) n cap) n (icells (D.set q x)) := own_item h 0 q x
set_option maxHeartbeats 4000000 in
theorem packagesOf_any (v : Value) (base r : Nat) (R : List Item) (w : World) (h : w.ownsRow base 65 2 v r (icells R)) (hr : R.length = r) (hr2 : r ≤ 520) (hw : ∀ x ∈ R, x.1 ≤ 1099511627776) :
    Calls Try.prog 50 #[v] w fun e w' => ∃ v, e = .returned v ∧ w'.ownsRow w.heap.size 65 2 v (r / 2) (icells (pks R)) ∧ Below w.heap.size w w' := by
  obtain ⟨j0, ji, jz0, jz1, jz2⟩ := info_parts Try.infoIt
  obtain ⟨a, c, rfl, hrc, hnone⟩ := own_full h
  obtain ⟨n, hn⟩ : ∃ n, r / 2 = n := ⟨_, rfl⟩
  have hq : (r : Int).tdiv 2 = (n : Int) := by rw [Int.tdiv_eq_ediv_of_nonneg (by omega)]; omega
  have HL := Lies.own h
  have HLn := hidden hr
  have HP : Hid ((pks R).length = n) := hidden (by rw [pks_len, hr, hn])
  have HW := hidden hw
  have H2 := hidden h
  rw [hn]
  have hn2 : 2 * n ≤ r := by omega
  clear hr hw h hn
  go_enter Try.func50, Try.ntmps50
  go_wp2_with (at_make; refine wpList_make_full _ rfl _ _ 45 rfl w.heap.size 65 j0 (.agg #[.int .i64 0, .int .i64 0]) 2 Try.underlying45 ji jz0 jz1 .i64 .i64 _ _ n rfl rfl (by first | rfl | assumption) (by first | rfl | assumption) ?cb1 ?cb2 ?cb3 ?_)
  case cb1 => rw [jz2]; omega
  case cb2 => unfold maxLen; omega
  case cb3 => exact Nat.le_refl _
  intro w1 hown1 hgrow
  have hbl1 : Below w.heap.size w w1 := ⟨hgrow.os, hgrow.tape, hgrow.output, hgrow.size, fun i hi => hgrow.block i hi (by simp)⟩
  have hown1' : w1.ownsRow w.heap.size 65 2 (.slice (some ⟨w.heap.size, 0, none⟩) n n) n (icells (List.replicate n ((0, 0) : Item))) := by rw [← made_items]; exact hown1
  clear hgrow hown1
  go_wp2
  go_loopw [11] (fun si wr => ∃ k : Nat, k ≤ n ∧ si = .int .i64 k ∧ wr.ownsRow w.heap.size 65 2 (.slice (some ⟨w.heap.size, 0, none⟩) n n) n (icells ((pks R).take k ++ List.replicate (n - k) ((0, 0) : Item))) ∧ Below w.heap.size w wr) (fun si _ => n - (intOf si).toNat)
  case atStart => exact ⟨0, Nat.zero_le _, rfl, hown1', hbl1⟩
  case round =>
    obtain ⟨k, hk, rfl, hD, hb⟩ := hrel
    by_cases hlt : k < n
    · obtain ⟨b, c2, hv⟩ := Joins.ownsRow_form H2.out (by omega)
      simp only [Value.slice.injEq] at hv
      obtain ⟨rfl, _, rfl⟩ := hv
      have hbw := (H2.out.lt b rfl).2
      have hR := own_bel H2.out hb
      obtain ⟨x, hx⟩ : ∃ x, R[2 * k]'(by rw [HLn.out]; omega) = x := ⟨_, rfl⟩
      obtain ⟨y, hy⟩ : ∃ y, R[2 * k + 1]'(by rw [HLn.out]; omega) = y := ⟨_, rfl⟩
      have c0 := hR.cellAt (2 * k * 2) (by omega)
      have c1 := hR.cellAt ((2 * k + 1) * 2) (by omega)
      rw [icells_fst R (2 * k) (by rw [HLn.out]; omega), hx] at c0
      rw [icells_fst R (2 * k + 1) (by rw [HLn.out]; omega), hy] at c1
      have hxm := HW.out x (by rw [← hx]; exact List.getElem_mem _)
      have hym := HW.out y (by rw [← hy]; exact List.getElem_mem _)
      have f0 := hD.frozenAt (k * 2)
      have f1 := hD.frozenAt (k * 2 + 1)
      have d0 := hD.cellAt (k * 2) (by omega)
      have d1 := hD.cellAt (k * 2 + 1) (by omega)
      have hLl : ((pks R).take k ++ List.replicate (n - k) ((0, 0) : Item)).length = n := by rw [List.length_append, List.length_take, HP.out, List.length_replicate]; omega
      obtain ⟨q0, hq0⟩ : ∃ y, ((pks R).take k ++ List.replicate (n - k) ((0, 0) : Item))[k]'(by omega) = y := ⟨_, rfl⟩
      rw [icells_fst _ k (by omega), hq0] at d0
      rw [icells_snd _ k (by omega), hq0] at d1
      have hpk := pks_get R k (by rw [HLn.out]; omega)
      rw [hx, hy] at hpk
      have HE : Hid (((pks R).take k ++ List.replicate (n - k) ((0, 0) : Item)).set k (x.1 + y.1, -1) = (pks R).take (k + 1) ++ List.replicate (n - (k + 1)) ((0, 0) : Item)) := hidden (by
        rw [put_next _ _ _ _ _ (by rw [List.length_take, HP.out]; omega) hlt, List.take_succ_eq_append_getElem (by rw [HP.out]; exact hlt), hpk])
      obtain ⟨x1, x2⟩ := x
      obtain ⟨y1, y2⟩ := y
      simp only at c0 c1 hxm hym HE
      clear hq0 hLl hx hy hpk hR
      have n1 : ¬ b = w.heap.size := by omega
      have n2 : ¬ w.heap.size = b := by omega
      obtain ⟨p0, hp0⟩ : ∃ p0 : Nat, x1 + y1 = p0 := ⟨_, rfl⟩
      have hp0I : (x1 : Int) + (y1 : Int) = (p0 : Int) := by omega
      rw [hp0] at HE
      have hp0b : p0 ≤ 2199023255552 := by omega
      have i1 : (k : Int) < (n : Int) := by omega
      have i2 : 2 * (k : Int) < (r : Int) := by omega
      have i3 : 2 * (k : Int) + 1 < (r : Int) := by omega
      have i4 : (0 : Int) ≤ 2 * (k : Int) := by omega
      have i5 : (0 : Int) ≤ 2 * (k : Int) + 1 := by omega
      have i6 : (0 : Int) ≤ (k : Int) := by omega
      have i7 : IntKind.i64.wrap (2 * (k : Int)) = 2 * (k : Int) := IntWalk.i64_in _ (by omega)
      have i8 : IntKind.i64.wrap (2 * (k : Int) + 1) = 2 * (k : Int) + 1 := IntWalk.i64_in _ (by omega)
      have i9 : IntKind.i64.wrap ((x1 : Int) + (y1 : Int)) = (p0 : Int) := by rw [hp0I]; exact IntWalk.i64_in _ (by omega)
      have i10 : (2 * (k : Int)).toNat = 2 * k := by omega
      have i11 : (2 * (k : Int) + 1).toNat = 2 * k + 1 := by omega
      clear hp0 hp0I hxm hym
      go_wp2
      go_region_held3 (fun w' => w'.cell? ⟨b, 2 * k * 2, none⟩ = some (.int .i64 (x1 : Int)) ∧ w'.cell? ⟨b, (2 * k + 1) * 2, none⟩ = some (.int .i64 (y1 : Int))) (go_keep) (fail)
      all_goals
        go_wp2
        exact ⟨⟨k + 1, by omega, by go_num, by rw [← HE.out]; exact own_item0 hD k (p0, -1), ((hb.setCell (Nat.le_refl _) _).setCell (Nat.le_refl _) _).drew⟩, by simp [intOf]; omega⟩
    · have hkn : k = n := by omega
      subst hkn
      go_wp2
      go_ret
      refine ⟨_, rfl, ?_, hb⟩
      rw [List.take_of_length_le (by rw [HP.out]; exact Nat.le_refl _)] at hD
      simpa using hD
theorem Try.infoRowI : (Try.prog.info? 45).map (fun i => (i.zero, i.size, i.bytes)) = some (some (.slice none 0 0), 1, 24) := by kernel_rfl
theorem row_next (L : List Item) (k : Nat) : mrg ltI L (pks (rowM L k)) = rowM L (k + 1) := mrg_pks L _
set_option maxHeartbeats 4000000 in
theorem listsOf_any (v : Value) (base n lim : Nat) (L : List Item) (w : World) (h : w.ownsRow base 65 2 v n (icells L)) (hbase : base ≤ w.heap.size) (hn : L.length = n) (hn1 : 1 ≤ n) (hn2 : n ≤ 260) (h1 : 1 ≤ lim) (h2 : lim ≤ 20) (hbd : ∀ k, k ≤ 19 → ∀ x ∈ rowM L k, x.1 ≤ 1099511627776) :
    Calls Try.prog 35 #[v, .int .i64 lim] w fun e w' => ∃ vr Vs, e = .returned vr ∧ w'.ownsRow w.heap.size 45 1 vr lim Vs ∧ Vs.length = lim ∧ (∀ i, (h : i < Vs.length) → w'.ownsRow base 65 2 Vs[i] (rowM L i).length (icells (rowM L i))) ∧ Below w.heap.size w w' := by
  obtain ⟨i0, hi, hz0, hz1, hz2⟩ := info_parts Try.infoRowI
  obtain ⟨g, c, hv⟩ := Joins.ownsRow_form h hn1
  subst hv
  have HLn := hidden hn
  have HBD := hidden hbd
  have HL := hidden h
  have hg := (h.lt g rfl).2
  have HRow : Hid (∀ k, n ≤ (rowM L k).length ∧ (rowM L k).length ≤ 2 * n) := hidden fun k => by
    have := row_most L k
    rw [hn] at this
    refine ⟨?_, this⟩
    cases k with
    | zero => show n ≤ L.length; omega
    | succ k => rw [rowM_len, hn]; omega
  have KP := hidden (fun (W : World) (V : Value) (k : Nat) (hk : k ≤ 19) (hV : W.ownsRow base 65 2 V (rowM L k).length (icells (rowM L k))) => packagesOf_any V base _ (rowM L k) W hV rfl (by have := (HRow.out k).2; omega) (HBD.out k hk))
  have KM : Hid (∀ (W : World) (P : Value) (k b2 : Nat), Below w.heap.size w W → W.ownsRow b2 65 2 P ((rowM L k).length / 2) (icells (pks (rowM L k))) → Calls Try.prog 49 #[.slice (some ⟨g, 0, none⟩) n c, P, .func (.func 51) #[] #[]] W fun e w' => ∃ v, e = .returned v ∧ w'.ownsRow W.heap.size 65 2 v (rowM L (k + 1)).length (icells (rowM L (k + 1))) ∧ Below W.heap.size W w') := hidden (fun W P k b2 hW hP => by
    have := mergedI_own (.slice (some ⟨g, 0, none⟩) n c) P base b2 n _ L (pks (rowM L k)) W (own_bel HL.out hW) hP HLn.out (pks_len _) (by omega) (by have := (HRow.out k).2; omega)
    rw [row_next] at this
    rw [rowM_len, HLn.out]
    exact this)
  clear h hn hbd
  have hl1 : (0 : Int) ≤ (lim : Int) - 1 := by omega
  go_enter Try.func35, Try.ntmps35
  go_wp2
  go_loopw [5, 6, 12] (fun sl sr si wr => ∃ (k : Nat) (Vs : List Value), k + 1 ≤ lim ∧ si = .int .i64 k ∧ Hid (Vs.length = k + 1) ∧ wr.ownsRow w.heap.size 45 1 sr (k + 1) Vs ∧ Hid (∀ i, (h : i < Vs.length) → wr.ownsRow base 65 2 Vs[i] (rowM L i).length (icells (rowM L i))) ∧ Hid (∀ u ∈ Vs, u.oneCell' = true) ∧ Hid (wr.ownsRow base 65 2 sl (rowM L k).length (icells (rowM L k))) ∧ Below w.heap.size w wr) (fun _ _ si _ => lim - (intOf si).toNat)
  case atStart => exact ⟨0, [.slice (some ⟨g, 0, none⟩) n c], by omega, rfl, hidden rfl, World.ownsRow_lit _ _ _ (Nat.le_refl _) (by decide) rfl, hidden (fun i hi => by
      have : i = 0 := by simpa using hi
      subst this
      show World.ownsRow _ _ _ _ _ L.length _
      rw [HLn.out]
      exact HL.out.alloc _), hidden (by simp [Value.oneCell']), hidden (by
        show World.ownsRow _ _ _ _ _ L.length _
        rw [HLn.out]
        exact HL.out.alloc _), (Below.refl _ _).alloc (Nat.le_refl _) _⟩
  case round =>
    obtain ⟨k, Vs, hk, rfl, HV, hrows, HVs, HV1, HC, hbl⟩ := hrel
    have hsz := hbl.size
    obtain ⟨gr, cr, hvr⟩ := Joins.ownsRow_form hrows (by omega)
    subst hvr
    by_cases hlt : k + 1 < lim
    · have hltI : (k : Int) < (lim : Int) - 1 := by omega
      go_wp2_with fail
      refine (KP.out _ _ k (by omega) HC.out).mono ?_
      rintro e w3 ⟨P, rfl, hP, b3⟩
      have bl3 : Below w.heap.size w w3 := bel_then b3 hsz hbl
      have hrows3 := own_bel hrows b3
      have HVs3 : Hid (∀ i, (h : i < Vs.length) → w3.ownsRow base 65 2 Vs[i] (rowM L i).length (icells (rowM L i))) := hidden (fun i h => own_bel (HVs.out i h) b3)
      clear HVs hbl HC hrows
      go_wp2_with fail
      refine (KM.out _ _ k _ bl3 hP).mono ?_
      rintro e w4 ⟨v4, rfl, hown4, b4⟩
      have hsz3 := bl3.size
      have bl4 : Below w.heap.size w w4 := bel_then b4 hsz3 bl3
      replace hrows3 := own_bel hrows3 b4
      replace HVs3 : Hid (∀ i, (h : i < Vs.length) → w4.ownsRow base 65 2 Vs[i] (rowM L i).length (icells (rowM L i))) := hidden (fun i h => own_bel (HVs3.out i h) b4)
      have hown4' := Joins.ownsRow_le hown4 (Nat.le_trans hbase hsz3)
      have hlen4 : n ≤ (rowM L (k + 1)).length := (HRow.out (k + 1)).1
      obtain ⟨r4, hr4⟩ : ∃ r, (rowM L (k + 1)).length = r := ⟨_, rfl⟩
      rw [hr4] at hown4' hlen4
      obtain ⟨g4, c4, hv4⟩ := Joins.ownsRow_form hown4' (by omega)
      subst hv4
      have HR4 := hidden hr4
      have hsz4 := bl4.size
      clear b3 b4 bl3 hP hown4 hr4
      go_wp2_with (at_builtin; refine wpList_append_own_at _ rfl _ _ 43 rfl w.heap.size 45 i0 (.slice none 0 0) 1 24 Try.underlying43 hi hz0 hz1 hz2 rfl (by decide) _ _ _ rfl (hrows3.alloc _) ⟨w4.heap.size, 0, none⟩ 1 1 [.slice (some ⟨g4, 0, none⟩) r4 c4] rfl rfl ?ca2 ?ca3 ?ca4 ?ca5 ?ca6 ?_)
      case ca2 => exact cell_one _ _ _
      case ca3 => exact fun u hu => by simp at hu; subst hu; rfl
      case ca4 => unfold maxLen; omega
      case ca5 => omega
      case ca6 => simp; omega
      intro v5 w5 hown5 hgrow _ _
      have hbl5 : Below w.heap.size w w5 := (bl4.alloc (by omega) _).grown hgrow (by simp; omega) (fun b hb => (hrows3.lt b hb).1)
      have HC4 : w5.ownsRow base 65 2 (.slice (some ⟨g4, 0, none⟩) r4 c4) r4 (icells (rowM L (k + 1))) := (hown4'.alloc _).kept hgrow (.inr (own_types hrows3 hown4' (by decide) rfl))
      have HVn : Hid (∀ i, (h : i < (Vs ++ [Value.slice (some ⟨g4, 0, none⟩) r4 c4]).length) → w5.ownsRow base 65 2 ((Vs ++ [Value.slice (some ⟨g4, 0, none⟩) r4 c4])[i]'h) (rowM L i).length (icells (rowM L i))) := hidden (by
        intro i h
        rcases Nat.lt_or_ge i Vs.length with hi | hi
        · rw [List.getElem_append_left hi]
          have o1 := HVs3.out i hi
          exact (o1.alloc _).kept hgrow (.inr (own_types hrows3 o1 (by decide) rfl))
        · have e : i = Vs.length := by simp at h; omega
          subst e
          rw [List.getElem_append_right (Nat.le_refl _)]
          simp only [Nat.sub_self, List.getElem_cons_zero]
          rw [HV.out, HR4.out]
          exact HC4)
      have HV1n : Hid (∀ u ∈ Vs ++ [Value.slice (some ⟨g4, 0, none⟩) r4 c4], u.oneCell' = true) := hidden (by
        intro u hu
        rcases List.mem_append.1 hu with h | h
        · exact HV1.out u h
        · simp at h; subst h; rfl)
      go_wp2
      go_roundw
      case rel => exact ⟨k + 1, Vs ++ [.slice (some ⟨g4, 0, none⟩) r4 c4], by omega, by go_num, hidden (by simp [HV.out]), hown5, HVn, HV1n, hidden (by rw [HR4.out]; exact HC4), hbl5⟩
      case measure => simp [intOf]; omega
    · have hltI : ¬ (k : Int) < (lim : Int) - 1 := by omega
      have e : k + 1 = lim := by omega
      go_wp2
      go_ret
      refine ⟨_, rfl, Vs, ?_, by rw [HV.out, e], HVs.out, hbl⟩
      first | exact hrows | (rw [e] at hrows; exact hrows)
end Go.Proofs.Ytpmiphnjnbkjlaa
