/- Merged: Dr12B, Dr12C, WCoded. -/
import Derived.Test.YtaaahmfkdiogkaaQM32
import Derived.Test.YtaaahmfkdiogkaaQM17
import Derived.Test.YtaaahmfkdiogkaaQM2
import Derived.Deep.RegionHeld3
namespace Go.Proofs.Ytaaahmfkdiogkaa
set_option linter.unusedVariables false
set_option linter.unusedSimpArgs false
open Go.RowKit

/-- What is drawn: symbols, tables, an assignment. -/
def Drawn12 (w : World) (x : Value) : Prop := ∃ a1 c1 L a2 c2 T a3 c3 G, x = .tuple #[.slice a1 (L : List Int).length c1, .slice a2 (T : List (List Int)).length c2, .slice a3 (G : List Int).length c3] ∧
  (Ints w w.heap.size a1 L ∧ L.length ≤ c1 ∧ L.length ≤ 1001) ∧ (Tabs w w.heap.size a2 T ∧ T.length ≤ c2 ∧ T.length ≤ 4) ∧ (Ints w w.heap.size a3 G ∧ G.length ≤ c3 ∧ G.length ≤ 1001)
theorem fin12 {W : World} {base : Nat} {v1 v2 v3 : Value} {L G : List Int} {T : List (List Int)} {V : List Value} (o1 : W.ownsRow base 3 1 v1 L.length (intsV L)) (o2 : W.ownsRow base 65 1 v2 T.length V) (R2 : RowsAt W base V T) (o3 : W.ownsRow base 3 1 v3 G.length (intsV G))
    (f1 : L.length ≤ 1001 ∧ ∀ x ∈ L, -9223372036854775808 ≤ x ∧ x ≤ 9223372036854775807) (f2 : FitT T ∧ T.length ≤ 4) (f3 : G.length ≤ 1001 ∧ ∀ x ∈ G, -9223372036854775808 ≤ x ∧ x ≤ 9223372036854775807) : Drawn12 W (.tuple #[v1, v2, v3]) := by
  obtain ⟨a1, c1, rfl⟩ := own_shape o1
  obtain ⟨a2, c2, rfl⟩ := own_shape o2
  obtain ⟨a3, c3, rfl⟩ := own_shape o3
  exact ⟨a1, c1, L, a2, c2, T, a3, c3, G, rfl, ⟨(Ints.ofOwn o1 (by omega) f1.2).2, own_len12 o1, f1.1⟩, ⟨tabs_own o2 R2 (by omega) (fun i hi => ⟨by have := (f2.1 i hi).1; omega, (f2.1 i hi).2⟩), own_len12 o2, f2.2⟩, ⟨(Ints.ofOwn o3 (by omega) f3.2).2, own_len12 o3, f3.1⟩⟩
theorem RowsAt.put {w : World} {base i : Nat} {V : List Value} {T : List (List Int)} {v : Value} {z : List Int} (h : RowsAt w base V T) (hi : i < T.length) (hv : w.ownsRow base 3 1 v z.length (intsV z)) : RowsAt w base (V.set i v) (T.set i z) := by
  refine ⟨by rw [List.length_set, List.length_set, h.1], fun j hj => ?_⟩
  rw [List.length_set] at hj
  by_cases e : j = i
  · subst e
    have e1 : (V.set j v).getD j undef = v := by simp [List.getD_eq_getElem?_getD, h.1, hj]
    have e2 : (T.set j z).getD j [] = z := by simp [List.getD_eq_getElem?_getD, hj]
    rw [e1, e2]; exact hv
  · have e1 : (V.set i v).getD j undef = V.getD j undef := by simp [List.getD_eq_getElem?_getD, List.getElem?_set, Ne.symm e]
    have e2 : (T.set i z).getD j [] = T.getD j [] := by simp [List.getD_eq_getElem?_getD, List.getElem?_set, Ne.symm e]
    rw [e1, e2]; exact h.2 j hj
theorem FitT.set {T : List (List Int)} {z : List Int} {i : Nat} (h : FitT T) (h1 : z.length ≤ 1048576) (h2 : ∀ x ∈ z, -9223372036854775808 ≤ x ∧ x ≤ 9223372036854775807) : FitT (T.set i z) := by
  intro j hj
  rw [List.length_set] at hj
  by_cases e : j = i
  · subst e
    have e2 : (T.set j z).getD j [] = z := by simp [List.getD_eq_getElem?_getD, hj]
    rw [e2]; exact ⟨h1, h2⟩
  · have e2 : (T.set i z).getD j [] = T.getD j [] := by simp [List.getD_eq_getElem?_getD, List.getElem?_set, Ne.symm e]
    rw [e2]; exact h j hj
theorem rows_only12 {b base : Nat} {w w' : World} {V : List Value} {T : List (List Int)} (h : RowsAt w base V T) (ho : Only b w w') (hb : b < base) : RowsAt w' base V T :=
  ⟨h.1, fun j hj => own_only (h.2 j hj) ho hb⟩
theorem rows_kept12 {w w' : World} {base : Nat} {V : List Value} {T : List (List Int)} {r : Option Nat} (h : RowsAt w base V T) (hg : w.grownBy w' r) (hne : ∀ x ∈ V, x.ownBlock = none ∨ x.ownBlock ≠ r) : RowsAt w' base V T :=
  ⟨h.1, fun j hj => (h.2 j hj).kept hg (hne _ (getD_memV (by rw [h.1]; exact hj)))⟩
theorem ne_sym12 {a b : Value} (h : a.ownBlock = none ∨ a.ownBlock ≠ b.ownBlock) : b.ownBlock = none ∨ b.ownBlock ≠ a.ownBlock := by
  rcases h with h | h
  · cases hb : b.ownBlock with
    | none => exact .inl rfl
    | some k => exact .inr (by rw [h]; exact fun e => by cases e)
  · exact .inr (Ne.symm h)
theorem types_ne12 {w : World} {b1 b2 s1 s2 n1 n2 : Nat} {e1 e2 : TypeId} {v1 v2 : Value} {xs ys : List Value} (h : w.ownsRow b1 e1 s1 v1 n1 xs) (h' : w.ownsRow b2 e2 s2 v2 n2 ys) (hne : e1 ≠ e2) : v1.ownBlock = none ∨ v1.ownBlock ≠ v2.ownBlock := by
  cases e : v1.ownBlock with
  | none => exact .inl rfl
  | some k => exact .inr (fun h2 => own_types h h' hne e h2.symm)
theorem rowB_of {L : List Int} {n : Int} (h1 : 1 ≤ n) (h2 : n ≤ 260) (hl : L.length ≤ 2000) (h : ∀ x ∈ L, 0 ≤ x ∧ x < n) : rowB L n = true := by
  rw [rowB_iff]
  exact ⟨⟨h1, h2⟩, hl, fun k hk => h _ (getD_mem hk)⟩
set_option maxHeartbeats 8000000 in
set_option maxRecDepth 100000 in
theorem l12all_any (g B most : Nat) (w : World) (hc : Cur w g B) (hm : most ≤ 1000) :
    Calls Try.prog 95 #[.pointer (some ⟨g, 0, none⟩), .int .i64 most] w fun e w' => ∃ x, e = .returned x ∧ Drawn12 w' x ∧ Cur w' g B ∧ Only g w w' := by
  obtain ⟨i0, hi, hz0, hz1, hz2⟩ := info_parts Try.infoI
  have hgl := hc.lt
  go_enter Try.func95, Try.ntmps95
  go_wp2_with fail
  refine (l12draw_any g B most _ hc hm).mono ?_
  rintro e wa ⟨v1, L, n, rfl, o1, h1, h2, n1, n8, ha, Oa⟩
  obtain ⟨m, rfl⟩ : ∃ m : Nat, n = m := ⟨n.toNat, by omega⟩
  have hrow := rowB_of (by omega) (by omega) (by omega) h2
  obtain ⟨a1, c1, hv1⟩ := own_shape o1
  subst hv1
  have hsa := Oa.size
  clear hc
  go_wp2_with fail
  refine (l1Below_any g B 4 _ ha (by omega)).mono ?_
  rintro e wb ⟨k, rfl, k0, k1, _, hb, Ob⟩
  have k2 := k1 (by omega)
  obtain ⟨q, hq⟩ : ∃ q : Nat, 1 + k = q := ⟨(1 + k).toNat, by omega⟩
  have hk : (q : Int) = 1 + k := by omega
  have OB := Oa.trans_ Ob
  have o1b := own_only o1 Ob hgl
  have hsb := OB.size
  have hq1 : 1 ≤ q := by omega
  have hq4 : q ≤ 4 := by omega
  have hIb := (Ints.ofOwn o1b (by omega) (fun x hx => by have := h2 x hx; omega)).2
  have K := hidden (specChoose_yes a1 c1 wb.heap.size m q L wb hIb (Nat.le_refl _) hrow hq1 hq4)
  obtain ⟨ht, _, ht3⟩ := tab2_fit (S := L) (n := m) (by omega) (by omega) (by omega) hq4
  obtain ⟨hs, _, hs3⟩ := sel2_fit (S := L) (n := m) hq1 hq4 (by omega)
  have hgr := grp_le L.length
  have HFT := hidden ht3
  have HTL := hidden ht
  have HFS := hidden hs3
  have HSL := hidden hs
  obtain ⟨T, hT⟩ : ∃ T, tab2 L m q = T := ⟨_, rfl⟩
  obtain ⟨G, hG⟩ : ∃ G, sel2 L m q = G := ⟨_, rfl⟩
  obtain ⟨Q, hQ⟩ : ∃ Q, grp L.length = Q := ⟨_, rfl⟩
  rw [hT, hG, hQ] at K
  rw [hT] at HFT HTL
  rw [hG] at HFS HSL
  rw [hQ] at HSL hgr
  obtain ⟨N, hN⟩ : ∃ N, L.length = N := ⟨_, rfl⟩
  rw [hN] at K o1b h1 hgr
  rw [hN] at o1
  have HN := hidden hN
  have HL : Hid (∀ x ∈ L, 0 ≤ x ∧ x < (m : Int)) := hidden h2
  have HO1 := hidden o1b
  rw [hN]
  rw [hk] at K
  clear ht ht3 hs hs3 hT hG hQ hN h2 o1 o1b hIb hrow k1 Oa Ob ha hq
  go_wp2_with fail
  refine K.out.mono ?_
  rintro e wc ⟨v2, V, v3, rfl, o2, R2, _, hapU, o3, Bc⟩
  have HU3 : Hid (∀ x ∈ V, v3.ownBlock = none ∨ v3.ownBlock ≠ x.ownBlock) := hidden (fun x hx => by
    obtain ⟨j, hj, rfl⟩ := memV_getD hx
    exact hapU j hj)
  have HL3 : Hid ((Value.slice a1 N c1).ownBlock = none ∨ (Value.slice a1 N c1).ownBlock ≠ v3.ownBlock) := hidden (ranged_ne (own_ranged HO1.out) (own_ranged o3) (.inl (Nat.le_refl _)))
  have HLV : Hid (∀ x ∈ V, (Value.slice a1 N c1).ownBlock = none ∨ (Value.slice a1 N c1).ownBlock ≠ x.ownBlock) := hidden (fun x hx => by
    obtain ⟨j, hj, rfl⟩ := memV_getD hx
    exact ranged_ne (own_ranged HO1.out) (own_ranged (R2.2 j (by rw [← R2.1]; exact hj))) (.inl (Nat.le_refl _)))
  have HVlt : Hid (∀ x ∈ V, ∀ k, x.ownBlock = some k → k < wc.heap.size) := hidden (fun x hx k hk => by
    obtain ⟨j, hj, rfl⟩ := memV_getD hx
    exact ((R2.2 j (by rw [← R2.1]; exact hj)).lt k hk).2)
  obtain ⟨a2, c2, hv2⟩ := own_shape o2
  obtain ⟨a3, c3, hv3⟩ := own_shape o3
  subst hv2 hv3
  have OC := OB.trans_ (only_below (g := g) Bc)
  have hbl := hb.lt
  have hcc := hb.below Bc hbl
  have HO1c := hidden (own_bel HO1.out Bc)
  have HO2 := hidden (own_base12 o2 hsb)
  have HO3 := hidden (own_base12 o3 hsb)
  have HR2 : Hid (RowsAt wc w.heap.size V T) := hidden ⟨R2.1, fun j hj => own_base12 (R2.2 j hj) hsb⟩
  have hsc := OC.size
  clear o2 R2 o3 Bc OB hb HO1 K
  go_wp2_with fail
  refine (l1Below_any g B 12 _ hcc (by omega)).mono ?_
  rintro e wd ⟨r, rfl, r0, r1, _, hd, Od⟩
  have HO1d := hidden (own_only HO1c.out Od hgl)
  have HO2d := hidden (own_only HO2.out Od hgl)
  have HO3d := hidden (own_only HO3.out Od hgl)
  have HR2d := hidden (rows_only12 HR2.out Od hgl)
  have OD := OC.trans_ Od
  have hcd := Od.size
  have hsd := OD.size
  have hdl := hd.lt
  have hVl : V.length = q := by rw [HR2d.out.1, HTL.out]
  have HVL := hidden hVl
  have HFL : Hid (L.length ≤ 1001 ∧ ∀ x ∈ L, -9223372036854775808 ≤ x ∧ x ≤ 9223372036854775807) := hidden ⟨by rw [HN.out]; omega, fun x hx => by have := HL.out x hx; omega⟩
  have HFTT : Hid (FitT T ∧ T.length ≤ 4) := hidden ⟨HFT.out, by rw [HTL.out]; exact hq4⟩
  have HFG : Hid (G.length ≤ 1001 ∧ ∀ x ∈ G, -9223372036854775808 ≤ x ∧ x ≤ 9223372036854775807) := hidden ⟨by rw [HSL.out]; omega, HFS.out⟩
  have HO1e : Hid (wd.ownsRow w.heap.size 3 1 (.slice a1 N c1) L.length (intsV L)) := hidden (by rw [HN.out]; exact HO1d.out)
  have HO2e : Hid (wd.ownsRow w.heap.size 65 1 (.slice a2 q c2) T.length V) := hidden (by rw [HTL.out]; exact HO2d.out)
  have HO3e : Hid (wd.ownsRow w.heap.size 3 1 (.slice a3 Q c3) G.length (intsV G)) := hidden (by rw [HSL.out]; exact HO3d.out)
  clear r1 HO1c HO2 HO3 HR2 OC Od hcc hVl hapU
  by_cases p0 : r = 0
  · subst p0
    obtain ⟨gT, cT, hgT⟩ := Joins.ownsRow_form HO2d.out (by omega)
    simp only [Value.slice.injEq] at hgT
    obtain ⟨rfl, _, rfl⟩ := hgT
    have ba : Below wd.heap.size wd (wd.alloc (.cells #[] 3)) := (Below.refl _ _).alloc (Nat.le_refl _) _
    have hE0 : (wd.alloc (.cells #[] 3)).ownsRow wd.heap.size 3 1 (.slice (some ⟨wd.heap.size, 0, none⟩) 0 0) 0 [] := ⟨rfl, .inr ⟨wd.heap.size, 0, #[], rfl, Nat.le_refl _, Has.fresh wd _ _, Nat.le_refl _, Nat.zero_le _, rfl, rfl⟩⟩
    go_wp2_with fail
    refine (l3lensBent_any g B _ (hd.alloc _)).mono ?_
    rintro e we ⟨vb, zs, rfl, ob, z1, z14, hzr, he, Oe⟩
    have O1 := own_only (HO1e.out.alloc (.cells #[] 3)) Oe hgl
    have O2 := own_only (HO2e.out.alloc (.cells #[] 3)) Oe hgl
    have O3 := own_only (HO3e.out.alloc (.cells #[] 3)) Oe hgl
    have R2 := rows_only12 (HR2d.out.below ba) Oe hgl
    have E0 := own_only hE0 Oe (by omega)
    have OE := (OD.alloc (.cells #[] 3)).trans_ Oe
    have hse := OE.size
    have hwe := Oe.size
    simp at hwe
    clear ba hE0 Oe OD hd
    go_wp2_with (at_builtin; refine wpList_append_own2 rfl _ _ 24 rfl wd.heap.size 3 i0 (.int .i64 0) 8 Try.underlying24 hi hz0 hz1 hz2 rfl _ _ _ rfl E0 vb _ zs.length (intsV zs) rfl ob ?ce2 ?ce3 ?ce4 ?ce5 ?_)
    case ce2 => exact fun u hu => by unfold intsV at hu; obtain ⟨x, _, rfl⟩ := List.mem_map.1 hu; rfl
    case ce3 => unfold maxLen; omega
    case ce4 => omega
    case ce5 => omega
    intro v5 w6 hown3 hgrow _
    have hne : ∀ x : Value, (∀ k, x.ownBlock = some k → k < wd.heap.size) → x.ownBlock = none ∨ x.ownBlock ≠ (Value.slice (some ⟨wd.heap.size, 0, none⟩) 0 0).ownBlock := fun x hx => by
      cases ex : x.ownBlock with
      | none => exact .inl rfl
      | some k =>
        refine .inr (fun e => ?_)
        have := hx k ex
        simp [Value.ownBlock] at e
        omega
    have hO3 : Only g w w6 := OE.grownNew hgrow (fun q hq => by simp [Value.ownBlock] at hq; omega)
    have hc6 : Cur w6 g B := he.grown hgrow (fun q hq => by simp [Value.ownBlock] at hq; omega)
    have O1f := O1.kept hgrow (hne _ (fun k hk => (HO1e.out.lt k hk).2))
    have O2f := O2.kept hgrow (hne _ (fun k hk => (HO2e.out.lt k hk).2))
    have O3f := O3.kept hgrow (hne _ (fun k hk => (HO3e.out.lt k hk).2))
    have R2f := rows_kept12 R2 hgrow (fun x hx => hne x (fun k hk => by have := HVlt.out x hx k hk; omega))
    obtain ⟨a5, c5, rfl⟩ := own_shape hown3
    have O2q : w6.ownsRow w.heap.size 65 1 (.slice (some ⟨gT, 0, none⟩) q c2) q V := by
      have h := O2f
      rw [HTL.out] at h
      exact h
    have d0 := O2q.cellAt 0 (by omega)
    rw [List.getElem?_eq_getElem (by rw [HVL.out]; omega)] at d0
    have f0 := O2q.frozenAt 0
    have hst := O2q.stored 0 (.slice a5 zs.length c5)
    have hgT2 := (O2f.lt gT rfl)
    have O2g : (w6.setCell ⟨gT, 0, none⟩ (.slice a5 zs.length c5)).ownsRow w.heap.size 65 1 (.slice (some ⟨gT, 0, none⟩) q c2) (T.set 0 zs).length (V.set 0 (.slice a5 zs.length c5)) := by
      rw [List.length_set, HTL.out]
      exact hst.1
    have hown4 : w6.ownsRow w.heap.size 3 1 (.slice a5 zs.length c5) zs.length (intsV zs) := own_base12 hown3 (by omega)
    have O1g := O1f.kept hst.2 (types_ne12 O1f O2f (by decide))
    have O3g := O3f.kept hst.2 (types_ne12 O3f O2f (by decide))
    have hown5 := hown4.kept hst.2 (types_ne12 hown4 O2f (by decide))
    have R2g := rows_kept12 R2f hst.2 (fun x hx => by
      obtain ⟨j, hj, rfl⟩ := memV_getD hx
      exact types_ne12 (R2f.2 j (by rw [← R2f.1]; exact hj)) O2f (by decide))
    have R2h := R2g.put (i := 0) (by rw [HTL.out]; omega) hown5
    have hO4 : Only g w (w6.setCell ⟨gT, 0, none⟩ (.slice a5 zs.length c5)) := hO3.grownNew hst.2 (fun q hq => by simp [Value.ownBlock] at hq; omega)
    have hc7 : Cur (w6.setCell ⟨gT, 0, none⟩ (.slice a5 zs.length c5)) g B := hc6.grown hst.2 (fun q hq => by simp [Value.ownBlock] at hq; omega)
    have hfin := fin12 O1g O2g R2h O3g HFL.out ⟨HFT.out.set (by omega) (fun x hx => by have := hzr x hx; omega), by rw [List.length_set]; exact HFTT.out.2⟩ HFG.out
    have hq0 : (0 : Int) < (q : Int) := by omega
    clear hgrow hst hne
    go_wp2
    exact bodyPost_ret (v := .tuple #[.slice a1 N c1, .slice (some ⟨gT, 0, none⟩) q c2, .slice a3 Q c3]) (by simp [results, Try.results95, go_sem]) rfl ⟨_, rfl, hfin, hc7, hO4⟩
  by_cases p1 : r = 1
  · subst p1
    clear p0
    go_wp2_with fail
    refine (l1Below_any g B 5 _ hd (by omega)).mono ?_
    rintro e we ⟨y, rfl, y0, y1, _, he, Oe⟩
    have y2 := y1 (by omega)
    have O1 := own_only HO1e.out Oe hgl
    have O2 := own_only HO2e.out Oe hgl
    have O3 := own_only HO3d.out Oe hgl
    have R2 := rows_only12 HR2d.out Oe hgl
    have OE := OD.trans_ Oe
    have hse := OE.size
    have hel := he.lt
    clear y1 OD Oe hd
    go_wp2_with (at_builtin; refine wpList_append_own _ rfl _ _ 24 rfl w.heap.size 3 i0 (.int .i64 0) 1 8 Try.underlying24 hi hz0 hz1 hz2 rfl (by decide) _ _ _ rfl (O3.alloc _) ⟨we.heap.size, 0, none⟩ 1 1 [.int .i64 y] rfl rfl ?cb2 ?cb3 ?cb4 ?cb5 ?cb6 ?_)
    case cb2 => exact cell_one' _ _ _
    case cb3 => exact fun u hu => by simp at hu; subst hu; rfl
    case cb4 => unfold maxLen; omega
    case cb5 => omega
    case cb6 => simp; omega
    intro v5 w6 hown3 hgrow _
    have hown3 : w6.ownsRow w.heap.size 3 1 v5 (G ++ [y]).length (intsV (G ++ [y])) := by
      rw [intsV_snoc, List.length_append, HSL.out]
      exact hown3
    have hO3 : Only g w w6 := (OE.alloc _).grownNew hgrow (fun q hq => (O3.lt q hq).1)
    have hc6 : Cur w6 g B := (he.alloc _).grown hgrow (fun q hq => by have := (O3.lt q hq).1; omega)
    have O1f := (O1.alloc (.cells #[.int .i64 y] 3)).kept hgrow HL3.out
    have O2f := (O2.alloc (.cells #[.int .i64 y] 3)).kept hgrow (types_ne12 O2 O3 (by decide))
    have R2f := rows_kept12 (R2.below ((Below.refl we.heap.size we).alloc (Nat.le_refl _) (.cells #[.int .i64 y] 3))) hgrow (fun x hx => ne_sym12 (HU3.out x hx))
    have hfin := fin12 O1f O2f R2f hown3 HFL.out HFTT.out ⟨by rw [List.length_append, HSL.out]; simp; omega, fun x hx => by
      rcases List.mem_append.1 hx with h | h
      · exact HFS.out x h
      · simp at h; subst h; omega⟩
    clear hgrow
    go_wp2
    exact bodyPost_ret (v := .tuple #[.slice a1 N c1, .slice a2 q c2, v5]) (by simp [results, Try.results95, go_sem]) rfl ⟨_, rfl, hfin, hc6, hO3⟩
  by_cases p2 : r = 2
  · subst p2
    clear p0 p1
    by_cases hQ0 : Q = 0
    · subst hQ0
      have hfin := fin12 HO1e.out HO2e.out HR2d.out HO3e.out HFL.out HFTT.out HFG.out
      go_wp2
      exact bodyPost_ret (v := .tuple #[.slice a1 N c1, .slice a2 q c2, .slice a3 0 c3]) (by simp [results, Try.results95, go_sem]) rfl ⟨_, rfl, hfin, hd, OD⟩
    · have hQI : (0 : Int) < (Q : Int) := by omega
      go_wp2_with fail
      refine (l1Below_any g B Q _ hd (by omega)).mono ?_
      rintro e we ⟨x, rfl, x0, x1, _, he, Oe⟩
      have x2 := x1 hQI
      obtain ⟨i, rfl⟩ : ∃ i : Nat, x = i := ⟨x.toNat, by omega⟩
      have hiQ : i < Q := by omega
      clear x1
      go_wp2_with fail
      refine (l1Below_any g B 6 _ he (by omega)).mono ?_
      rintro e w5 ⟨y, rfl, y0, y1, _, h5, O5⟩
      have y2 := y1 (by omega)
      have OE := (OD.trans_ Oe).trans_ O5
      have Oe5 := Oe.trans_ O5
      have O1 := own_only HO1e.out Oe5 hgl
      have O2 := own_only HO2e.out Oe5 hgl
      have O3 := own_only HO3d.out Oe5 hgl
      have R2 := rows_only12 HR2d.out Oe5 hgl
      obtain ⟨gs, cs', hgs⟩ := Joins.ownsRow_form O3 (by omega)
      simp only [Value.slice.injEq] at hgs
      obtain ⟨rfl, _, rfl⟩ := hgs
      have d0 := O3.cellAt i (by omega)
      rw [intsV_get G i (by rw [HSL.out]; exact hiQ)] at d0
      have f0 := O3.frozenAt i
      have hst := O3.stored i (.int .i64 (y - 1))
      rw [intsV_set] at hst
      have O3f : (w5.setCell ⟨gs, i, none⟩ (.int .i64 (y - 1))).ownsRow w.heap.size 3 1 (.slice (some ⟨gs, 0, none⟩) Q c3) (G.set i (y - 1)).length (intsV (G.set i (y - 1))) := by
        rw [List.length_set, HSL.out]
        exact hst.1
      have hgrow := hst.2
      have hO3 : Only g w (w5.setCell ⟨gs, i, none⟩ (.int .i64 (y - 1))) := OE.grownNew hgrow (fun q hq => (O3.lt q hq).1)
      have hc6 : Cur (w5.setCell ⟨gs, i, none⟩ (.int .i64 (y - 1))) g B := h5.grown hgrow (fun q hq => by have := (O3.lt q hq).1; omega)
      have O1f := O1.kept hgrow HL3.out
      have O2f := O2.kept hgrow (types_ne12 O2 O3 (by decide))
      have R2f := rows_kept12 R2 hgrow (fun x hx => ne_sym12 (HU3.out x hx))
      have hfin := fin12 O1f O2f R2f O3f HFL.out HFTT.out ⟨by rw [List.length_set, HSL.out]; omega, fun x hx => by
        rcases List.mem_or_eq_of_mem_set hx with h | h
        · exact HFS.out x h
        · subst h; omega⟩
      clear hgrow hst y1 Oe O5 Oe5
      go_wp2
      exact bodyPost_ret (v := .tuple #[.slice a1 N c1, .slice a2 q c2, .slice (some ⟨gs, 0, none⟩) Q c3]) (by simp [results, Try.results95, go_sem]) rfl ⟨_, rfl, hfin, hc6, hO3⟩
  by_cases p3 : r = 3
  · subst p3
    clear p0 p1 p2
    have hfin := fin12 (v2 := .slice none 0 0) (T := []) (V := []) HO1e.out (World.ownsRow_nil _ _ _ _) (RowsAt.nil _ _) HO3e.out HFL.out (⟨(fun i hi => by simp at hi), by decide⟩ : FitT [] ∧ ([] : List (List Int)).length ≤ 4) HFG.out
    go_wp2
    exact bodyPost_ret (v := .tuple #[.slice a1 N c1, .slice none 0 0, .slice a3 Q c3]) (by simp [results, Try.results95, go_sem]) rfl ⟨_, rfl, hfin, hd, OD⟩
  by_cases p4 : r = 4
  · subst p4
    clear p0 p1 p2 p3
    go_wp2_with fail
    refine (l1PickInt_any g B wd.heap.size 3 _ [0, (m : Int), -1] _ (hd.alloc _) (by omega) (by omega) (by omega) ?_).mono ?_
    · intro j hj
      rw [(Has.fresh wd _ _).cell j]
      rcases j with _ | _ | _ | j <;> first | rfl | omega
    rintro e we ⟨j, hj, rfl, he, Oe⟩
    have hpk : -1 ≤ ([0, (m : Int), -1] : List Int).getD j 0 ∧ ([0, (m : Int), -1] : List Int).getD j 0 ≤ 8 := by
      rcases j with _ | _ | _ | j <;> simp <;> omega
    obtain ⟨y, hy⟩ : ∃ y, ([0, (m : Int), -1] : List Int).getD j 0 = y := ⟨_, rfl⟩
    rw [hy] at hpk ⊢
    have ba : Below wd.heap.size wd (wd.alloc (.cells #[.int .i64 0, .int .i64 (m : Int), .int .i64 (-1)] 3)) := (Below.refl _ _).alloc (Nat.le_refl _) _
    have O1 := own_only (HO1d.out.alloc (.cells #[.int .i64 0, .int .i64 (m : Int), .int .i64 (-1)] 3)) Oe hgl
    have O2 := own_only (HO2e.out.alloc (.cells #[.int .i64 0, .int .i64 (m : Int), .int .i64 (-1)] 3)) Oe hgl
    have O3 := own_only (HO3e.out.alloc (.cells #[.int .i64 0, .int .i64 (m : Int), .int .i64 (-1)] 3)) Oe hgl
    have R2 := rows_only12 (HR2d.out.below ba) Oe hgl
    have OE := (OD.alloc (.cells #[.int .i64 0, .int .i64 (m : Int), .int .i64 (-1)] 3)).trans_ Oe
    have hse := OE.size
    clear hy ba hj Oe OD hd
    go_wp2_with (at_builtin; refine wpList_append_own _ rfl _ _ 24 rfl w.heap.size 3 i0 (.int .i64 0) 1 8 Try.underlying24 hi hz0 hz1 hz2 rfl (by decide) _ _ _ rfl (O1.alloc _) ⟨we.heap.size, 0, none⟩ 1 1 [.int .i64 y] rfl rfl ?cd2 ?cd3 ?cd4 ?cd5 ?cd6 ?_)
    case cd2 => exact cell_one' _ _ _
    case cd3 => exact fun u hu => by simp at hu; subst hu; rfl
    case cd4 => unfold maxLen; omega
    case cd5 => omega
    case cd6 => simp; omega
    intro v5 w6 hown3 hgrow _
    have hown3 : w6.ownsRow w.heap.size 3 1 v5 (L ++ [y]).length (intsV (L ++ [y])) := by
      rw [intsV_snoc, List.length_append, HN.out]
      exact hown3
    have hO3 : Only g w w6 := (OE.alloc _).grownNew hgrow (fun q hq => (O1.lt q hq).1)
    have hc6 : Cur w6 g B := (he.alloc _).grown hgrow (fun q hq => by have := (O1.lt q hq).1; omega)
    have O3f := (O3.alloc (.cells #[.int .i64 y] 3)).kept hgrow (ne_sym12 HL3.out)
    have O2f := (O2.alloc (.cells #[.int .i64 y] 3)).kept hgrow (types_ne12 O2 O1 (by decide))
    have R2f := rows_kept12 (R2.below ((Below.refl we.heap.size we).alloc (Nat.le_refl _) (.cells #[.int .i64 y] 3))) hgrow (fun x hx => ne_sym12 (HLV.out x hx))
    have hfin := fin12 hown3 O2f R2f O3f ⟨by rw [List.length_append, HN.out]; simp; omega, fun x hx => by
      rcases List.mem_append.1 hx with h | h
      · have := HL.out x h; omega
      · simp at h; subst h; omega⟩ HFTT.out HFG.out
    clear hgrow
    go_wp2
    exact bodyPost_ret (v := .tuple #[v5, .slice a2 q c2, .slice a3 Q c3]) (by simp [results, Try.results95, go_sem]) rfl ⟨_, rfl, hfin, hc6, hO3⟩
  · have q0 : (r == 0) = false := by simpa using p0
    have hfin := fin12 HO1e.out HO2e.out HR2d.out HO3e.out HFL.out HFTT.out HFG.out
    go_wp2
    exact bodyPost_ret (v := .tuple #[.slice a1 N c1, .slice a2 q c2, .slice a3 Q c3]) (by simp [results, Try.results95, go_sem]) rfl ⟨_, rfl, hfin, hd, OD⟩
end Go.Proofs.Ytaaahmfkdiogkaa
namespace Go.Proofs.Ytaaahmfkdiogkaa
set_option linter.unusedVariables false
set_option linter.unusedSimpArgs false
open Go.RowKit

set_option maxHeartbeats 2000000 in
set_option maxRecDepth 100000 in
theorem drawPutCoded_any (a : Option Addr) (len cap : Nat) (zs : List Int) (w : World) (hcode : Code w w.heap.size a len cap zs) :
    Calls Try.prog 48 #[.slice a len cap] w fun e w' => ∃ x, e = .returned x ∧ Drawn12 w' x ∧ Below w.heap.size w w' := by
  have hl := hcode.1
  go_enter Try.func48, Try.ntmps48
  go_wp2_with fail
  refine (l1New_any _ _ _ _ _ hcode).mono ?_
  rintro e w1 ⟨g, rfl, hc1, b1⟩
  have hg := hc1.1
  go_wp2_with fail
  refine (l1Size_any a len cap 60 _ (by omega) (by omega) (by omega)).mono ?_
  rintro e w2 ⟨m, rfl, m0, m1, hw⟩
  subst hw
  obtain ⟨q, rfl⟩ : ∃ q : Nat, m = q := ⟨m.toNat, by omega⟩
  go_wp2_with fail
  refine (l12all_any g _ q _ hc1 (by omega)).mono ?_
  rintro e w3 ⟨x, rfl, hD, hc3, O3⟩
  have B3 := only_then O3 hg b1.size b1
  obtain ⟨a1, c1, L, a2, c2, T, a3, c3, G, rfl, h1, h2, h3⟩ := hD
  have HD : Hid (Drawn12 w3 (.tuple #[.slice a1 L.length c1, .slice a2 T.length c2, .slice a3 G.length c3])) := hidden ⟨a1, c1, L, a2, c2, T, a3, c3, G, rfl, h1, h2, h3⟩
  clear h1 h2 h3 O3 hc3 hc1
  go_wp2
  exact bodyPost_ret (v := .tuple #[.slice a1 L.length c1, .slice a2 T.length c2, .slice a3 G.length c3]) (by simp [results, Try.results48, go_sem]) rfl ⟨_, rfl, HD.out, B3⟩
set_option maxHeartbeats 4000000 in
set_option maxRecDepth 100000 in
theorem drawChoose_any (a : Option Addr) (len cap : Nat) (zs : List Int) (w : World) (hcode : Code w w.heap.size a len cap zs) :
    Calls Try.prog 43 #[.slice a len cap] w fun e w' => ∃ v L n k, e = .returned (.tuple #[v, .int .i64 n, .int .i64 k]) ∧ w'.ownsRow w.heap.size 3 1 v L.length (intsV L) ∧ L.length ≤ 91 ∧ (∀ x ∈ L, -1 ≤ x ∧ x ≤ 8) ∧ 0 ≤ n ∧ n ≤ 261 ∧ 0 ≤ k ∧ k ≤ 5 ∧ Below w.heap.size w w' := by
  obtain ⟨i0, hi, hz0, hz1, hz2⟩ := info_parts Try.infoI
  have hl := hcode.1
  go_enter Try.func43, Try.ntmps43
  go_wp2_with fail
  refine (l1New_any _ _ _ _ _ hcode).mono ?_
  rintro e w1 ⟨g, rfl, hc1, b1⟩
  have hg := hc1.1
  have hg1 := hc1.lt
  go_wp2_with fail
  refine (l1Size_any a len cap 90 _ (by omega) (by omega) (by omega)).mono ?_
  rintro e w2 ⟨m, rfl, m0, m1, hw⟩
  subst hw
  obtain ⟨q, rfl⟩ : ∃ q : Nat, m = q := ⟨m.toNat, by omega⟩
  go_wp2_with fail
  refine (l12draw_any g _ q _ hc1 (by omega)).mono ?_
  rintro e w3 ⟨v, L, n, rfl, own3, l3, r3, n1, n8, hc3, O3⟩
  have hs13 := O3.size
  obtain ⟨N, hN⟩ : ∃ N, L.length = N := ⟨_, rfl⟩
  rw [hN] at own3 l3
  have HN := hidden hN
  have HR := hidden r3
  clear hN r3 hc1
  go_wp2_with fail
  refine (l1Below_any g _ 14 _ hc3 (by omega)).mono ?_
  rintro e w4 ⟨r, rfl, r0, r1, _, hc4, O4⟩
  have own4 := own_only own3 O4 hg1
  have O14 := O3.trans_ O4
  have hs4 := O14.size
  clear r1 own3 O3 O4 hc3
  by_cases p0 : r = 0
  · subst p0
    go_wp2_with fail
    refine (l1PickInt_any g w.heap.size w4.heap.size 2 _ [n, -1] _ (hc4.alloc _) (by omega) (by omega) (by have := hc4.lt; omega) ?_).mono ?_
    · intro j hj
      rw [(Has.fresh w4 _ _).cell j]
      rcases j with _ | _ | j <;> first | rfl | omega
    rintro e w5 ⟨j, hj, rfl, hc5, O5⟩
    have hpk : -1 ≤ ([n, -1] : List Int).getD j 0 ∧ ([n, -1] : List Int).getD j 0 ≤ 8 := by
      rcases j with _ | _ | j <;> simp <;> omega
    obtain ⟨y, hy⟩ : ∃ y, ([n, -1] : List Int).getD j 0 = y := ⟨_, rfl⟩
    rw [hy] at hpk ⊢
    have own5 := own_only (own4.alloc (.cells #[.int .i64 n, .int .i64 (-1)] 3)) O5 hg1
    have O15 := (O14.alloc (.cells #[.int .i64 n, .int .i64 (-1)] 3)).trans_ O5
    have hs5 := O15.size
    clear hy own4 O14 O5 hc4 hj
    go_wp2_with (at_builtin; refine wpList_append_own _ rfl _ _ 24 rfl w1.heap.size 3 i0 (.int .i64 0) 1 8 Try.underlying24 hi hz0 hz1 hz2 rfl (by decide) _ _ _ rfl (own5.alloc _) ⟨w5.heap.size, 0, none⟩ 1 1 [.int .i64 y] rfl rfl ?cb2 ?cb3 ?cb4 ?cb5 ?cb6 ?_)
    case cb2 => exact cell_one' _ _ _
    case cb3 => exact fun u hu => by simp at hu; subst hu; rfl
    case cb4 => unfold maxLen; omega
    case cb5 => omega
    case cb6 => simp; omega
    intro v6 w6 own6 hgrow _
    have own6 : w6.ownsRow w1.heap.size 3 1 v6 (L ++ [y]).length (intsV (L ++ [y])) := by
      rw [intsV_snoc, List.length_append, HN.out]
      exact own6
    have O16 : Only g w1 w6 := (O15.alloc _).grownNew hgrow (fun q hq => (own5.lt q hq).1)
    have hc6 : Cur w6 g w.heap.size := (hc5.alloc _).grown hgrow (fun q hq => by have := (own5.lt q hq).1; omega)
    have HL6 : (L ++ [y]).length = N + 1 := by simp [HN.out]
    have HR6 : Hid (∀ x ∈ L ++ [y], -1 ≤ x ∧ x ≤ 8) := hidden (fun x hx => by
      rcases List.mem_append.1 hx with h | h
      · have := HR.out x h; omega
      · simp at h; subst h; omega)
    have HL7 : Hid ((L ++ [y]).length ≤ 91) := hidden (by omega)
    clear hgrow HL6
    go_wp2_with fail
    refine (l1PickInt_any g w.heap.size w6.heap.size 7 _ [1, 2, 2, 3, 4, 0, 5] _ (hc6.alloc _) (by omega) (by omega) (by have := hc6.lt; omega) ?_).mono ?_
    · intro j hj
      rw [(Has.fresh w6 _ _).cell j]
      rcases j with _ | _ | _ | _ | _ | _ | _ | j <;> first | rfl | omega
    rintro e wz ⟨jz, hjz, rfl, hcz, Oz⟩
    have hkz : 0 ≤ ([1, 2, 2, 3, 4, 0, 5] : List Int).getD jz 0 ∧ ([1, 2, 2, 3, 4, 0, 5] : List Int).getD jz 0 ≤ 5 := by
      rcases jz with _ | _ | _ | _ | _ | _ | _ | jz <;> first | decide | omega
    obtain ⟨z, hz⟩ : ∃ z, ([1, 2, 2, 3, 4, 0, 5] : List Int).getD jz 0 = z := ⟨_, rfl⟩
    rw [hz] at hkz ⊢
    have ownz := own_only (own6.alloc (.cells #[.int .i64 1, .int .i64 2, .int .i64 2, .int .i64 3, .int .i64 4, .int .i64 0, .int .i64 5] 3)) Oz hg1
    have OZ := (O16.alloc (.cells #[.int .i64 1, .int .i64 2, .int .i64 2, .int .i64 3, .int .i64 4, .int .i64 0, .int .i64 5] 3)).trans_ Oz
    have BZ := only_then OZ hg b1.size b1
    have ownz' := Joins.ownsRow_le ownz b1.size
    clear hz Oz ownz hjz
    go_wp2
    exact bodyPost_ret (v := .tuple #[v6, .int .i64 n, .int .i64 z]) (by simp [results, Try.results43, go_sem]) rfl ⟨_, L ++ [y], n, z, rfl, ownz', HL7.out, HR6.out, by omega, by omega, by omega, by omega, BZ⟩
  by_cases p1 : r = 1
  · subst p1
    clear p0
    go_wp2_with fail
    refine (l1PickInt_any g w.heap.size w4.heap.size 3 _ [0, 260, 261] _ (hc4.alloc _) (by omega) (by omega) (by have := hc4.lt; omega) ?_).mono ?_
    · intro j hj
      rw [(Has.fresh w4 _ _).cell j]
      rcases j with _ | _ | _ | j <;> first | rfl | omega
    rintro e w5 ⟨j, hj, rfl, hc5, O5⟩
    have hpk : 0 ≤ ([0, 260, 261] : List Int).getD j 0 ∧ ([0, 260, 261] : List Int).getD j 0 ≤ 261 := by
      rcases j with _ | _ | _ | j <;> first | decide | omega
    obtain ⟨y, hy⟩ : ∃ y, ([0, 260, 261] : List Int).getD j 0 = y := ⟨_, rfl⟩
    rw [hy] at hpk ⊢
    have own5 := own_only (own4.alloc (.cells #[.int .i64 0, .int .i64 260, .int .i64 261] 3)) O5 hg1
    have O15 := (O14.alloc (.cells #[.int .i64 0, .int .i64 260, .int .i64 261] 3)).trans_ O5
    have hs5 := O15.size
    have HR6 : Hid (∀ x ∈ L, -1 ≤ x ∧ x ≤ 8) := hidden (fun x hx => by have := HR.out x hx; omega)
    have HL7 : Hid (L.length ≤ 91) := hidden (by rw [HN.out]; omega)
    clear hy own4 O14 O5 hc4 hj
    go_wp2_with fail
    refine (l1PickInt_any g w.heap.size w5.heap.size 7 _ [1, 2, 2, 3, 4, 0, 5] _ (hc5.alloc _) (by omega) (by omega) (by have := hc5.lt; omega) ?_).mono ?_
    · intro j hj
      rw [(Has.fresh w5 _ _).cell j]
      rcases j with _ | _ | _ | _ | _ | _ | _ | j <;> first | rfl | omega
    rintro e wz ⟨jz, hjz, rfl, hcz, Oz⟩
    have hkz : 0 ≤ ([1, 2, 2, 3, 4, 0, 5] : List Int).getD jz 0 ∧ ([1, 2, 2, 3, 4, 0, 5] : List Int).getD jz 0 ≤ 5 := by
      rcases jz with _ | _ | _ | _ | _ | _ | _ | jz <;> first | decide | omega
    obtain ⟨z, hz⟩ : ∃ z, ([1, 2, 2, 3, 4, 0, 5] : List Int).getD jz 0 = z := ⟨_, rfl⟩
    rw [hz] at hkz ⊢
    have ownz := own_only (own5.alloc (.cells #[.int .i64 1, .int .i64 2, .int .i64 2, .int .i64 3, .int .i64 4, .int .i64 0, .int .i64 5] 3)) Oz hg1
    have OZ := (O15.alloc (.cells #[.int .i64 1, .int .i64 2, .int .i64 2, .int .i64 3, .int .i64 4, .int .i64 0, .int .i64 5] 3)).trans_ Oz
    have BZ := only_then OZ hg b1.size b1
    have ownz' := Joins.ownsRow_le ownz b1.size
    clear hz Oz ownz hjz
    go_wp2
    exact bodyPost_ret (v := .tuple #[v, .int .i64 y, .int .i64 z]) (by simp [results, Try.results43, go_sem]) rfl ⟨_, L, y, z, rfl, by rw [HN.out]; exact ownz', HL7.out, HR6.out, by omega, by omega, by omega, by omega, BZ⟩
  · have q0 : (r == 0) = false := by simpa using p0
    have q1 : (r == 1) = false := by simpa using p1
    have HR6 : Hid (∀ x ∈ L, -1 ≤ x ∧ x ≤ 8) := hidden (fun x hx => by have := HR.out x hx; omega)
    have HL7 : Hid (L.length ≤ 91) := hidden (by rw [HN.out]; omega)
    go_wp2_with fail
    refine (l1PickInt_any g w.heap.size w4.heap.size 7 _ [1, 2, 2, 3, 4, 0, 5] _ (hc4.alloc _) (by omega) (by omega) (by have := hc4.lt; omega) ?_).mono ?_
    · intro j hj
      rw [(Has.fresh w4 _ _).cell j]
      rcases j with _ | _ | _ | _ | _ | _ | _ | j <;> first | rfl | omega
    rintro e wz ⟨jz, hjz, rfl, hcz, Oz⟩
    have hkz : 0 ≤ ([1, 2, 2, 3, 4, 0, 5] : List Int).getD jz 0 ∧ ([1, 2, 2, 3, 4, 0, 5] : List Int).getD jz 0 ≤ 5 := by
      rcases jz with _ | _ | _ | _ | _ | _ | _ | jz <;> first | decide | omega
    obtain ⟨z, hz⟩ : ∃ z, ([1, 2, 2, 3, 4, 0, 5] : List Int).getD jz 0 = z := ⟨_, rfl⟩
    rw [hz] at hkz ⊢
    have ownz := own_only (own4.alloc (.cells #[.int .i64 1, .int .i64 2, .int .i64 2, .int .i64 3, .int .i64 4, .int .i64 0, .int .i64 5] 3)) Oz hg1
    have OZ := (O14.alloc (.cells #[.int .i64 1, .int .i64 2, .int .i64 2, .int .i64 3, .int .i64 4, .int .i64 0, .int .i64 5] 3)).trans_ Oz
    have BZ := only_then OZ hg b1.size b1
    have ownz' := Joins.ownsRow_le ownz b1.size
    clear hz Oz ownz hjz
    go_wp2
    exact bodyPost_ret (v := .tuple #[v, .int .i64 n, .int .i64 z]) (by simp [results, Try.results43, go_sem]) rfl ⟨_, L, n, z, rfl, by rw [HN.out]; exact ownz', HL7.out, HR6.out, by omega, by omega, by omega, by omega, BZ⟩
end Go.Proofs.Ytaaahmfkdiogkaa
namespace Go.Proofs.Ytaaahmfkdiogkaa
set_option linter.unusedVariables false
set_option linter.unusedSimpArgs false
open Go.RowKit

def cdS (S : List Int) : List Nat := (List.range S.length).map fun i => (S.getD i 0).toNat
theorem cdS_len (S : List Int) : (cdS S).length = S.length := by simp [cdS]
theorem cdS_cells {S : List Int} (h : ∀ k, k < S.length → 0 ≤ S.getD k 0) : natsL (cdS S) = intsV S := by
  apply List.ext_getElem
  · simp [natsL, intsV, cdS]
  · intro i h1 h3
    have hi : i < S.length := by simpa [natsL, cdS] using h1
    have := h i hi
    simp only [natsL, intsV, cdS, List.getElem_map, List.getElem_range]
    rw [Int.toNat_of_nonneg this]
    simp [List.getD_eq_getElem?_getD, hi]
theorem cdS_drop {S : List Int} {i : Nat} (h : i < S.length) : (cdS S).drop i = (S.getD i 0).toNat :: (cdS S).drop (i + 1) := by
  rw [List.drop_eq_getElem_cons (by rw [cdS_len]; exact h)]
  simp [cdS]
theorem cpF_pre (S : List Int) (T : List (List Int)) (G : List Int) (k : Nat) : ∀ m, k ≤ m → ∃ R, cpF S T G m = cpF S T G k ++ R
  | 0, h => by
    obtain rfl : k = 0 := by omega
    exact ⟨[], by simp⟩
  | m + 1, h => by
    by_cases e : k = m + 1
    · subst e; exact ⟨[], by simp⟩
    · obtain ⟨R, hR⟩ := cpF_pre S T G k m (by omega)
      refine ⟨R ++ symBits1 (tabOf T G m) (S.getD m 0).toNat, ?_⟩
      show cpF S T G m ++ _ = _
      rw [hR, List.append_assoc]
theorem coded_hit {S : List Int} {T : List (List Int)} {G : List Int} {n : Nat} (hA : CdArg S T G n) {s : ByteArray} (hrow : row s 0 (cpF S T G S.length).length = cpF S T G S.length) (hs : (cpF S T G S.length).length ≤ 8 * s.size) :
    ∀ i, i < S.length → hit (tabOf T G i) s (cpN S T G i) (lnF (tabOf T G i) (S.getD i 0).toNat) (S.getD i 0).toNat := by
  intro i hi
  obtain ⟨k, x, hk, hx, e1, e2, e3, _⟩ := hA.of hi
  obtain ⟨h1, h2⟩ := hA.tab k hk
  obtain ⟨R, hR⟩ := cpF_pre S T G (i + 1) S.length hi
  have hlen := congrArg List.length hR
  rw [List.length_append, cpF_len S T G (i + 1)] at hlen
  have hl2 : cpN S T G (i + 1) = cpN S T G i + lnF (tabOf T G i) (S.getD i 0).toNat := rfl
  have hx2 : (S.getD i 0).toNat < (tabOf T G i).length := by rw [e3, h1, e2, Int.toNat_natCast]; exact hx
  refine ⟨hx2, rfl, by omega, ?_⟩
  have e := hrow.symm.trans (row_three s (cpN S T G i) (lnF (tabOf T G i) (S.getD i 0).toNat) (cpF S T G S.length).length (by omega))
  have hst : cpF S T G (i + 1) = cpF S T G i ++ symBits1 (tabOf T G i) (S.getD i 0).toNat := rfl
  rw [hst] at hR
  rw [e] at hR
  have hlr : (row s 0 (cpN S T G i)).length = (cpF S T G i).length := by rw [row_len, cpF_len]
  rw [List.append_assoc, List.append_assoc] at hR
  have h3 := (List.append_inj hR hlr).2
  have h4 := (List.append_inj h3 (by rw [row_len]; unfold symBits1; rw [nbits_len])).1
  rw [h4]
  unfold symBits1
  exact num_nbits _ _ (cdF_lt (by rw [e3]; exact h2) _ hx2)
theorem coded_fin {S : List Int} {T : List (List Int)} {G : List Int} {n : Nat} {e : Int} (hA : CdArg S T G n) (hS : S.length ≤ 2000) (hpos : 0 < S.length) {s : ByteArray} (hrow : row s 0 (cpF S T G S.length).length = cpF S T G S.length) (hs : (cpF S T G S.length).length ≤ 8 * s.size)
    (hend : S.getD (S.length - 1) 0 = e) (hne : ∀ i, i + 1 < S.length → S.getD i 0 ≠ e) : Fin12 s T G e 0 0 (cdS S) (cpN S T G S.length) := by
  have key : ∀ d i, i + d + 1 = S.length → Fin12 s T G e (cpN S T G i) i ((cdS S).drop i) (cpN S T G S.length) := by
    intro d
    induction d with
    | zero =>
      intro i hi
      have hil : i < S.length := by omega
      have hh := coded_hit hA hrow hs i hil
      have hl2 : cpN S T G (i + 1) = cpN S T G i + lnF (tabOf T G i) (S.getD i 0).toNat := rfl
      have h0 := (hA.sym i hil).1
      have he : S.getD i 0 = e := by rw [← hend]; congr 1; omega
      rw [cdS_drop hil, List.drop_of_length_le (by rw [cdS_len]; omega), show S.length = i + 1 by omega, hl2]
      exact .last _ _ _ _ (by omega) hh (by rw [Int.toNat_of_nonneg h0]; exact he) (by rw [hA.len]; congr 1)
    | succ d ih =>
      intro i hi
      have hil : i < S.length := by omega
      have hh := coded_hit hA hrow hs i hil
      have hl2 : cpN S T G (i + 1) = cpN S T G i + lnF (tabOf T G i) (S.getD i 0).toNat := rfl
      have h0 := (hA.sym i hil).1
      have h := ih (i + 1) (by omega)
      rw [hl2] at h
      rw [cdS_drop hil]
      exact .more _ _ _ _ _ _ (by omega) hh (by rw [Int.toNat_of_nonneg h0]; exact hne i (by omega)) h
  have h := key (S.length - 1) 0 (by omega)
  exact h
theorem bitG_cp {S : List Int} {T : List (List Int)} {G : List Int} {n g : Nat} (hA : CdArg S T G n) (hg : g < G.length) : ∀ c, c ≤ 10 → bitF S (T.getD (G.getD g 0).toNat []) (10 * g) c + (cpN S T G (min (10 * g) S.length) : Int) = (cpN S T G (min (10 * g + c) S.length) : Int)
  | 0, _ => by simp [bitF]
  | c + 1, hc => by
    have ih := bitG_cp hA hg c (by omega)
    have e : bitF S (T.getD (G.getD g 0).toNat []) (10 * g) (c + 1) = bitF S (T.getD (G.getD g 0).toNat []) (10 * g) c + if 10 * g + c < S.length then (T.getD (G.getD g 0).toNat []).getD (S.getD (10 * g + c) 0).toNat 0 else 0 := rfl
    by_cases h : 10 * g + c < S.length
    · rw [e, if_pos h, show min (10 * g + (c + 1)) S.length = (10 * g + c) + 1 by omega]
      rw [show min (10 * g + c) S.length = 10 * g + c by omega] at ih
      obtain ⟨k, x, hk, hx, e1, e2, e3, _⟩ := hA.of h
      obtain ⟨t1, t2⟩ := hA.tab k hk
      have hd : (10 * g + c) / 10 = g := by omega
      rw [hd] at e1
      have et : tabOf T G (10 * g + c) = T.getD (G.getD g 0).toNat [] := by unfold tabOf; rw [hd]
      have h3 : cpN S T G ((10 * g + c) + 1) = cpN S T G (10 * g + c) + lnF (tabOf T G (10 * g + c)) (S.getD (10 * g + c) 0).toNat := rfl
      have hlen : (T.getD (G.getD g 0).toNat []).length = n := by rw [e1, Int.toNat_natCast]; exact t1
      have hlo : lOk (T.getD (G.getD g 0).toNat []) = true := by rw [e1, Int.toNat_natCast]; exact t2
      have h2 := lnF_int (lOk_range hlo) (S.getD (10 * g + c) 0).toNat (by rw [hlen, e2, Int.toNat_natCast]; exact hx)
      rw [h2, h3, et]
      omega
    · rw [e, if_neg h, show min (10 * g + (c + 1)) S.length = min (10 * g + c) S.length by omega]
      omega
theorem cbF_cp {S : List Int} {T : List (List Int)} {G : List Int} {n : Nat} (hA : CdArg S T G n) : ∀ g, g ≤ G.length → cbF S T G g = (cpN S T G (min (10 * g) S.length) : Int)
  | 0, _ => by simp [cbF, cpN]
  | g + 1, hg => by
    have ih := cbF_cp hA g (by omega)
    have e : cbF S T G (g + 1) = cbF S T G g + bitG S (T.getD (G.getD g 0).toNat []) g := rfl
    have h := bitG_cp hA (show g < G.length by omega) 10 (by omega)
    rw [e, ih]
    show _ + bitF S (T.getD (G.getD g 0).toNat []) (10 * g) 10 = _
    rw [show 10 * (g + 1) = 10 * g + 10 by omega, ← h]
    omega
theorem cbZ_cp {S : List Int} {T : List (List Int)} {G : List Int} (h : cdOk S T G = true) : cbZ S T G = (cpN S T G S.length : Int) := by
  have hA := cdOk_arg h
  unfold cbZ
  rw [if_pos h, cbF_cp hA _ (Nat.le_refl _), show min (10 * G.length) S.length = S.length by rw [hA.len]; unfold grp; omega]
theorem coded_back {S : List Int} {T : List (List Int)} {G : List Int} (h : cdOk S T G = true) {D : List Nat} (hD : Packs D (cpF S T G S.length)) : row (strOf D) 0 (cpF S T G S.length).length = cpF S T G S.length ∧ (cpF S T G S.length).length ≤ 8 * (strOf D).size ∧ (strOf D).size ≤ 1048576 ∧ cpN S T G S.length ≤ 40000 := by
  have hA := cdOk_arg h
  have hS := ((rowB_iff _ _).1 ((cdOk_iff S T G).1 h).2.1).2.1
  have h3 := cpN_le hA S.length (Nat.le_refl _)
  have hl := cpF_len S T G S.length
  have hk := packs_ok hD (by omega)
  have hz := hD.len
  have hsz : (strOf D).size = (cpN S T G S.length + 7) / 8 := by rw [strOf_size, hz, hl]
  exact ⟨hk.2, by rw [hl, hsz]; omega, by rw [hsz]; omega, by omega⟩
theorem coded_gd {S : List Int} {T : List (List Int)} {G : List Int} (h : cdOk S T G = true) : gdOk T G = true := by
  obtain ⟨h1, h2, h3, h4⟩ := (cdOk_iff S T G).1 h
  have hS := ((rowB_iff _ _).1 h2).2.1
  exact (gdOk_iff T G).2 ⟨h1, by rw [h3]; unfold grp; omega, h4⟩
theorem coded_all {S : List Int} {T : List (List Int)} {G : List Int} (h : cdOk S T G = true) {D : List Nat} (hD : Packs D (cpF S T G S.length)) : (strOf D).size ≤ 1048576 ∧ cpN S T G S.length ≤ 40000 ∧
    (∀ e, 0 < S.length → S.getD (S.length - 1) 0 = e → (∀ i, i + 1 < S.length → S.getD i 0 ≠ e) → Fin12 (strOf D) T G e 0 0 (cdS S) (cpN S T G S.length)) := by
  obtain ⟨h1, h2, h3, h4⟩ := coded_back h hD
  have hS := ((rowB_iff _ _).1 ((cdOk_iff S T G).1 h).2.1).2.1
  exact ⟨h3, h4, fun e hp he hn => coded_fin (cdOk_arg h) hS hp h1 h2 he hn⟩
theorem own_cd {W : World} {base : Nat} {v : Value} {L : List Int} {T : List (List Int)} {G : List Int} (hok : cdOk L T G = true) (h : W.ownsRow base 3 1 v (cdS L).length (natsL (cdS L))) : W.ownsRow base 3 1 v L.length (intsV L) := by
  rw [cdS_cells (fun k hk => ((cdOk_arg hok).sym k hk).1), cdS_len] at h
  exact h
set_option maxHeartbeats 4000000 in
set_option maxRecDepth 100000 in
theorem walk_FnCoded (hP : AskPutCoded) (hPN : AskPutCodedNo) (hB : AskCodedBits) (hG : AskGetCoded) (hC : AskChoose) (hGr : AskGroups) (w : World) (a0 : Option Addr) (len0 cap0 : Nat) (z0 : List Int) (w0 : IsRow .u8 w a0 len0 cap0 z0) :
    Calls Try.prog 13 #[.slice a0 len0 cap0] w fun e w' => e = .returned (.bool true) ∧ Below w.heap.size w w' := by
  have hcode := Code.ofRow w0
  have HGR := hidden (grAlive_any hC hB hGr)
  clear w0 hC hGr
  go_enter Try.func13, Try.ntmps13
  go_wp2_with fail
  refine (drawPutCoded_any _ _ _ _ _ hcode).mono ?_
  rintro e wa ⟨x, rfl, ⟨a1, c1, L, a2, c2, T, a3, c3, G, rfl, ⟨hI, hc1, hl1⟩, ⟨hT, hc2, hl2⟩, ⟨hI3, hc3, hl3⟩⟩, Ba⟩
  have ba := Ba.size
  have HI := hidden hI
  have HT := hidden hT
  have HI3 := hidden hI3
  have KB := hidden (fun (W : World) (B : Nat) (h1 : Ints W B a1 L) (h2 : Tabs W B a2 T) (h3 : Ints W B a3 G) (h4 : B ≤ W.heap.size) => hB a1 a2 a3 c1 c2 c3 B L G T W h1 h2 h3 h4 hc1 hc2 hc3 (by omega) (by omega) (by omega))
  obtain ⟨N, hN⟩ : ∃ N, L.length = N := ⟨_, rfl⟩
  obtain ⟨M, hM⟩ : ∃ M, T.length = M := ⟨_, rfl⟩
  obtain ⟨Q, hQ⟩ : ∃ Q, G.length = Q := ⟨_, rfl⟩
  clear hI hT hI3
  by_cases hok : cdOk L T G = true
  · have KP := hidden (hP a1 a2 a3 c1 c2 c3 wa.heap.size L G T wa HI.out HT.out HI3.out (Nat.le_refl _) hc1 hc2 hc3 hok)
    have KQ := hidden (fun W (h1 : Ints W wa.heap.size a1 L) (h2 : Tabs W wa.heap.size a2 T) (h3 : Ints W wa.heap.size a3 G) (h4 : wa.heap.size ≤ W.heap.size) => specPutCoded_yes a1 a2 a3 c1 c2 c3 wa.heap.size L G T W h1 h2 h3 h4 hc2 hok)
    have KG := hidden (fun (D : List Nat) (e0 : Int) (W : World) (B : Nat) (h1 : Tabs W B a2 T) (h2 : Ints W B a3 G) (h3 : B ≤ W.heap.size) (h4 : (strOf D).size ≤ 1048576) (r1 : -9223372036854775808 ≤ e0) (r2 : e0 ≤ 9223372036854775807) => hG a2 a3 c2 c3 B 0 G T (strOf D) e0 W h1 h2 h3 hc2 hc3 (coded_gd hok) h4 (Nat.zero_le _) r1 r2)
    rw [cbZ_cp hok] at KB
    have HBK := hidden (fun (D : List Nat) (hD : Packs D (cpF L T G L.length)) => coded_all hok hD)
    have HON := hidden (fun (s : ByteArray) (e0 : Int) (xs : List Nat) (c : Nat) (h1 : Fin12 s T G e0 0 0 xs c) (h2 : Fin12 s T G e0 0 0 (cdS L) (cpN L T G L.length)) => Fin12.one (gdOk_arg (coded_gd hok)).1 h1 h2)
    have HOK := hidden hok
    have HRG : Hid (∀ k, k < L.length → -9223372036854775808 ≤ L.getD k 0 ∧ L.getD k 0 ≤ 9223372036854775807) := hidden (fun k hk => HI.out.2.1 _ (getD_mem hk))
    obtain ⟨P, hP2⟩ : ∃ P, cpN L T G L.length = P := ⟨_, rfl⟩
    rw [hP2] at KQ KP KB HBK HON
    rw [hN] at KP KQ KB HBK HRG
    rw [hM, hQ] at KP KQ KB KG
    have HN := hidden hN
    rw [hN, hM, hQ]
    rw [hN] at hl1 hc1
    have hPP : ((P : Int) != (P : Int)) = false := by simp
    clear hP hPN hG hB hN hM hQ hok hP2 hc1 hc2 hc3 hl2 hl3
    go_wp2_with fail
    refine KP.out.mono ?_
    rintro e wb ⟨D, hD, rfl, Bb⟩
    have bb := Bb.size
    obtain ⟨hsz, hP4, hfn⟩ := HBK.out D hD
    have HFN := hidden hfn
    have bwb : Below wa.heap.size wa (wb.alloc (.cells #[.string (strOf D), .int .i64 (P : Int)] 40)) := Bb.alloc bb _
    have hBx := Has.fresh wb 40 #[.string (strOf D), .int .i64 (P : Int)]
    clear KP hD hfn HBK Bb
    go_wp2_with fail
    refine (KQ.out _ (HI.out.below bwb) (HT.out.below bwb) (HI3.out.below bwb) (by simp; omega)).mono ?_
    rintro e wc ⟨D2, hD2, rfl, Bc⟩
    have bc := Bc.size
    (try simp at bc)
    have bw5 : Below wa.heap.size wa (wc.alloc (.cells #[.string (strOf D2), .int .i64 (P : Int)] 40)) := (bwb.trans (Bc.mono (by simp; omega))).alloc (by omega) _
    have hB5 := (hBx.below Bc (by simp)).alloc (.cells #[.string (strOf D2), .int .i64 (P : Int)] 40)
    obtain ⟨w5, hw5⟩ : ∃ w5, wc.alloc (.cells #[.string (strOf D2), .int .i64 (P : Int)] 40) = w5 := ⟨_, rfl⟩
    have hs5 : w5.heap.size = wc.heap.size + 1 := by rw [← hw5]; simp
    rw [hw5] at bw5 hB5
    have HB5 := hidden hB5
    have eb5 := hB5.cell 1
    simp at eb5
    have lb5 : (⟨wb.heap.size, 1, none⟩ : Addr).block < w5.heap.size := by simp; omega
    have KB5 : Hid (∀ W : World, Below w5.heap.size w5 W → Calls Try.prog 40 #[.slice a1 N c1, .slice a2 M c2, .slice a3 Q c3] W fun e w' => e = .returned (.int .i64 (P : Int)) ∧ Below W.heap.size W w') := hidden (fun W hW => by
      have b2 := bw5.trans (hW.mono (by omega))
      exact KB.out W wa.heap.size (HI.out.below b2) (HT.out.below b2) (HI3.out.below b2) b2.size)
    have hb5 : wb.heap.size < w5.heap.size := by omega
    have bd : Below w5.heap.size w5 w5 := Below.refl _ _
    have rb := eb5
    clear KQ hD2 Bc bwb hBx KB hB5
    go_wp2_with fail
    go_region_held3 (fun w' => w'.cell? ⟨wb.heap.size, 1, none⟩ = some (.int .i64 (P : Int))) (go_keep) (first | (go_at_call 40; (with_reducible refine (KB5.out _ ?hW).mono ?_); (case hW => exact ⟨bd.os, bd.tape, bd.output, bd.size, bd.block⟩); rintro e wX ⟨rfl, BX⟩; have yX := BX.size; replace bd : Below w5.heap.size w5 wX := bel_then BX bd.size ⟨bd.os, bd.tape, bd.output, bd.size, bd.block⟩; clear BX; have rb := bd.cell (p := ⟨wb.heap.size, 1, none⟩) lb5; rw [eb5] at rb))
    all_goals
      have bwX : Below wa.heap.size wa wX := bw5.trans (bd.mono (by omega))
      have hX5 : w5.heap.size ≤ wX.heap.size := bd.size
      have hBX := HB5.out.below bd (by omega)
      have HBX := hidden hBX
      have e0 := hBX.cell 0
      simp at e0
      clear rb eb5 bw5 KB5 hBX
      by_cases hN0 : N = 0
      · subst hN0
        go_wp2_with fail
        refine (HGR.out _).mono ?_
        rintro e w8 ⟨rfl, b8⟩
        have hfin := Ba.trans ((bel_then b8 bwX.size bwX).mono ba)
        go_wp2
        go_ret
        exact ⟨rfl, hfin⟩
      · obtain ⟨K, rfl⟩ : ∃ K, N = K + 1 := ⟨N - 1, by omega⟩
        obtain ⟨b, off, ha1, hb1, hcell⟩ := (HI.out.below bwX).2.2 (by rw [HN.out]; omega)
        subst ha1
        rw [HN.out] at hcell
        have HCL := hidden hcell
        have hK := hcell K (by omega)
        have HRK := hidden (HRG.out K (by omega))
        obtain ⟨E, hE⟩ : ∃ E, L.getD K 0 = E := ⟨_, rfl⟩
        rw [hE] at hK
        have HE := hidden hE
        have hKN : ((K + 1 : Nat) : Int) - 1 = (K : Int) := by omega
        clear hcell hE
        rw [HE.out] at HRK
        go_wp2_with fail
        go_loop [11] (fun si => ∃ (i : Nat), i ≤ K ∧ Hid (∀ j, j < i → L.getD j 0 ≠ E) ∧ si = .int .i64 i) (fun si => K - (intOf si).toNat)
        case atStart => exact ⟨0, by omega, hidden (fun j hj => absurd hj (by omega)), rfl⟩
        case round =>
          obtain ⟨i, hi, HJ, rfl⟩ := hrel
          by_cases hlt : i < K
          · have hci := HCL.out i (by omega)
            obtain ⟨y, hy⟩ : ∃ y, L.getD i 0 = y := ⟨_, rfl⟩
            rw [hy] at hci
            have h1 : ((i : Nat) : Int) + 1 < ((K + 1 : Nat) : Int) := by omega
            by_cases hyE : y = E
            · subst hyE
              go_wp2_with fail
              refine (HGR.out _).mono ?_
              rintro e w8 ⟨rfl, b8⟩
              have hfin := Ba.trans ((bel_then b8 bwX.size bwX).mono ba)
              go_wp2
              go_ret
              exact ⟨rfl, hfin⟩
            · have HJ2 : Hid (∀ j, j < i + 1 → L.getD j 0 ≠ E) := hidden (fun j hj => by
                by_cases e : j = i
                · subst e; rw [hy]; exact hyE
                · exact HJ.out j (by omega))
              have hyB : (y == E) = false := beq_eq_false_iff_ne.2 hyE
              clear hy HJ
              go_wp2
              go_round
              case rel => exact ⟨i + 1, by omega, HJ2, by go_num⟩
              case measure => simp [intOf]; omega
          · obtain rfl : i = K := by omega
            have HF := hidden (HFN.out E (by omega) HE.out (fun j hj => HJ.out j (by omega)))
            have KG6 := hidden (KG.out D E wX wa.heap.size (HT.out.below bwX) (HI3.out.below bwX) bwX.size hsz HRK.out.1 HRK.out.2)
            clear KG HFN HJ hK HCL hKN
            go_wp2_with fail
            refine KG6.out.mono ?_
            rintro e wd ⟨hcase, Bd⟩
            rcases hcase with ⟨xs, c, vx, hfx, rfl, hown⟩ | ⟨hno, _⟩
            · obtain ⟨e1, e2⟩ := HON.out _ _ _ _ hfx HF.out
              subst e1
              subst e2
              have hown := own_cd HOK.out hown
              rw [HN.out] at hown
              obtain ⟨ax, cx, rfl⟩ := own_shape hown
              rw [← HN.out] at hown
              have hIx := hidden (Ints.ofOwn hown (by rw [HN.out]; omega) HI.out.2.1).2
              have bdd := Bd.size
              have hB6 := (HBX.out.below Bd (by omega)).alloc (.cells #[.string (strOf D), .int .i64 (c : Int)] 48)
              have hR6 := Has.fresh wd 48 #[.string (strOf D), .int .i64 (c : Int)]
              obtain ⟨w6, hw6⟩ : ∃ w6, wd.alloc (.cells #[.string (strOf D), .int .i64 (c : Int)] 48) = w6 := ⟨_, rfl⟩
              have bwd : Below wa.heap.size wa wd := bel_then Bd bwX.size bwX
              have bw6 := bwd.alloc bwd.size (.cells #[.string (strOf D), .int .i64 (c : Int)] 48)
              have bd6 : Below wd.heap.size wd w6 := by rw [← hw6]; exact (Below.refl _ _).alloc (Nat.le_refl _) _
              have hs6 : w6.heap.size = wd.heap.size + 1 := by rw [← hw6]; simp
              rw [hw6] at hB6 hR6 bw6
              have HB6 := hidden hB6
              have HR6 := hidden hR6
              have KS := hidden (sameInts_any ax (some ⟨b, off, none⟩) cx c1 wd.heap.size L L w6 (hIx.out.below bd6) ((HI.out.below bw6).mono bwd.size))
              rw [decide_eq_true rfl, HN.out] at KS
              clear hown hfx hB6 hR6 HF KG6 HON e0
              go_wp2_with fail
              refine KS.out.mono ?_
              rintro e w7 ⟨rfl, b7⟩
              have hB7 := HB6.out.below b7 (by omega)
              have hR7 := HR6.out.below b7 (by omega)
              have e1 := hB7.cell 1
              have e2 := hR7.cell 1
              simp at e1 e2
              have bw7 := bel_then b7 bw6.size bw6
              clear hB7 hR7
              go_wp2_with fail
              refine (HGR.out _).mono ?_
              rintro e w8 ⟨rfl, b8⟩
              have bw8 := bel_then b8 bw7.size bw7
              have hfin := Ba.trans (bw8.mono ba)
              go_wp2
              go_ret
              exact ⟨rfl, hfin⟩
            · exact absurd HF.out (hno _ _)
  · have hno : cdOk L T G = false := by simpa using hok
    have KP := hidden (hPN a1 a2 a3 c1 c2 c3 wa.heap.size L G T wa HI.out HT.out HI3.out (Nat.le_refl _) hc1 hc2 hc3 (by omega) (by omega) (by omega) hno)
    have KQ := hidden (fun W (h1 : Ints W wa.heap.size a1 L) (h2 : Tabs W wa.heap.size a2 T) (h3 : Ints W wa.heap.size a3 G) (h4 : wa.heap.size ≤ W.heap.size) => specPutCoded_no a1 a2 a3 c1 c2 c3 wa.heap.size L G T W h1 h2 h3 h4 hc2 hno)
    have e1 : cbZ L T G = -1 := by unfold cbZ; rw [if_neg hok]
    rw [e1] at KB
    rw [hN, hM, hQ] at KP KQ KB
    rw [hN, hM, hQ]
    clear hP hPN hB hG hok hno e1 hN hM hQ hc1 hc2 hc3 hl1 hl2 hl3
    go_wp2_with fail
    refine KP.out.mono ?_
    rintro e wb ⟨rfl, Bb⟩
    have bb := Bb.size
    have bwb : Below wa.heap.size wa (wb.alloc (.cells #[.string ⟨#[]⟩, .int .i64 0] 40)) := Bb.alloc bb _
    clear KP Bb
    go_wp2_with fail
    refine (KQ.out _ (HI.out.below bwb) (HT.out.below bwb) (HI3.out.below bwb) (by simp; omega)).mono ?_
    rintro e wc ⟨rfl, Bc⟩
    have bc := Bc.size
    (try simp at bc)
    have bwc : Below wa.heap.size wa (wc.alloc (.cells #[.string ⟨#[]⟩, .int .i64 0] 40)) := (bwb.trans (Bc.mono (by simp; omega))).alloc (by omega) _
    clear KQ Bc bwb
    go_wp2_with fail
    refine (KB.out _ wa.heap.size (HI.out.below bwc) (HT.out.below bwc) (HI3.out.below bwc) bwc.size).mono ?_
    rintro e wd ⟨rfl, Bd⟩
    have bwd := bel_then Bd bwc.size bwc
    clear Bd bwc
    go_wp2_with fail
    refine (HGR.out _).mono ?_
    rintro e w8 ⟨rfl, b8⟩
    have hfin := Ba.trans ((bel_then b8 bwd.size bwd).mono ba)
    go_wp2
    go_ret
    exact ⟨rfl, hfin⟩
end Go.Proofs.Ytaaahmfkdiogkaa
