/- Merged: Dr12B, Dr12C, WChooses. -/
import Derived.Test.YtaaahmfkdiogkaaQL32
import Derived.Test.YtaaahmfkdiogkaaQL17
import Derived.Test.YtaaahmfkdiogkaaQL3
import Derived.Test.YtaaahmfkdiogkaaQL21
namespace Go.Proofs.Ytaaahmfkdiogkaa
set_option linter.unusedVariables false
set_option linter.unusedSimpArgs false
open Go.RowKit

/-- What is drawn: symbols, tables, an assignment. -/
def Drawn12 (w : World) (x : Value) : Prop := ∃ a1 c1 L a2 c2 T a3 c3 G, x = .tuple #[.slice a1 (L : List Int).length c1, .slice a2 (T : List (List Int)).length c2, .slice a3 (G : List Int).length c3] ∧
  (Ints w w.heap.size a1 L ∧ L.length ≤ c1 ∧ L.length ≤ 1001) ∧ (Tabs w w.heap.size a2 T ∧ T.length ≤ c2 ∧ T.length ≤ 4) ∧ (Ints w w.heap.size a3 G ∧ G.length ≤ c3 ∧ G.length ≤ 1001)
theorem fin12 {W : World} {base : Nat} {v1 v2 v3 : Value} {L G : List Int} {T : List (List Int)} {V : List Value} (o1 : W.ownsRow base 3 1 v1 L.length (intsV L)) (o2 : W.ownsRow base 65 1 v2 T.length V) (R2 : RowsAt W base V T) (o3 : W.ownsRow base 3 1 v3 G.length (intsV G))
    (f1 : L.length ≤ 1001 ∧ ∀ x ∈ L, -9223372036854775808 ≤ x ∧ x ≤ 9223372036854775807) (f2 : FitT T ∧ T.length ≤ 4) (f3 : G.length ≤ 1001 ∧ ∀ x ∈ G, -9223372036854775808 ≤ x ∧ x ≤ 9223372036854775807) : Drawn12 W (.tuple #[v1, v2, v3]) := by
  obtain ⟨a1, c1, rfl⟩ := own_shape o1
  obtain ⟨a2, c2, rfl⟩ := own_shape o2
  obtain ⟨a3, c3, rfl⟩ := own_shape o3
  exact ⟨a1, c1, L, a2, c2, T, a3, c3, G, rfl, ⟨(Ints.ofOwn o1 (by omega) f1.2).2, own_len12 o1, f1.1⟩, ⟨tabs_own o2 R2 (by omega) (fun i hi => ⟨by have := (f2.1 i hi).1; omega, (f2.1 i hi).2⟩), own_len12 o2, f2.2⟩, ⟨(Ints.ofOwn o3 (by omega) f3.2).2, own_len12 o3, f3.1⟩⟩
theorem RowsAt.put {w : World} {base i : Nat} {V : List Value} {T : List (List Int)} {v : Value} {z : List Int} (h : RowsAt w base V T) (hi : i < T.length) (hv : w.ownsRow base 3 1 v z.length (intsV z)) : RowsAt w base (V.set i v) (T.set i z) := by
  refine ⟨by rw [List.length_set, List.length_set, h.1], fun j hj => ?_⟩
  rw [List.length_set] at hj
  by_cases e : j = i
  · subst e
    have e1 : (V.set j v).getD j undef = v := by simp [List.getD_eq_getElem?_getD, h.1, hj]
    have e2 : (T.set j z).getD j [] = z := by simp [List.getD_eq_getElem?_getD, hj]
    rw [e1, e2]; exact hv
  · have e1 : (V.set i v).getD j undef = V.getD j undef := by simp [List.getD_eq_getElem?_getD, List.getElem?_set, Ne.symm e]
    have e2 : (T.set i z).getD j [] = T.getD j [] := by simp [List.getD_eq_getElem?_getD, List.getElem?_set, Ne.symm e]
    rw [e1, e2]; exact h.2 j hj
theorem FitT.set {T : List (List Int)} {z : List Int} {i : Nat} (h : FitT T) (h1 : z.length ≤ 1048576) (h2 : ∀ x ∈ z, -9223372036854775808 ≤ x ∧ x ≤ 9223372036854775807) : FitT (T.set i z) := by
  intro j hj
  rw [List.length_set] at hj
  by_cases e : j = i
  · subst e
    have e2 : (T.set j z).getD j [] = z := by simp [List.getD_eq_getElem?_getD, hj]
    rw [e2]; exact ⟨h1, h2⟩
  · have e2 : (T.set i z).getD j [] = T.getD j [] := by simp [List.getD_eq_getElem?_getD, List.getElem?_set, Ne.symm e]
    rw [e2]; exact h j hj
theorem rows_only12 {b base : Nat} {w w' : World} {V : List Value} {T : List (List Int)} (h : RowsAt w base V T) (ho : Only b w w') (hb : b < base) : RowsAt w' base V T :=
  ⟨h.1, fun j hj => own_only (h.2 j hj) ho hb⟩
theorem rows_kept12 {w w' : World} {base : Nat} {V : List Value} {T : List (List Int)} {r : Option Nat} (h : RowsAt w base V T) (hg : w.grownBy w' r) (hne : ∀ x ∈ V, x.ownBlock = none ∨ x.ownBlock ≠ r) : RowsAt w' base V T :=
  ⟨h.1, fun j hj => (h.2 j hj).kept hg (hne _ (getD_memV (by rw [h.1]; exact hj)))⟩
theorem ne_sym12 {a b : Value} (h : a.ownBlock = none ∨ a.ownBlock ≠ b.ownBlock) : b.ownBlock = none ∨ b.ownBlock ≠ a.ownBlock := by
  rcases h with h | h
  · cases hb : b.ownBlock with
    | none => exact .inl rfl
    | some k => exact .inr (by rw [h]; exact fun e => by cases e)
  · exact .inr (Ne.symm h)
theorem types_ne12 {w : World} {b1 b2 s1 s2 n1 n2 : Nat} {e1 e2 : TypeId} {v1 v2 : Value} {xs ys : List Value} (h : w.ownsRow b1 e1 s1 v1 n1 xs) (h' : w.ownsRow b2 e2 s2 v2 n2 ys) (hne : e1 ≠ e2) : v1.ownBlock = none ∨ v1.ownBlock ≠ v2.ownBlock := by
  cases e : v1.ownBlock with
  | none => exact .inl rfl
  | some k => exact .inr (fun h2 => own_types h h' hne e h2.symm)
theorem rowB_of {L : List Int} {n : Int} (h1 : 1 ≤ n) (h2 : n ≤ 260) (hl : L.length ≤ 2000) (h : ∀ x ∈ L, 0 ≤ x ∧ x < n) : rowB L n = true := by
  rw [rowB_iff]
  exact ⟨⟨h1, h2⟩, hl, fun k hk => h _ (getD_mem hk)⟩
set_option maxHeartbeats 8000000 in
set_option maxRecDepth 100000 in
theorem l12all_any (g B most : Nat) (w : World) (hc : Cur w g B) (hm : most ≤ 1000) :
    Calls Try.prog 95 #[.pointer (some ⟨g, 0, none⟩), .int .i64 most] w fun e w' => ∃ x, e = .returned x ∧ Drawn12 w' x ∧ Cur w' g B ∧ Only g w w' := by
  obtain ⟨i0, hi, hz0, hz1, hz2⟩ := info_parts Try.infoI
  have hgl := hc.lt
  go_enter Try.func95, Try.ntmps95
  go_wp2_with fail
  refine (l12draw_any g B most _ hc hm).mono ?_
  rintro e wa ⟨v1, L, n, rfl, o1, h1, h2, n1, n8, ha, Oa⟩
  obtain ⟨m, rfl⟩ : ∃ m : Nat, n = m := ⟨n.toNat, by omega⟩
  have hrow := rowB_of (by omega) (by omega) (by omega) h2
  obtain ⟨a1, c1, hv1⟩ := own_shape o1
  subst hv1
  have hsa := Oa.size
  clear hc
  go_wp2_with fail
  refine (l1Below_any g B 4 _ ha (by omega)).mono ?_
  rintro e wb ⟨k, rfl, k0, k1, _, hb, Ob⟩
  have k2 := k1 (by omega)
  obtain ⟨q, hq⟩ : ∃ q : Nat, 1 + k = q := ⟨(1 + k).toNat, by omega⟩
  have hk : (q : Int) = 1 + k := by omega
  have OB := Oa.trans_ Ob
  have o1b := own_only o1 Ob hgl
  have hsb := OB.size
  have hq1 : 1 ≤ q := by omega
  have hq4 : q ≤ 4 := by omega
  have hIb := (Ints.ofOwn o1b (by omega) (fun x hx => by have := h2 x hx; omega)).2
  have K := hidden (specChoose_yes a1 c1 wb.heap.size m q L wb hIb (Nat.le_refl _) hrow hq1 hq4)
  obtain ⟨ht, _, ht3⟩ := tab2_fit (S := L) (n := m) (by omega) (by omega) (by omega) hq4
  obtain ⟨hs, _, hs3⟩ := sel2_fit (S := L) (n := m) hq1 hq4 (by omega)
  have hgr := grp_le L.length
  have HFT := hidden ht3
  have HTL := hidden ht
  have HFS := hidden hs3
  have HSL := hidden hs
  obtain ⟨T, hT⟩ : ∃ T, tab2 L m q = T := ⟨_, rfl⟩
  obtain ⟨G, hG⟩ : ∃ G, sel2 L m q = G := ⟨_, rfl⟩
  obtain ⟨Q, hQ⟩ : ∃ Q, grp L.length = Q := ⟨_, rfl⟩
  rw [hT, hG, hQ] at K
  rw [hT] at HFT HTL
  rw [hG] at HFS HSL
  rw [hQ] at HSL hgr
  obtain ⟨N, hN⟩ : ∃ N, L.length = N := ⟨_, rfl⟩
  rw [hN] at K o1b h1 hgr
  rw [hN] at o1
  have HN := hidden hN
  have HL : Hid (∀ x ∈ L, 0 ≤ x ∧ x < (m : Int)) := hidden h2
  have HO1 := hidden o1b
  rw [hN]
  rw [hk] at K
  clear ht ht3 hs hs3 hT hG hQ hN h2 o1 o1b hIb hrow k1 Oa Ob ha hq
  go_wp2_with fail
  refine K.out.mono ?_
  rintro e wc ⟨v2, V, v3, rfl, o2, R2, _, hapU, o3, Bc⟩
  have HU3 : Hid (∀ x ∈ V, v3.ownBlock = none ∨ v3.ownBlock ≠ x.ownBlock) := hidden (fun x hx => by
    obtain ⟨j, hj, rfl⟩ := memV_getD hx
    exact hapU j hj)
  have HL3 : Hid ((Value.slice a1 N c1).ownBlock = none ∨ (Value.slice a1 N c1).ownBlock ≠ v3.ownBlock) := hidden (ranged_ne (own_ranged HO1.out) (own_ranged o3) (.inl (Nat.le_refl _)))
  have HLV : Hid (∀ x ∈ V, (Value.slice a1 N c1).ownBlock = none ∨ (Value.slice a1 N c1).ownBlock ≠ x.ownBlock) := hidden (fun x hx => by
    obtain ⟨j, hj, rfl⟩ := memV_getD hx
    exact ranged_ne (own_ranged HO1.out) (own_ranged (R2.2 j (by rw [← R2.1]; exact hj))) (.inl (Nat.le_refl _)))
  have HVlt : Hid (∀ x ∈ V, ∀ k, x.ownBlock = some k → k < wc.heap.size) := hidden (fun x hx k hk => by
    obtain ⟨j, hj, rfl⟩ := memV_getD hx
    exact ((R2.2 j (by rw [← R2.1]; exact hj)).lt k hk).2)
  obtain ⟨a2, c2, hv2⟩ := own_shape o2
  obtain ⟨a3, c3, hv3⟩ := own_shape o3
  subst hv2 hv3
  have OC := OB.trans_ (only_below (g := g) Bc)
  have hbl := hb.lt
  have hcc := hb.below Bc hbl
  have HO1c := hidden (own_bel HO1.out Bc)
  have HO2 := hidden (own_base12 o2 hsb)
  have HO3 := hidden (own_base12 o3 hsb)
  have HR2 : Hid (RowsAt wc w.heap.size V T) := hidden ⟨R2.1, fun j hj => own_base12 (R2.2 j hj) hsb⟩
  have hsc := OC.size
  clear o2 R2 o3 Bc OB hb HO1 K
  go_wp2_with fail
  refine (l1Below_any g B 12 _ hcc (by omega)).mono ?_
  rintro e wd ⟨r, rfl, r0, r1, _, hd, Od⟩
  have HO1d := hidden (own_only HO1c.out Od hgl)
  have HO2d := hidden (own_only HO2.out Od hgl)
  have HO3d := hidden (own_only HO3.out Od hgl)
  have HR2d := hidden (rows_only12 HR2.out Od hgl)
  have OD := OC.trans_ Od
  have hcd := Od.size
  have hsd := OD.size
  have hdl := hd.lt
  have hVl : V.length = q := by rw [HR2d.out.1, HTL.out]
  have HVL := hidden hVl
  have HFL : Hid (L.length ≤ 1001 ∧ ∀ x ∈ L, -9223372036854775808 ≤ x ∧ x ≤ 9223372036854775807) := hidden ⟨by rw [HN.out]; omega, fun x hx => by have := HL.out x hx; omega⟩
  have HFTT : Hid (FitT T ∧ T.length ≤ 4) := hidden ⟨HFT.out, by rw [HTL.out]; exact hq4⟩
  have HFG : Hid (G.length ≤ 1001 ∧ ∀ x ∈ G, -9223372036854775808 ≤ x ∧ x ≤ 9223372036854775807) := hidden ⟨by rw [HSL.out]; omega, HFS.out⟩
  have HO1e : Hid (wd.ownsRow w.heap.size 3 1 (.slice a1 N c1) L.length (intsV L)) := hidden (by rw [HN.out]; exact HO1d.out)
  have HO2e : Hid (wd.ownsRow w.heap.size 65 1 (.slice a2 q c2) T.length V) := hidden (by rw [HTL.out]; exact HO2d.out)
  have HO3e : Hid (wd.ownsRow w.heap.size 3 1 (.slice a3 Q c3) G.length (intsV G)) := hidden (by rw [HSL.out]; exact HO3d.out)
  clear r1 HO1c HO2 HO3 HR2 OC Od hcc hVl hapU
  by_cases p0 : r = 0
  · subst p0
    obtain ⟨gT, cT, hgT⟩ := Joins.ownsRow_form HO2d.out (by omega)
    simp only [Value.slice.injEq] at hgT
    obtain ⟨rfl, _, rfl⟩ := hgT
    have ba : Below wd.heap.size wd (wd.alloc (.cells #[] 3)) := (Below.refl _ _).alloc (Nat.le_refl _) _
    have hE0 : (wd.alloc (.cells #[] 3)).ownsRow wd.heap.size 3 1 (.slice (some ⟨wd.heap.size, 0, none⟩) 0 0) 0 [] := ⟨rfl, .inr ⟨wd.heap.size, 0, #[], rfl, Nat.le_refl _, Has.fresh wd _ _, Nat.le_refl _, Nat.zero_le _, rfl, rfl⟩⟩
    go_wp2_with fail
    refine (l3lensBent_any g B _ (hd.alloc _)).mono ?_
    rintro e we ⟨vb, zs, rfl, ob, z1, z14, hzr, he, Oe⟩
    have O1 := own_only (HO1e.out.alloc (.cells #[] 3)) Oe hgl
    have O2 := own_only (HO2e.out.alloc (.cells #[] 3)) Oe hgl
    have O3 := own_only (HO3e.out.alloc (.cells #[] 3)) Oe hgl
    have R2 := rows_only12 (HR2d.out.below ba) Oe hgl
    have E0 := own_only hE0 Oe (by omega)
    have OE := (OD.alloc (.cells #[] 3)).trans_ Oe
    have hse := OE.size
    have hwe := Oe.size
    simp at hwe
    clear ba hE0 Oe OD hd
    go_wp2_with (at_builtin; refine wpList_append_own2 rfl _ _ 24 rfl wd.heap.size 3 i0 (.int .i64 0) 8 Try.underlying24 hi hz0 hz1 hz2 rfl _ _ _ rfl E0 vb _ zs.length (intsV zs) rfl ob ?ce2 ?ce3 ?ce4 ?ce5 ?_)
    case ce2 => exact fun u hu => by unfold intsV at hu; obtain ⟨x, _, rfl⟩ := List.mem_map.1 hu; rfl
    case ce3 => unfold maxLen; omega
    case ce4 => omega
    case ce5 => omega
    intro v5 w6 hown3 hgrow _
    have hne : ∀ x : Value, (∀ k, x.ownBlock = some k → k < wd.heap.size) → x.ownBlock = none ∨ x.ownBlock ≠ (Value.slice (some ⟨wd.heap.size, 0, none⟩) 0 0).ownBlock := fun x hx => by
      cases ex : x.ownBlock with
      | none => exact .inl rfl
      | some k =>
        refine .inr (fun e => ?_)
        have := hx k ex
        simp [Value.ownBlock] at e
        omega
    have hO3 : Only g w w6 := OE.grownNew hgrow (fun q hq => by simp [Value.ownBlock] at hq; omega)
    have hc6 : Cur w6 g B := he.grown hgrow (fun q hq => by simp [Value.ownBlock] at hq; omega)
    have O1f := O1.kept hgrow (hne _ (fun k hk => (HO1e.out.lt k hk).2))
    have O2f := O2.kept hgrow (hne _ (fun k hk => (HO2e.out.lt k hk).2))
    have O3f := O3.kept hgrow (hne _ (fun k hk => (HO3e.out.lt k hk).2))
    have R2f := rows_kept12 R2 hgrow (fun x hx => hne x (fun k hk => by have := HVlt.out x hx k hk; omega))
    obtain ⟨a5, c5, rfl⟩ := own_shape hown3
    have O2q : w6.ownsRow w.heap.size 65 1 (.slice (some ⟨gT, 0, none⟩) q c2) q V := by
      have h := O2f
      rw [HTL.out] at h
      exact h
    have d0 := O2q.cellAt 0 (by omega)
    rw [List.getElem?_eq_getElem (by rw [HVL.out]; omega)] at d0
    have f0 := O2q.frozenAt 0
    have hst := O2q.stored 0 (.slice a5 zs.length c5)
    have hgT2 := (O2f.lt gT rfl)
    have O2g : (w6.setCell ⟨gT, 0, none⟩ (.slice a5 zs.length c5)).ownsRow w.heap.size 65 1 (.slice (some ⟨gT, 0, none⟩) q c2) (T.set 0 zs).length (V.set 0 (.slice a5 zs.length c5)) := by
      rw [List.length_set, HTL.out]
      exact hst.1
    have hown4 : w6.ownsRow w.heap.size 3 1 (.slice a5 zs.length c5) zs.length (intsV zs) := own_base12 hown3 (by omega)
    have O1g := O1f.kept hst.2 (types_ne12 O1f O2f (by decide))
    have O3g := O3f.kept hst.2 (types_ne12 O3f O2f (by decide))
    have hown5 := hown4.kept hst.2 (types_ne12 hown4 O2f (by decide))
    have R2g := rows_kept12 R2f hst.2 (fun x hx => by
      obtain ⟨j, hj, rfl⟩ := memV_getD hx
      exact types_ne12 (R2f.2 j (by rw [← R2f.1]; exact hj)) O2f (by decide))
    have R2h := R2g.put (i := 0) (by rw [HTL.out]; omega) hown5
    have hO4 : Only g w (w6.setCell ⟨gT, 0, none⟩ (.slice a5 zs.length c5)) := hO3.grownNew hst.2 (fun q hq => by simp [Value.ownBlock] at hq; omega)
    have hc7 : Cur (w6.setCell ⟨gT, 0, none⟩ (.slice a5 zs.length c5)) g B := hc6.grown hst.2 (fun q hq => by simp [Value.ownBlock] at hq; omega)
    have hfin := fin12 O1g O2g R2h O3g HFL.out ⟨HFT.out.set (by omega) (fun x hx => by have := hzr x hx; omega), by rw [List.length_set]; exact HFTT.out.2⟩ HFG.out
    have hq0 : (0 : Int) < (q : Int) := by omega
    clear hgrow hst hne
    go_wp2
    exact bodyPost_ret (v := .tuple #[.slice a1 N c1, .slice (some ⟨gT, 0, none⟩) q c2, .slice a3 Q c3]) (by simp [results, Try.results95, go_sem]) rfl ⟨_, rfl, hfin, hc7, hO4⟩
  by_cases p1 : r = 1
  · subst p1
    clear p0
    go_wp2_with fail
    refine (l1Below_any g B 5 _ hd (by omega)).mono ?_
    rintro e we ⟨y, rfl, y0, y1, _, he, Oe⟩
    have y2 := y1 (by omega)
    have O1 := own_only HO1e.out Oe hgl
    have O2 := own_only HO2e.out Oe hgl
    have O3 := own_only HO3d.out Oe hgl
    have R2 := rows_only12 HR2d.out Oe hgl
    have OE := OD.trans_ Oe
    have hse := OE.size
    have hel := he.lt
    clear y1 OD Oe hd
    go_wp2_with (at_builtin; refine wpList_append_own _ rfl _ _ 24 rfl w.heap.size 3 i0 (.int .i64 0) 1 8 Try.underlying24 hi hz0 hz1 hz2 rfl (by decide) _ _ _ rfl (O3.alloc _) ⟨we.heap.size, 0, none⟩ 1 1 [.int .i64 y] rfl rfl ?cb2 ?cb3 ?cb4 ?cb5 ?cb6 ?_)
    case cb2 => exact cell_one' _ _ _
    case cb3 => exact fun u hu => by simp at hu; subst hu; rfl
    case cb4 => unfold maxLen; omega
    case cb5 => omega
    case cb6 => simp; omega
    intro v5 w6 hown3 hgrow _
    have hown3 : w6.ownsRow w.heap.size 3 1 v5 (G ++ [y]).length (intsV (G ++ [y])) := by
      rw [intsV_snoc, List.length_append, HSL.out]
      exact hown3
    have hO3 : Only g w w6 := (OE.alloc _).grownNew hgrow (fun q hq => (O3.lt q hq).1)
    have hc6 : Cur w6 g B := (he.alloc _).grown hgrow (fun q hq => by have := (O3.lt q hq).1; omega)
    have O1f := (O1.alloc (.cells #[.int .i64 y] 3)).kept hgrow HL3.out
    have O2f := (O2.alloc (.cells #[.int .i64 y] 3)).kept hgrow (types_ne12 O2 O3 (by decide))
    have R2f := rows_kept12 (R2.below ((Below.refl we.heap.size we).alloc (Nat.le_refl _) (.cells #[.int .i64 y] 3))) hgrow (fun x hx => ne_sym12 (HU3.out x hx))
    have hfin := fin12 O1f O2f R2f hown3 HFL.out HFTT.out ⟨by rw [List.length_append, HSL.out]; simp; omega, fun x hx => by
      rcases List.mem_append.1 hx with h | h
      · exact HFS.out x h
      · simp at h; subst h; omega⟩
    clear hgrow
    go_wp2
    exact bodyPost_ret (v := .tuple #[.slice a1 N c1, .slice a2 q c2, v5]) (by simp [results, Try.results95, go_sem]) rfl ⟨_, rfl, hfin, hc6, hO3⟩
  by_cases p2 : r = 2
  · subst p2
    clear p0 p1
    by_cases hQ0 : Q = 0
    · subst hQ0
      have hfin := fin12 HO1e.out HO2e.out HR2d.out HO3e.out HFL.out HFTT.out HFG.out
      go_wp2
      exact bodyPost_ret (v := .tuple #[.slice a1 N c1, .slice a2 q c2, .slice a3 0 c3]) (by simp [results, Try.results95, go_sem]) rfl ⟨_, rfl, hfin, hd, OD⟩
    · have hQI : (0 : Int) < (Q : Int) := by omega
      go_wp2_with fail
      refine (l1Below_any g B Q _ hd (by omega)).mono ?_
      rintro e we ⟨x, rfl, x0, x1, _, he, Oe⟩
      have x2 := x1 hQI
      obtain ⟨i, rfl⟩ : ∃ i : Nat, x = i := ⟨x.toNat, by omega⟩
      have hiQ : i < Q := by omega
      clear x1
      go_wp2_with fail
      refine (l1Below_any g B 6 _ he (by omega)).mono ?_
      rintro e w5 ⟨y, rfl, y0, y1, _, h5, O5⟩
      have y2 := y1 (by omega)
      have OE := (OD.trans_ Oe).trans_ O5
      have Oe5 := Oe.trans_ O5
      have O1 := own_only HO1e.out Oe5 hgl
      have O2 := own_only HO2e.out Oe5 hgl
      have O3 := own_only HO3d.out Oe5 hgl
      have R2 := rows_only12 HR2d.out Oe5 hgl
      obtain ⟨gs, cs', hgs⟩ := Joins.ownsRow_form O3 (by omega)
      simp only [Value.slice.injEq] at hgs
      obtain ⟨rfl, _, rfl⟩ := hgs
      have d0 := O3.cellAt i (by omega)
      rw [intsV_get G i (by rw [HSL.out]; exact hiQ)] at d0
      have f0 := O3.frozenAt i
      have hst := O3.stored i (.int .i64 (y - 1))
      rw [intsV_set] at hst
      have O3f : (w5.setCell ⟨gs, i, none⟩ (.int .i64 (y - 1))).ownsRow w.heap.size 3 1 (.slice (some ⟨gs, 0, none⟩) Q c3) (G.set i (y - 1)).length (intsV (G.set i (y - 1))) := by
        rw [List.length_set, HSL.out]
        exact hst.1
      have hgrow := hst.2
      have hO3 : Only g w (w5.setCell ⟨gs, i, none⟩ (.int .i64 (y - 1))) := OE.grownNew hgrow (fun q hq => (O3.lt q hq).1)
      have hc6 : Cur (w5.setCell ⟨gs, i, none⟩ (.int .i64 (y - 1))) g B := h5.grown hgrow (fun q hq => by have := (O3.lt q hq).1; omega)
      have O1f := O1.kept hgrow HL3.out
      have O2f := O2.kept hgrow (types_ne12 O2 O3 (by decide))
      have R2f := rows_kept12 R2 hgrow (fun x hx => ne_sym12 (HU3.out x hx))
      have hfin := fin12 O1f O2f R2f O3f HFL.out HFTT.out ⟨by rw [List.length_set, HSL.out]; omega, fun x hx => by
        rcases List.mem_or_eq_of_mem_set hx with h | h
        · exact HFS.out x h
        · subst h; omega⟩
      clear hgrow hst y1 Oe O5 Oe5
      go_wp2
      exact bodyPost_ret (v := .tuple #[.slice a1 N c1, .slice a2 q c2, .slice (some ⟨gs, 0, none⟩) Q c3]) (by simp [results, Try.results95, go_sem]) rfl ⟨_, rfl, hfin, hc6, hO3⟩
  by_cases p3 : r = 3
  · subst p3
    clear p0 p1 p2
    have hfin := fin12 (v2 := .slice none 0 0) (T := []) (V := []) HO1e.out (World.ownsRow_nil _ _ _ _) (RowsAt.nil _ _) HO3e.out HFL.out (⟨(fun i hi => by simp at hi), by decide⟩ : FitT [] ∧ ([] : List (List Int)).length ≤ 4) HFG.out
    go_wp2
    exact bodyPost_ret (v := .tuple #[.slice a1 N c1, .slice none 0 0, .slice a3 Q c3]) (by simp [results, Try.results95, go_sem]) rfl ⟨_, rfl, hfin, hd, OD⟩
  by_cases p4 : r = 4
  · subst p4
    clear p0 p1 p2 p3
    go_wp2_with fail
    refine (l1PickInt_any g B wd.heap.size 3 _ [0, (m : Int), -1] _ (hd.alloc _) (by omega) (by omega) (by omega) ?_).mono ?_
    · intro j hj
      rw [(Has.fresh wd _ _).cell j]
      rcases j with _ | _ | _ | j <;> first | rfl | omega
    rintro e we ⟨j, hj, rfl, he, Oe⟩
    have hpk : -1 ≤ ([0, (m : Int), -1] : List Int).getD j 0 ∧ ([0, (m : Int), -1] : List Int).getD j 0 ≤ 8 := by
      rcases j with _ | _ | _ | j <;> simp <;> omega
    obtain ⟨y, hy⟩ : ∃ y, ([0, (m : Int), -1] : List Int).getD j 0 = y := ⟨_, rfl⟩
    rw [hy] at hpk ⊢
    have ba : Below wd.heap.size wd (wd.alloc (.cells #[.int .i64 0, .int .i64 (m : Int), .int .i64 (-1)] 3)) := (Below.refl _ _).alloc (Nat.le_refl _) _
    have O1 := own_only (HO1d.out.alloc (.cells #[.int .i64 0, .int .i64 (m : Int), .int .i64 (-1)] 3)) Oe hgl
    have O2 := own_only (HO2e.out.alloc (.cells #[.int .i64 0, .int .i64 (m : Int), .int .i64 (-1)] 3)) Oe hgl
    have O3 := own_only (HO3e.out.alloc (.cells #[.int .i64 0, .int .i64 (m : Int), .int .i64 (-1)] 3)) Oe hgl
    have R2 := rows_only12 (HR2d.out.below ba) Oe hgl
    have OE := (OD.alloc (.cells #[.int .i64 0, .int .i64 (m : Int), .int .i64 (-1)] 3)).trans_ Oe
    have hse := OE.size
    clear hy ba hj Oe OD hd
    go_wp2_with (at_builtin; refine wpList_append_own _ rfl _ _ 24 rfl w.heap.size 3 i0 (.int .i64 0) 1 8 Try.underlying24 hi hz0 hz1 hz2 rfl (by decide) _ _ _ rfl (O1.alloc _) ⟨we.heap.size, 0, none⟩ 1 1 [.int .i64 y] rfl rfl ?cd2 ?cd3 ?cd4 ?cd5 ?cd6 ?_)
    case cd2 => exact cell_one' _ _ _
    case cd3 => exact fun u hu => by simp at hu; subst hu; rfl
    case cd4 => unfold maxLen; omega
    case cd5 => omega
    case cd6 => simp; omega
    intro v5 w6 hown3 hgrow _
    have hown3 : w6.ownsRow w.heap.size 3 1 v5 (L ++ [y]).length (intsV (L ++ [y])) := by
      rw [intsV_snoc, List.length_append, HN.out]
      exact hown3
    have hO3 : Only g w w6 := (OE.alloc _).grownNew hgrow (fun q hq => (O1.lt q hq).1)
    have hc6 : Cur w6 g B := (he.alloc _).grown hgrow (fun q hq => by have := (O1.lt q hq).1; omega)
    have O3f := (O3.alloc (.cells #[.int .i64 y] 3)).kept hgrow (ne_sym12 HL3.out)
    have O2f := (O2.alloc (.cells #[.int .i64 y] 3)).kept hgrow (types_ne12 O2 O1 (by decide))
    have R2f := rows_kept12 (R2.below ((Below.refl we.heap.size we).alloc (Nat.le_refl _) (.cells #[.int .i64 y] 3))) hgrow (fun x hx => ne_sym12 (HLV.out x hx))
    have hfin := fin12 hown3 O2f R2f O3f ⟨by rw [List.length_append, HN.out]; simp; omega, fun x hx => by
      rcases List.mem_append.1 hx with h | h
      · have := HL.out x h; omega
      · simp at h; subst h; omega⟩ HFTT.out HFG.out
    clear hgrow
    go_wp2
    exact bodyPost_ret (v := .tuple #[v5, .slice a2 q c2, .slice a3 Q c3]) (by simp [results, Try.results95, go_sem]) rfl ⟨_, rfl, hfin, hc6, hO3⟩
  · have q0 : (r == 0) = false := by simpa using p0
    have hfin := fin12 HO1e.out HO2e.out HR2d.out HO3e.out HFL.out HFTT.out HFG.out
    go_wp2
    exact bodyPost_ret (v := .tuple #[.slice a1 N c1, .slice a2 q c2, .slice a3 Q c3]) (by simp [results, Try.results95, go_sem]) rfl ⟨_, rfl, hfin, hd, OD⟩
end Go.Proofs.Ytaaahmfkdiogkaa
namespace Go.Proofs.Ytaaahmfkdiogkaa
set_option linter.unusedVariables false
set_option linter.unusedSimpArgs false
open Go.RowKit

set_option maxHeartbeats 2000000 in
set_option maxRecDepth 100000 in
theorem drawPutCoded_any (a : Option Addr) (len cap : Nat) (zs : List Int) (w : World) (hcode : Code w w.heap.size a len cap zs) :
    Calls Try.prog 48 #[.slice a len cap] w fun e w' => ∃ x, e = .returned x ∧ Drawn12 w' x ∧ Below w.heap.size w w' := by
  have hl := hcode.1
  go_enter Try.func48, Try.ntmps48
  go_wp2_with fail
  refine (l1New_any _ _ _ _ _ hcode).mono ?_
  rintro e w1 ⟨g, rfl, hc1, b1⟩
  have hg := hc1.1
  go_wp2_with fail
  refine (l1Size_any a len cap 60 _ (by omega) (by omega) (by omega)).mono ?_
  rintro e w2 ⟨m, rfl, m0, m1, hw⟩
  subst hw
  obtain ⟨q, rfl⟩ : ∃ q : Nat, m = q := ⟨m.toNat, by omega⟩
  go_wp2_with fail
  refine (l12all_any g _ q _ hc1 (by omega)).mono ?_
  rintro e w3 ⟨x, rfl, hD, hc3, O3⟩
  have B3 := only_then O3 hg b1.size b1
  obtain ⟨a1, c1, L, a2, c2, T, a3, c3, G, rfl, h1, h2, h3⟩ := hD
  have HD : Hid (Drawn12 w3 (.tuple #[.slice a1 L.length c1, .slice a2 T.length c2, .slice a3 G.length c3])) := hidden ⟨a1, c1, L, a2, c2, T, a3, c3, G, rfl, h1, h2, h3⟩
  clear h1 h2 h3 O3 hc3 hc1
  go_wp2
  exact bodyPost_ret (v := .tuple #[.slice a1 L.length c1, .slice a2 T.length c2, .slice a3 G.length c3]) (by simp [results, Try.results48, go_sem]) rfl ⟨_, rfl, HD.out, B3⟩
set_option maxHeartbeats 4000000 in
set_option maxRecDepth 100000 in
theorem drawChoose_any (a : Option Addr) (len cap : Nat) (zs : List Int) (w : World) (hcode : Code w w.heap.size a len cap zs) :
    Calls Try.prog 43 #[.slice a len cap] w fun e w' => ∃ v L n k, e = .returned (.tuple #[v, .int .i64 n, .int .i64 k]) ∧ w'.ownsRow w.heap.size 3 1 v L.length (intsV L) ∧ L.length ≤ 91 ∧ (∀ x ∈ L, -1 ≤ x ∧ x ≤ 8) ∧ 0 ≤ n ∧ n ≤ 261 ∧ 0 ≤ k ∧ k ≤ 5 ∧ Below w.heap.size w w' := by
  obtain ⟨i0, hi, hz0, hz1, hz2⟩ := info_parts Try.infoI
  have hl := hcode.1
  go_enter Try.func43, Try.ntmps43
  go_wp2_with fail
  refine (l1New_any _ _ _ _ _ hcode).mono ?_
  rintro e w1 ⟨g, rfl, hc1, b1⟩
  have hg := hc1.1
  have hg1 := hc1.lt
  go_wp2_with fail
  refine (l1Size_any a len cap 90 _ (by omega) (by omega) (by omega)).mono ?_
  rintro e w2 ⟨m, rfl, m0, m1, hw⟩
  subst hw
  obtain ⟨q, rfl⟩ : ∃ q : Nat, m = q := ⟨m.toNat, by omega⟩
  go_wp2_with fail
  refine (l12draw_any g _ q _ hc1 (by omega)).mono ?_
  rintro e w3 ⟨v, L, n, rfl, own3, l3, r3, n1, n8, hc3, O3⟩
  have hs13 := O3.size
  obtain ⟨N, hN⟩ : ∃ N, L.length = N := ⟨_, rfl⟩
  rw [hN] at own3 l3
  have HN := hidden hN
  have HR := hidden r3
  clear hN r3 hc1
  go_wp2_with fail
  refine (l1Below_any g _ 14 _ hc3 (by omega)).mono ?_
  rintro e w4 ⟨r, rfl, r0, r1, _, hc4, O4⟩
  have own4 := own_only own3 O4 hg1
  have O14 := O3.trans_ O4
  have hs4 := O14.size
  clear r1 own3 O3 O4 hc3
  by_cases p0 : r = 0
  · subst p0
    go_wp2_with fail
    refine (l1PickInt_any g w.heap.size w4.heap.size 2 _ [n, -1] _ (hc4.alloc _) (by omega) (by omega) (by have := hc4.lt; omega) ?_).mono ?_
    · intro j hj
      rw [(Has.fresh w4 _ _).cell j]
      rcases j with _ | _ | j <;> first | rfl | omega
    rintro e w5 ⟨j, hj, rfl, hc5, O5⟩
    have hpk : -1 ≤ ([n, -1] : List Int).getD j 0 ∧ ([n, -1] : List Int).getD j 0 ≤ 8 := by
      rcases j with _ | _ | j <;> simp <;> omega
    obtain ⟨y, hy⟩ : ∃ y, ([n, -1] : List Int).getD j 0 = y := ⟨_, rfl⟩
    rw [hy] at hpk ⊢
    have own5 := own_only (own4.alloc (.cells #[.int .i64 n, .int .i64 (-1)] 3)) O5 hg1
    have O15 := (O14.alloc (.cells #[.int .i64 n, .int .i64 (-1)] 3)).trans_ O5
    have hs5 := O15.size
    clear hy own4 O14 O5 hc4 hj
    go_wp2_with (at_builtin; refine wpList_append_own _ rfl _ _ 24 rfl w1.heap.size 3 i0 (.int .i64 0) 1 8 Try.underlying24 hi hz0 hz1 hz2 rfl (by decide) _ _ _ rfl (own5.alloc _) ⟨w5.heap.size, 0, none⟩ 1 1 [.int .i64 y] rfl rfl ?cb2 ?cb3 ?cb4 ?cb5 ?cb6 ?_)
    case cb2 => exact cell_one' _ _ _
    case cb3 => exact fun u hu => by simp at hu; subst hu; rfl
    case cb4 => unfold maxLen; omega
    case cb5 => omega
    case cb6 => simp; omega
    intro v6 w6 own6 hgrow _
    have own6 : w6.ownsRow w1.heap.size 3 1 v6 (L ++ [y]).length (intsV (L ++ [y])) := by
      rw [intsV_snoc, List.length_append, HN.out]
      exact own6
    have O16 : Only g w1 w6 := (O15.alloc _).grownNew hgrow (fun q hq => (own5.lt q hq).1)
    have hc6 : Cur w6 g w.heap.size := (hc5.alloc _).grown hgrow (fun q hq => by have := (own5.lt q hq).1; omega)
    have HL6 : (L ++ [y]).length = N + 1 := by simp [HN.out]
    have HR6 : Hid (∀ x ∈ L ++ [y], -1 ≤ x ∧ x ≤ 8) := hidden (fun x hx => by
      rcases List.mem_append.1 hx with h | h
      · have := HR.out x h; omega
      · simp at h; subst h; omega)
    have HL7 : Hid ((L ++ [y]).length ≤ 91) := hidden (by omega)
    clear hgrow HL6
    go_wp2_with fail
    refine (l1PickInt_any g w.heap.size w6.heap.size 7 _ [1, 2, 2, 3, 4, 0, 5] _ (hc6.alloc _) (by omega) (by omega) (by have := hc6.lt; omega) ?_).mono ?_
    · intro j hj
      rw [(Has.fresh w6 _ _).cell j]
      rcases j with _ | _ | _ | _ | _ | _ | _ | j <;> first | rfl | omega
    rintro e wz ⟨jz, hjz, rfl, hcz, Oz⟩
    have hkz : 0 ≤ ([1, 2, 2, 3, 4, 0, 5] : List Int).getD jz 0 ∧ ([1, 2, 2, 3, 4, 0, 5] : List Int).getD jz 0 ≤ 5 := by
      rcases jz with _ | _ | _ | _ | _ | _ | _ | jz <;> first | decide | omega
    obtain ⟨z, hz⟩ : ∃ z, ([1, 2, 2, 3, 4, 0, 5] : List Int).getD jz 0 = z := ⟨_, rfl⟩
    rw [hz] at hkz ⊢
    have ownz := own_only (own6.alloc (.cells #[.int .i64 1, .int .i64 2, .int .i64 2, .int .i64 3, .int .i64 4, .int .i64 0, .int .i64 5] 3)) Oz hg1
    have OZ := (O16.alloc (.cells #[.int .i64 1, .int .i64 2, .int .i64 2, .int .i64 3, .int .i64 4, .int .i64 0, .int .i64 5] 3)).trans_ Oz
    have BZ := only_then OZ hg b1.size b1
    have ownz' := Joins.ownsRow_le ownz b1.size
    clear hz Oz ownz hjz
    go_wp2
    exact bodyPost_ret (v := .tuple #[v6, .int .i64 n, .int .i64 z]) (by simp [results, Try.results43, go_sem]) rfl ⟨_, L ++ [y], n, z, rfl, ownz', HL7.out, HR6.out, by omega, by omega, by omega, by omega, BZ⟩
  by_cases p1 : r = 1
  · subst p1
    clear p0
    go_wp2_with fail
    refine (l1PickInt_any g w.heap.size w4.heap.size 3 _ [0, 260, 261] _ (hc4.alloc _) (by omega) (by omega) (by have := hc4.lt; omega) ?_).mono ?_
    · intro j hj
      rw [(Has.fresh w4 _ _).cell j]
      rcases j with _ | _ | _ | j <;> first | rfl | omega
    rintro e w5 ⟨j, hj, rfl, hc5, O5⟩
    have hpk : 0 ≤ ([0, 260, 261] : List Int).getD j 0 ∧ ([0, 260, 261] : List Int).getD j 0 ≤ 261 := by
      rcases j with _ | _ | _ | j <;> first | decide | omega
    obtain ⟨y, hy⟩ : ∃ y, ([0, 260, 261] : List Int).getD j 0 = y := ⟨_, rfl⟩
    rw [hy] at hpk ⊢
    have own5 := own_only (own4.alloc (.cells #[.int .i64 0, .int .i64 260, .int .i64 261] 3)) O5 hg1
    have O15 := (O14.alloc (.cells #[.int .i64 0, .int .i64 260, .int .i64 261] 3)).trans_ O5
    have hs5 := O15.size
    have HR6 : Hid (∀ x ∈ L, -1 ≤ x ∧ x ≤ 8) := hidden (fun x hx => by have := HR.out x hx; omega)
    have HL7 : Hid (L.length ≤ 91) := hidden (by rw [HN.out]; omega)
    clear hy own4 O14 O5 hc4 hj
    go_wp2_with fail
    refine (l1PickInt_any g w.heap.size w5.heap.size 7 _ [1, 2, 2, 3, 4, 0, 5] _ (hc5.alloc _) (by omega) (by omega) (by have := hc5.lt; omega) ?_).mono ?_
    · intro j hj
      rw [(Has.fresh w5 _ _).cell j]
      rcases j with _ | _ | _ | _ | _ | _ | _ | j <;> first | rfl | omega
    rintro e wz ⟨jz, hjz, rfl, hcz, Oz⟩
    have hkz : 0 ≤ ([1, 2, 2, 3, 4, 0, 5] : List Int).getD jz 0 ∧ ([1, 2, 2, 3, 4, 0, 5] : List Int).getD jz 0 ≤ 5 := by
      rcases jz with _ | _ | _ | _ | _ | _ | _ | jz <;> first | decide | omega
    obtain ⟨z, hz⟩ : ∃ z, ([1, 2, 2, 3, 4, 0, 5] : List Int).getD jz 0 = z := ⟨_, rfl⟩
    rw [hz] at hkz ⊢
    have ownz := own_only (own5.alloc (.cells #[.int .i64 1, .int .i64 2, .int .i64 2, .int .i64 3, .int .i64 4, .int .i64 0, .int .i64 5] 3)) Oz hg1
    have OZ := (O15.alloc (.cells #[.int .i64 1, .int .i64 2, .int .i64 2, .int .i64 3, .int .i64 4, .int .i64 0, .int .i64 5] 3)).trans_ Oz
    have BZ := only_then OZ hg b1.size b1
    have ownz' := Joins.ownsRow_le ownz b1.size
    clear hz Oz ownz hjz
    go_wp2
    exact bodyPost_ret (v := .tuple #[v, .int .i64 y, .int .i64 z]) (by simp [results, Try.results43, go_sem]) rfl ⟨_, L, y, z, rfl, by rw [HN.out]; exact ownz', HL7.out, HR6.out, by omega, by omega, by omega, by omega, BZ⟩
  · have q0 : (r == 0) = false := by simpa using p0
    have q1 : (r == 1) = false := by simpa using p1
    have HR6 : Hid (∀ x ∈ L, -1 ≤ x ∧ x ≤ 8) := hidden (fun x hx => by have := HR.out x hx; omega)
    have HL7 : Hid (L.length ≤ 91) := hidden (by rw [HN.out]; omega)
    go_wp2_with fail
    refine (l1PickInt_any g w.heap.size w4.heap.size 7 _ [1, 2, 2, 3, 4, 0, 5] _ (hc4.alloc _) (by omega) (by omega) (by have := hc4.lt; omega) ?_).mono ?_
    · intro j hj
      rw [(Has.fresh w4 _ _).cell j]
      rcases j with _ | _ | _ | _ | _ | _ | _ | j <;> first | rfl | omega
    rintro e wz ⟨jz, hjz, rfl, hcz, Oz⟩
    have hkz : 0 ≤ ([1, 2, 2, 3, 4, 0, 5] : List Int).getD jz 0 ∧ ([1, 2, 2, 3, 4, 0, 5] : List Int).getD jz 0 ≤ 5 := by
      rcases jz with _ | _ | _ | _ | _ | _ | _ | jz <;> first | decide | omega
    obtain ⟨z, hz⟩ : ∃ z, ([1, 2, 2, 3, 4, 0, 5] : List Int).getD jz 0 = z := ⟨_, rfl⟩
    rw [hz] at hkz ⊢
    have ownz := own_only (own4.alloc (.cells #[.int .i64 1, .int .i64 2, .int .i64 2, .int .i64 3, .int .i64 4, .int .i64 0, .int .i64 5] 3)) Oz hg1
    have OZ := (O14.alloc (.cells #[.int .i64 1, .int .i64 2, .int .i64 2, .int .i64 3, .int .i64 4, .int .i64 0, .int .i64 5] 3)).trans_ Oz
    have BZ := only_then OZ hg b1.size b1
    have ownz' := Joins.ownsRow_le ownz b1.size
    clear hz Oz ownz hjz
    go_wp2
    exact bodyPost_ret (v := .tuple #[v, .int .i64 n, .int .i64 z]) (by simp [results, Try.results43, go_sem]) rfl ⟨_, L, n, z, rfl, by rw [HN.out]; exact ownz', HL7.out, HR6.out, by omega, by omega, by omega, by omega, BZ⟩
end Go.Proofs.Ytaaahmfkdiogkaa
namespace Go.Proofs.Ytaaahmfkdiogkaa
set_option linter.unusedVariables false
set_option linter.unusedSimpArgs false
open Go.RowKit

theorem cho_lOk {S : List Int} {n k : Nat} (h1 : 1 ≤ n) (h2 : n ≤ 260) (hS : S.length ≤ 2000) (i : Nat) (hi : i < k) : lOk ((tab2 S n k).getD i []) = true := by
  unfold tab2
  rw [tabL_get S _ n k i hi]
  exact lensF_lOk (frq_on h1 h2 hS)
theorem cho_tb {S : List Int} {n k : Nat} (h1 : 1 ≤ n) (h2 : n ≤ 260) (hS : S.length ≤ 2000) (hk1 : 1 ≤ k) (hk : k ≤ 4) : tbOk (tab2 S n k) n = true := by
  have hl : (tab2 S n k).length = k := tabL_len _ _ _ _
  rw [tbOk_iff, hl]
  refine ⟨⟨hk1, hk⟩, fun i hi => ⟨?_, cho_lOk h1 h2 hS i hi⟩⟩
  have := (tabL_ok (S := S) (G := sel2 S n k) h1 h2 hS i hi).1
  show (((tabL S (sel2 S n k) n k).getD i []).length : Int) = n
  rw [this]
theorem cho_ok {S : List Int} {n k : Nat} (hrow : rowB S n = true) (hk1 : 1 ≤ k) (hk : k ≤ 4) : cdOk S (tab2 S n k) (sel2 S n k) = true := by
  obtain ⟨e1, hn1, hn2, hS⟩ := rowB_nat hrow
  have hn1' : 1 ≤ n := by omega
  have hn2' : n ≤ 260 := by omega
  have hl : (tab2 S n k).length = k := tabL_len _ _ _ _
  have hN : tbN (tab2 S n k) = n := (tabL_ok (S := S) (G := sel2 S n k) hn1' hn2' hS 0 (by omega)).1
  have hsl : (sel2 S n k).length = grp S.length := by rw [← selR_two]; exact selR_len S n k 2
  rw [cdOk_iff, hN, hl]
  refine ⟨cho_tb hn1' hn2' hS hk1 hk, hrow, hsl, ?_⟩
  rw [symsB_iff, hsl]
  refine ⟨by unfold grp; omega, fun g hg => ?_⟩
  have := selR_small (S := S) (n := n) (k := k) hk1 2 ((sel2 S n k).getD g 0) (by rw [selR_two]; exact getD_mem (by rw [hsl]; exact hg))
  omega
/-- A group's bits are the sum of its symbols' lengths. -/
theorem bitF_sum {S l : List Int} (hr : lRange l) (hS : ∀ k, k < S.length → 0 ≤ S.getD k 0 ∧ S.getD k 0 < (l.length : Int)) (a : Nat) : ∀ c, bitF S l a c + (lenSum l S (min a S.length) : Int) = (lenSum l S (min (a + c) S.length) : Int)
  | 0 => by simp [bitF]
  | c + 1 => by
    have ih := bitF_sum hr hS a c
    have e : bitF S l a (c + 1) = bitF S l a c + if a + c < S.length then l.getD (S.getD (a + c) 0).toNat 0 else 0 := rfl
    by_cases h : a + c < S.length
    · rw [e, if_pos h, show min (a + (c + 1)) S.length = (a + c) + 1 by omega]
      rw [show min (a + c) S.length = a + c by omega] at ih
      have h1 := hS _ h
      have h2 := lnF_int hr (S.getD (a + c) 0).toNat (by omega)
      have h3 : lenSum l S ((a + c) + 1) = lenSum l S (a + c) + lnF l (S.getD (a + c) 0).toNat := rfl
      rw [h2, h3]
      omega
    · rw [e, if_neg h, show min (a + (c + 1)) S.length = min (a + c) S.length by omega]
      omega
theorem cbF_one {S : List Int} {T : List (List Int)} {G : List Int} (hr : lRange (T.getD 0 [])) (hS : ∀ k, k < S.length → 0 ≤ S.getD k 0 ∧ S.getD k 0 < ((T.getD 0 []).length : Int)) (hG : ∀ g, g < G.length → G.getD g 0 = 0) : ∀ g, g ≤ G.length → cbF S T G g = (lenSum (T.getD 0 []) S (min (10 * g) S.length) : Int)
  | 0, _ => by simp [cbF, lenSum, rsum]
  | g + 1, hg => by
    have ih := cbF_one hr hS hG g (by omega)
    have e : cbF S T G (g + 1) = cbF S T G g + bitG S (T.getD (G.getD g 0).toNat []) g := rfl
    have h := bitF_sum hr hS (10 * g) 10
    rw [e, hG g (by omega), ih]
    show _ + bitF S (T.getD 0 []) (10 * g) 10 = _
    rw [show 10 * (g + 1) = 10 * g + 10 by omega, ← h]
    omega
theorem cho_one {S : List Int} {n : Nat} (hrow : rowB S n = true) : cbZ S (tab2 S n 1) (sel2 S n 1) = symBitsI ((tab2 S n 1).getD 0 []) S := by
  obtain ⟨e1, hn1, hn2, hS⟩ := rowB_nat hrow
  have hn1' : 1 ≤ n := by omega
  have hn2' : n ≤ 260 := by omega
  have hl := (tabL_ok (S := S) (G := sel2 S n 1) (k := 1) hn1' hn2' hS 0 (by omega)).1
  have hlo := cho_lOk (S := S) (k := 1) hn1' hn2' hS 0 (by omega)
  have hsl : (sel2 S n 1).length = grp S.length := by rw [← selR_two]; exact selR_len S n 1 2
  have hsy := ((rowB_iff S n).1 hrow).2.2
  have hl' : ((tab2 S n 1).getD 0 []).length = n := hl
  have hz : ∀ g, g < (sel2 S n 1).length → (sel2 S n 1).getD g 0 = 0 := fun g hg => by
    have := selR_small (S := S) (n := n) (k := 1) (by omega) 2 ((sel2 S n 1).getD g 0) (by rw [selR_two]; exact getD_mem hg)
    omega
  unfold cbZ
  rw [if_pos (cho_ok hrow (by omega) (by omega)), cbF_one (lOk_range hlo) (by rw [hl']; exact hsy) hz _ (Nat.le_refl _)]
  unfold symBitsI
  rw [if_pos ((putOk_iff _ _).2 ⟨hlo, (symsB_iff _ _).2 ⟨hS, by rw [hl']; exact hsy⟩⟩)]
  rw [show min (10 * (sel2 S n 1).length) S.length = S.length by rw [hsl]; unfold grp; omega]
set_option maxHeartbeats 4000000 in
set_option maxRecDepth 100000 in
theorem walk_FnChooses (hC : AskChoose) (hCN : AskChooseNo) (hT : AskTablesOk) (hB : AskCodedBits) (hGr : AskGroups) (w : World) (a0 : Option Addr) (len0 cap0 : Nat) (z0 : List Int) (w0 : IsRow .u8 w a0 len0 cap0 z0) :
    Calls Try.prog 11 #[.slice a0 len0 cap0] w fun e w' => e = .returned (.bool true) ∧ Below w.heap.size w w' := by
  have hcode := Code.ofRow w0
  have HGR := hidden (grAlive_any hC hB hGr)
  clear w0
  go_enter Try.func11, Try.ntmps11
  go_wp2_with fail
  refine (drawChoose_any _ _ _ _ _ hcode).mono ?_
  rintro e wa ⟨v, L, n, k, rfl, hown, hl, hr, hn0, hn1, hk0, hk5, Ba⟩
  have ba := Ba.size
  obtain ⟨al, cl, rfl⟩ := own_shape hown
  have hcl := own_cap12 hown
  have HI := hidden (Ints.ofOwn hown (by omega) (fun x hx => by have := hr x hx; omega)).2
  have HLR := hidden hr
  clear hown hr
  by_cases hok : choOk L n k = true
  · have hok2 := hok
    unfold choOk at hok2
    rw [Bool.and_eq_true, decide_eq_true_eq] at hok2
    obtain ⟨hrow, hk1, hk4⟩ := hok2
    obtain ⟨e1, hm1, hm2, hS⟩ := rowB_nat hrow
    obtain ⟨m, hm⟩ : ∃ m, n.toNat = m := ⟨_, rfl⟩
    rw [hm] at e1 hm1 hm2
    subst e1
    obtain ⟨K, rfl⟩ : ∃ K : Nat, k = K := ⟨k.toNat, by omega⟩
    have KC := hidden (hC al cl wa.heap.size m K L wa HI.out (Nat.le_refl _) hcl hrow (by omega) (by omega))
    have KQ := hidden (fun W (h1 : Ints W wa.heap.size al L) (h2 : wa.heap.size ≤ W.heap.size) => specChoose_yes al cl wa.heap.size m K L W h1 h2 hrow (by omega) (by omega))
    obtain ⟨htl, _, hfit⟩ := tab2_fit (S := L) (n := m) hm1 hm2 hS (by omega : K ≤ 4)
    obtain ⟨hsl, _, hsfit⟩ := sel2_fit (S := L) (n := m) (k := K) (by omega) (by omega) hS
    have hcd := cho_ok (S := L) (n := m) (k := K) hrow (by omega) (by omega)
    have htb := cho_tb (S := L) (n := m) (k := K) hm1 hm2 hS (by omega) (by omega)
    have HSM : Hid (∀ g, g < grp L.length → 0 ≤ (sel2 L m K).getD g 0 ∧ (sel2 L m K).getD g 0 < (K : Int)) := hidden (fun g hg => by
      have := selR_small (S := L) (n := m) (k := K) (by omega) 2 ((sel2 L m K).getD g 0) (by rw [selR_two]; exact getD_mem (by rw [hsl]; exact hg))
      omega)
    have HONE : Hid (K = 1 → cbZ L (tab2 L m K) (sel2 L m K) = symBitsI ((tab2 L m K).getD 0 []) L) := hidden (fun e => by subst e; exact cho_one hrow)
    obtain ⟨hTab, _, _, _, _, _, hGG, _⟩ := cdOk_tab hcd
    have hcb0 : 0 ≤ cbZ L (tab2 L m K) (sel2 L m K) := by
      unfold cbZ
      rw [if_pos hcd]
      exact (cbF_range hTab hGG _ (Nat.le_refl _)).1
    have hT0 : ((tab2 L m K).getD 0 []).length = m := (tabL_ok (S := L) (G := sel2 L m K) hm1 hm2 hS 0 (by omega)).1
    have hgr9 : grpZ (L.length : Int) = (grp L.length : Int) := by unfold grpZ; rw [if_pos (by omega), Int.toNat_natCast]
    have KCB := hidden (fun (at2 a3 : Option Addr) (capT cap3 B : Nat) (W : World) (h1 : Ints W B al L) (h2 : Tabs W B at2 (tab2 L m K)) (h3 : Ints W B a3 (sel2 L m K)) (h4 : B ≤ W.heap.size) (h5 : (tab2 L m K).length ≤ capT) (h6 : (sel2 L m K).length ≤ cap3) => hB al at2 a3 cl capT cap3 B L (sel2 L m K) (tab2 L m K) W h1 h2 h3 h4 hcl h5 h6 (by omega) (by omega) (by rw [hsl]; have := grp_le L.length; omega))
    have KSB := hidden (fun (a : Option Addr) (cap B : Nat) (W : World) (h1 : Ints W B a ((tab2 L m K).getD 0 [])) (h2 : Ints W B al L) => implSymBits_any a al cap cl B ((tab2 L m K).getD 0 []) L W h1 h2)
    have KTO := hidden (fun (a : Option Addr) (cap B : Nat) (W : World) (h1 : Tabs W B a (tab2 L m K)) (h2 : B ≤ W.heap.size) (h3 : (tab2 L m K).length ≤ cap) => hT a cap B m (tab2 L m K) W h1 h2 h3 (by omega) (by omega) (by omega))
    have KGP := hidden (fun W => hGr (L.length : Int) W (by omega) (by omega))
    rw [htb] at KTO
    rw [hgr9] at KGP
    have HFT := hidden hfit
    have HSF := hidden hsfit
    have hgrl := grp_le L.length
    obtain ⟨T, hTT⟩ : ∃ T, tab2 L m K = T := ⟨_, rfl⟩
    obtain ⟨G, hGG2⟩ : ∃ G, sel2 L m K = G := ⟨_, rfl⟩
    obtain ⟨Z, hZ⟩ : ∃ Z, cbZ L (tab2 L m K) (sel2 L m K) = Z := ⟨_, rfl⟩
    rw [hZ] at KCB HONE hcb0
    rw [hTT] at KC KCB KSB KTO HFT htl HONE hT0
    rw [hGG2] at KC KCB HSF hsl HSM
    obtain ⟨N, hN⟩ : ∃ N, L.length = N := ⟨_, rfl⟩
    obtain ⟨Q, hQ⟩ : ∃ Q, grp L.length = Q := ⟨_, rfl⟩
    have HN := hidden hN
    rw [hQ] at KC KQ KGP hsl HSM hgrl
    rw [hN] at KC KQ KCB KSB KGP hcl hl hgrl ⊢
    rw [htl] at KCB KTO
    rw [hsl] at KCB
    rw [hT0] at KSB
    have hT0' := hT0
    have HTL := hidden htl
    have HSL := hidden hsl
    have hQK : Q ≤ 2000 := by omega
    clear hC hCN hT hB hGr hok hrow hm hTT hGG2 hZ hN hQ htl hsl hfit hsfit hcd htb hTab hGG hT0 hgr9 hn0 hn1 hk0 hk5
    go_wp2_with fail
    refine KC.out.mono ?_
    rintro e wb ⟨vT, V, u, rfl, hOT, hou, _, Bb⟩
    have bb := Bb.size
    obtain ⟨aT, cT, hvT, hcT⟩ := hOT.formM HTL.out
    subst hvT
    have hTb := hidden (hOT.tabs HFT.out (by rw [HTL.out]; omega))
    obtain ⟨au, cu, rfl⟩ := own_shape hou
    have hcu := own_cap12 hou
    have hIu := hidden (Ints.ofOwn hou (by omega) HSF.out).2
    have hou2 := hidden hou
    obtain ⟨gT, bT, mT, eT, cTc, eV, hgT⟩ := hOT.cell (i := 0) (by rw [HTL.out]; omega)
    clear hou KC
    go_wp2_with fail
    refine (KQ.out _ (HI.out.below Bb) bb).mono ?_
    rintro e wc ⟨v2, V2, u2, rfl, o2, _, _, _, ou2, Bc⟩
    obtain ⟨a2, c2, rfl⟩ := own_shape o2
    obtain ⟨a3, c3, rfl⟩ := own_shape ou2
    have hKK : ((K : Int) != (K : Int)) = false := by simp
    have hK0 : ((K : Int) == 0) = false := beq_eq_false_iff_ne.2 (by omega)
    clear o2 ou2 KQ
    have HTc := hidden (hTb.out.below Bc)
    have HIc := hidden (hIu.out.below Bc)
    have HOc := hidden (own_bel hou2.out Bc)
    have BB := bel_then Bc bb Bb
    have hc := BB.size
    have HLc := hidden (HI.out.below BB)
    have cT3 := (Bc.cell (p := ⟨gT, 0, none⟩) hgT).trans cTc
    have bc := Bc.size
    have hT0r : wb.ownsRow wa.heap.size 3 1 (.slice bT (T.getD 0 []).length mT) (T.getD 0 []).length (intsV (T.getD 0 [])) := by
      have := hOT.rows.2 0 (by rw [HTL.out]; omega)
      rwa [eV] at this
    have hf0 := HFT.out 0 (by rw [HTL.out]; omega)
    have hIT := hidden (Ints.ofOwn hT0r (by have := hf0.1; omega) hf0.2).2
    subst eT
    rw [hT0'] at cT3
    clear hT0'
    clear hT0r eV cTc hf0 hOT
    go_wp2
    go_loop [10] (fun si => ∃ (i : Nat), i ≤ Q ∧ si = .int .i64 i) (fun si => Q - (intOf si).toNat)
    case atStart => exact ⟨0, by omega, rfl⟩
    case round =>
      obtain ⟨i, hi, rfl⟩ := hrel
      by_cases hlt : i < Q
      · obtain ⟨gu, cu2, hgu⟩ := Joins.ownsRow_form HOc.out (by omega)
        simp only [Value.slice.injEq] at hgu
        obtain ⟨rfl, _, rfl⟩ := hgu
        have d0 := HOc.out.cellAt i (by omega)
        rw [intsV_get G i (by rw [HSL.out]; exact hlt)] at d0
        have hy := HSM.out i hlt
        obtain ⟨y, hye⟩ : ∃ y, G.getD i 0 = y := ⟨_, rfl⟩
        rw [hye] at d0 hy
        have hy1 : ¬ y < 0 := by omega
        have hy2 : ¬ (K : Int) ≤ y := by omega
        clear hye
        go_wp2
        go_round
        case rel => exact ⟨i + 1, by omega, by go_num⟩
        case measure => simp [intOf]; omega
      · obtain rfl : i = Q := by omega
        by_cases hK1 : K = 1
        · have hone := HONE.out hK1
          rw [← hone] at KSB
          clear hone
          subst hK1
          go_wp2_with fail
          refine (KCB.out (some ⟨gT, 0, none⟩) au cT cu wc.heap.size wc (HLc.out.mono (by omega)) (HTc.out.mono (by omega)) (HIc.out.mono (by omega)) (Nat.le_refl _) hcT hcu).mono ?_
          rintro e wd ⟨rfl, Bd⟩
          have BD : Below wc.heap.size wc wd := Bd
          have cT4 := (BD.cell (p := ⟨gT, 0, none⟩) (by simp; omega)).trans cT3
          have hIT4 := ((hIT.out.below Bc).mono (by omega : wb.heap.size ≤ wc.heap.size)).below BD
          go_wp2_with fail
          refine (KSB.out bT mT wc.heap.size wd hIT4 ((HLc.out.mono (by omega)).below BD)).mono ?_
          rintro e we ⟨rfl, Be⟩
          have BE : Below wc.heap.size wc we := bel_then Be BD.size BD
          have hZZ : (Z != Z) = false := by simp
          go_wp2_with fail
          refine (KTO.out (some ⟨gT, 0, none⟩) cT wc.heap.size we ((HTc.out.mono (by omega)).below BE) BE.size hcT).mono ?_
          rintro e wf ⟨rfl, Bf⟩
          have BF : Below wc.heap.size wc wf := bel_then Bf BE.size BE
          go_wp2_with fail
          refine (KGP.out wf).mono ?_
          rintro e wg ⟨rfl, Bg⟩
          have BG : Below wc.heap.size wc wg := bel_then Bg BF.size BF
          go_wp2_with fail
          refine (HGR.out wg).mono ?_
          rintro e wh ⟨rfl, Bh⟩
          have BH : Below wc.heap.size wc wh := bel_then Bh BG.size BG
          have hfin := Ba.trans ((BB.trans (BH.mono hc)).mono ba)
          go_wp2
          go_ret
          exact ⟨rfl, hfin⟩
        · have hK1I : ((K : Int) == 1) = false := beq_eq_false_iff_ne.2 (by omega)
          go_wp2_with fail
          refine (KCB.out (some ⟨gT, 0, none⟩) au cT cu wc.heap.size wc (HLc.out.mono (by omega)) (HTc.out.mono (by omega)) (HIc.out.mono (by omega)) (Nat.le_refl _) hcT hcu).mono ?_
          rintro e wd ⟨rfl, Bd⟩
          have BD : Below wc.heap.size wc wd := Bd
          go_wp2_with fail
          refine (KTO.out (some ⟨gT, 0, none⟩) cT wc.heap.size wd ((HTc.out.mono (by omega)).below BD) BD.size hcT).mono ?_
          rintro e wf ⟨rfl, Bf⟩
          have BF : Below wc.heap.size wc wf := bel_then Bf BD.size BD
          go_wp2_with fail
          refine (KGP.out wf).mono ?_
          rintro e wg ⟨rfl, Bg⟩
          have BG : Below wc.heap.size wc wg := bel_then Bg BF.size BF
          go_wp2_with fail
          refine (HGR.out wg).mono ?_
          rintro e wh ⟨rfl, Bh⟩
          have BH : Below wc.heap.size wc wh := bel_then Bh BG.size BG
          have hfin := Ba.trans ((BB.trans (BH.mono hc)).mono ba)
          go_wp2
          go_ret
          exact ⟨rfl, hfin⟩
  · have hno : choOk L n k = false := by simpa using hok
    have KC := hidden (hCN al cl wa.heap.size n k L wa HI.out (Nat.le_refl _) hcl (by omega) (by omega) (by omega) (by omega) (by omega) hno)
    have KQ := hidden (fun W (h1 : Ints W wa.heap.size al L) => specChoose_no al cl wa.heap.size L n k W h1 (by omega) (by omega) hno)
    obtain ⟨N, hN⟩ : ∃ N, L.length = N := ⟨_, rfl⟩
    rw [hN] at KC KQ hcl hl ⊢
    clear hC hCN hT hB hGr hok hno hN
    go_wp2_with fail
    refine KC.out.mono ?_
    rintro e wb ⟨rfl, Bb⟩
    have bb := Bb.size
    go_wp2_with fail
    refine (KQ.out _ (HI.out.below Bb)).mono ?_
    rintro e wc ⟨rfl, hwc⟩
    subst hwc
    go_wp2_with fail
    refine (HGR.out _).mono ?_
    rintro e wd ⟨rfl, Bd⟩
    have hfin := Ba.trans ((bel_then Bd bb Bb).mono ba)
    go_wp2
    go_ret
    exact ⟨rfl, hfin⟩
end Go.Proofs.Ytaaahmfkdiogkaa
