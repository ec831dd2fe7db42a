/- Merged: Dr8A. -/
import Derived.Test.YtpdicijoohahaaaWW11
import Derived.Test.YtpdicijoohahaaaWW4
import Derived.Test.YtpdicijoohahaaaWW3
import Derived.Test.YtpdicijoohahaaaWW12
namespace Go.Proofs.Ytpdicijoohahaaa
set_option linter.unusedVariables false
set_option linter.unusedSimpArgs false
open Go.RowKit

set_option maxHeartbeats 2000000 in
set_option maxRecDepth 100000 in
theorem l8list_any (g B : Nat) (n most : Int) (w : World) (hc : Cur w g B) (n1 : 1 ≤ n) (n2 : n ≤ 1000) (m1 : 0 ≤ most) (m2 : most ≤ 1000) :
    Calls Try.prog 52 #[.pointer (some ⟨g, 0, none⟩), .int .i64 n, .int .i64 most] w fun e w' => ∃ v L, e = .returned v ∧ w'.ownsRow w.heap.size 3 1 v L.length (intsV L) ∧ (L.length : Int) ≤ most ∧ (∀ x ∈ L, 0 ≤ x ∧ x < n) ∧ Cur w' g B ∧ Only g w w' := by
  have hgl := hc.lt
  obtain ⟨i0, hi, hz0, hz1, hz2⟩ := info_parts Try.infoI
  go_enter Try.func52, Try.ntmps52
  go_wp2_with fail
  refine (l1Below_any g B _ _ hc (by omega)).mono ?_
  rintro e wa ⟨r, rfl, r0, r1, _, ha, Oa⟩
  have r2 := r1 (by omega)
  obtain ⟨q, rfl⟩ : ∃ q : Nat, r = q := ⟨r.toNat, by omega⟩
  clear r1
  go_wp2
  go_loopw [7, 8, 9] (fun v sl sk wr => ∃ (k : Nat) (D : List Int) (x : Int), k ≤ q ∧ sl = .int .i64 x ∧ sk = .int .i64 ((q : Int) - k) ∧ (0 ≤ x ∧ x < n) ∧ Hid (D.length = k) ∧ Hid (∀ y ∈ D, 0 ≤ y ∧ y < n) ∧ wr.ownsRow w.heap.size 3 1 v k (intsV D) ∧ Cur wr g B ∧ Only g w wr) (fun _ _ sk _ => (intOf sk).toNat)
  case atStart => exact ⟨0, [], 0, Nat.zero_le _, rfl, by go_num, by omega, hidden rfl, hidden (by simp), World.ownsRow_nil _ _ _ _, ha, Oa⟩
  case round =>
    obtain ⟨k, D, x, hk, rfl, rfl, hx, HD, HR, hown, hcr, hO⟩ := hrel
    have hsz := hO.size
    by_cases hlt : k < q
    · go_wp2_with fail
      refine (l1Once_any g _ 2 _ hcr (by omega)).mono ?_
      rintro e wb ⟨b, rfl, hcb, Ob⟩
      have hownb := own_only hown Ob hgl
      have hOb := hO.trans_ Ob
      clear hown hO Ob hcr hsz
      cases b with
      | true =>
        go_wp2_with fail
        refine (l1Below_any g _ n _ hcb (by omega)).mono ?_
        rintro e w1 ⟨y, rfl, y0, y1, _, hc1, O1⟩
        have y2 := y1 (by omega)
        have hown1 := own_only hownb O1 hgl
        have hOn := hOb.trans_ O1
        have hs9 := hOn.size
        clear y1 O1 hownb hOb hcb
        go_wp2_with (at_builtin; refine wpList_append_own _ rfl _ _ 22 rfl w.heap.size 3 i0 (.int .i64 0) 1 8 Try.underlying22 hi hz0 hz1 hz2 rfl (by decide) _ _ _ rfl (hown1.alloc _) ⟨w1.heap.size, 0, none⟩ 1 1 [.int .i64 y] rfl rfl ?ca2 ?ca3 ?ca4 ?ca5 ?ca6 ?_)
        case ca2 => exact cell_one' _ _ _
        case ca3 => exact fun u hu => by simp at hu; subst hu; rfl
        case ca4 => unfold maxLen; omega
        case ca5 => omega
        case ca6 => simp; omega
        intro v3 w4 hown3 hgrow _
        have hown3 : w4.ownsRow w.heap.size 3 1 v3 (k + 1) (intsV (D ++ [y])) := by rw [intsV_snoc]; exact hown3
        have hO3 : Only g w w4 := (hOn.alloc _).grownNew hgrow (fun q hq => (hown1.lt q hq).1)
        have hc4 : Cur w4 g B := (hc1.alloc _).grown hgrow (fun q hq => by have := (hown1.lt q hq).1; omega)
        have HD2 : Hid ((D ++ [y]).length = k + 1) := hidden (by simp [HD.out])
        have HR2 : Hid (∀ u ∈ D ++ [y], 0 ≤ u ∧ u < n) := hidden (by
          intro u hu
          rcases List.mem_append.1 hu with h | h
          · exact HR.out u h
          · simp at h; subst h; omega)
        clear hgrow
        go_wp2
        exact ⟨⟨k + 1, D ++ [y], y, by omega, rfl, by go_num, by omega, HD2, HR2, hown3, hc4, hO3⟩, by simp [intOf]; omega⟩
      | false =>
        have hs9 := hOb.size
        go_wp2_with (at_builtin; refine wpList_append_own _ rfl _ _ 22 rfl w.heap.size 3 i0 (.int .i64 0) 1 8 Try.underlying22 hi hz0 hz1 hz2 rfl (by decide) _ _ _ rfl (hownb.alloc _) ⟨wb.heap.size, 0, none⟩ 1 1 [.int .i64 x] rfl rfl ?cb2 ?cb3 ?cb4 ?cb5 ?cb6 ?_)
        case cb2 => exact cell_one' _ _ _
        case cb3 => exact fun u hu => by simp at hu; subst hu; rfl
        case cb4 => unfold maxLen; omega
        case cb5 => omega
        case cb6 => simp; omega
        intro v3 w4 hown3 hgrow _
        have hown3 : w4.ownsRow w.heap.size 3 1 v3 (k + 1) (intsV (D ++ [x])) := by rw [intsV_snoc]; exact hown3
        have hO3 : Only g w w4 := (hOb.alloc _).grownNew hgrow (fun q hq => (hownb.lt q hq).1)
        have hc4 : Cur w4 g B := (hcb.alloc _).grown hgrow (fun q hq => by have := (hownb.lt q hq).1; omega)
        have HD2 : Hid ((D ++ [x]).length = k + 1) := hidden (by simp [HD.out])
        have HR2 : Hid (∀ u ∈ D ++ [x], 0 ≤ u ∧ u < n) := hidden (by
          intro u hu
          rcases List.mem_append.1 hu with h | h
          · exact HR.out u h
          · simp at h; subst h; omega)
        clear hgrow
        go_wp2
        exact ⟨⟨k + 1, D ++ [x], x, by omega, rfl, by go_num, by omega, HD2, HR2, hown3, hc4, hO3⟩, by simp [intOf]; omega⟩
    · have hkn : k = q := by omega
      subst hkn
      go_wp2
      go_ret
      exact ⟨_, D, rfl, by rw [HD.out]; exact hown, by rw [HD.out]; omega, HR.out, hcr, hO⟩

theorem pick2n (n : Int) (h1 : 1 ≤ n) (j : Nat) (h : j < 2) : -1 ≤ ([-1, n] : List Int).getD j 0 ∧ ([-1, n] : List Int).getD j 0 ≤ n := by
  rcases j with _ | _ | j <;> simp <;> omega
theorem pick4n (j : Nat) (h : j < 4) : -1 ≤ ([0, 256, 257, -1] : List Int).getD j 0 ∧ ([0, 256, 257, -1] : List Int).getD j 0 ≤ 257 := by
  rcases j with _ | _ | _ | _ | j <;> simp <;> omega
set_option maxHeartbeats 2000000 in
set_option maxRecDepth 100000 in
theorem l8bent_any (g B : Nat) (most : Int) (w : World) (hc : Cur w g B) (m1 : 0 ≤ most) (m2 : most ≤ 900) :
    Calls Try.prog 56 #[.pointer (some ⟨g, 0, none⟩), .int .i64 most] w fun e w' => ∃ v L n, e = .returned (.tuple #[v, .int .i64 n]) ∧ w'.ownsRow w.heap.size 3 1 v L.length (intsV L) ∧ L.length ≤ 1000 ∧ (∀ x ∈ L, -1 ≤ x ∧ x ≤ 9) ∧ -1 ≤ n ∧ n ≤ 257 ∧ Cur w' g B ∧ Only g w w' := by
  have hgl := hc.lt
  obtain ⟨i0, hi, hz0, hz1, hz2⟩ := info_parts Try.infoI
  go_enter Try.func56, Try.ntmps56
  go_wp2_with fail
  refine (l1Below_any g B 9 _ hc (by omega)).mono ?_
  rintro e wa ⟨r, rfl, r0, r1, _, ha, Oa⟩
  have r2 := r1 (by omega)
  obtain ⟨n, hn⟩ : ∃ n, 1 + r = n := ⟨_, rfl⟩
  have hr : r = n - 1 := by omega
  subst hr
  have n1 : 1 ≤ n := by omega
  have n2 : n ≤ 9 := by omega
  have e1 : (1 : Int) + (n - 1) = n := by omega
  clear hn r0 r1 r2 hc
  have hsa := Oa.size
  go_wp2_with fail
  refine (l8list_any g B n most _ ha n1 (by omega) m1 (by omega)).mono ?_
  rintro e wb ⟨v, L, rfl, hown, hl, hr, hb, Ob⟩
  obtain ⟨m, hm⟩ : ∃ m, L.length = m := ⟨_, rfl⟩
  rw [hm] at hown hl
  replace hown := Joins.ownsRow_le hown hsa
  have HM := hidden hm
  have HR := hidden hr
  have OB := Oa.trans_ Ob
  clear e1 hm hr Oa Ob ha hsa
  go_wp2_with fail
  refine (l1Below_any g B 14 _ hb (by omega)).mono ?_
  rintro e wc ⟨p, rfl, p0, p1, _, hcc, Oc⟩
  have p2 := p1 (by omega)
  have hownc := own_only hown Oc hgl
  have OC := OB.trans_ Oc
  have hsc := OC.size
  clear p1 hown OB Oc hb
  by_cases q0 : p = 0
  · subst q0
    go_wp2_with fail
    refine (l1PickInt_any g B wc.heap.size 2 _ [-1, n] _ (hcc.alloc _) (by omega) (by omega) (by have := hcc.lt; omega) ?_).mono ?_
    · intro j hj
      rw [(Has.fresh wc _ _).cell j]
      rcases j with _ | _ | j <;> first | rfl | omega
    rintro e w5 ⟨j, hj, rfl, hc5, O5⟩
    have hpk := pick2n n n1 j hj
    obtain ⟨x, hx⟩ : ∃ x, ([-1, n] : List Int).getD j 0 = x := ⟨_, rfl⟩
    rw [hx] at hpk ⊢
    have hown5 := own_only (hownc.alloc _) O5 hgl
    have hO5 := (OC.alloc _).trans_ O5
    have hs9 := hO5.size
    clear hx hownc OC O5 hcc hj
    go_wp2_with (at_builtin; refine wpList_append_own _ rfl _ _ 22 rfl w.heap.size 3 i0 (.int .i64 0) 1 8 Try.underlying22 hi hz0 hz1 hz2 rfl (by decide) _ _ _ rfl (hown5.alloc _) ⟨w5.heap.size, 0, none⟩ 1 1 [.int .i64 x] rfl rfl ?cb2 ?cb3 ?cb4 ?cb5 ?cb6 ?_)
    case cb2 => exact cell_one' _ _ _
    case cb3 => exact fun u hu => by simp at hu; subst hu; rfl
    case cb4 => unfold maxLen; omega
    case cb5 => omega
    case cb6 => simp; omega
    intro v3 w6 hown3 hgrow _
    have hown3 : w6.ownsRow w.heap.size 3 1 v3 (m + 1) (intsV (L ++ [x])) := by rw [intsV_snoc]; exact hown3
    have hO3 : Only g w w6 := (hO5.alloc _).grownNew hgrow (fun q hq => (hown5.lt q hq).1)
    have hc6 : Cur w6 g B := (hc5.alloc _).grown hgrow (fun q hq => by have := (hown5.lt q hq).1; omega)
    have HD2 : (L ++ [x]).length = m + 1 := by simp [HM.out]
    clear hgrow
    go_wp2
    refine bodyPost_ret (v := .tuple #[v3, .int .i64 n]) (by simp [results, Try.results56, go_sem]) rfl ⟨_, L ++ [x], n, rfl, by rw [HD2]; exact hown3, by omega, ?_, by omega, by omega, hc6, hO3⟩
    intro y hy
    rcases List.mem_append.1 hy with h | h
    · have := HR.out y h; omega
    · simp at h; subst h; omega
  by_cases q1 : p = 1
  · subst q1
    clear q0
    go_wp2_with fail
    refine (l1PickInt_any g B wc.heap.size 4 _ [0, 256, 257, -1] _ (hcc.alloc _) (by omega) (by omega) (by have := hcc.lt; omega) ?_).mono ?_
    · intro j hj
      rw [(Has.fresh wc _ _).cell j]
      rcases j with _ | _ | _ | _ | j <;> first | rfl | omega
    rintro e w5 ⟨j, hj, rfl, hc5, O5⟩
    have hpk := pick4n j hj
    obtain ⟨x, hx⟩ : ∃ x, ([0, 256, 257, -1] : List Int).getD j 0 = x := ⟨_, rfl⟩
    rw [hx] at hpk ⊢
    have hown5 := own_only (hownc.alloc _) O5 hgl
    have hO5 := (OC.alloc _).trans_ O5
    clear hx hownc OC O5 hcc hj
    go_wp2
    exact bodyPost_ret (v := .tuple #[v, .int .i64 x]) (by simp [results, Try.results56, go_sem]) rfl ⟨_, L, x, rfl, by rw [HM.out]; exact hown5, by rw [HM.out]; omega, fun y hy => by have := HR.out y hy; omega, hpk.1, hpk.2, hc5, hO5⟩
  by_cases q2 : p = 2
  · subst q2
    clear q0 q1
    go_wp2_with fail
    refine (l1Below_any g B 2 _ hcc (by omega)).mono ?_
    rintro e w5 ⟨x, rfl, x0, x1, _, hc5, O5⟩
    have x2 := x1 (by omega)
    have hO5 := OC.trans_ O5
    obtain ⟨S, hS⟩ : ∃ S : Nat, 600 + x = S := ⟨(600 + x).toNat, by omega⟩
    have hx : x = (S : Int) - 600 := by omega
    subst hx
    have e2 : (600 : Int) + ((S : Int) - 600) = S := by omega
    have hs9 := hO5.size
    clear x1 hS OC O5 hcc
    go_wp2_with (at_make; refine wpList_make_full _ rfl _ _ 22 rfl w.heap.size 3 i0 (.int .i64 0) 1 Try.underlying22 hi hz0 hz1 .i64 .i64 _ _ S rfl rfl rfl rfl ?cc1 ?cc2 ?cc3 ?_)
    case cc1 => rw [hz2]; omega
    case cc2 => unfold maxLen; omega
    case cc3 => omega
    intro w6 hown3 hgrow
    rw [made_ints] at hown3
    have hO3 : Only g w w6 := hO5.grownNew hgrow (fun q hq => by simp at hq)
    have hc6 : Cur w6 g B := hc5.grown hgrow (fun q hq => by simp at hq)
    clear hgrow
    go_wp2
    refine bodyPost_ret (v := .tuple #[.slice (some ⟨w5.heap.size, 0, none⟩) S S, .int .i64 n]) (by simp [results, Try.results56, go_sem]) rfl ⟨_, List.replicate S 0, n, rfl, by rw [List.length_replicate]; exact hown3, by rw [List.length_replicate]; omega, ?_, by omega, by omega, hc6, hO3⟩
    intro y hy
    have := List.eq_of_mem_replicate hy
    omega
  have r0 : (p == 0) = false := by simp [q0]
  have r1 : (p == 1) = false := by simp [q1]
  have r2 : (p == 2) = false := by simp [q2]
  clear q0 q1 q2
  go_wp2
  exact bodyPost_ret (v := .tuple #[v, .int .i64 n]) (by simp [results, Try.results56, go_sem]) rfl ⟨_, L, n, rfl, by rw [HM.out]; exact hownc, by rw [HM.out]; omega, fun y hy => by have := HR.out y hy; omega, by omega, by omega, hcc, OC⟩

set_option maxHeartbeats 1000000 in
set_option maxRecDepth 100000 in
theorem drawRanksOk_any (a : Option Addr) (len cap : Nat) (zs : List Int) (w : World) (hcode : Code w w.heap.size a len cap zs) :
    Calls Try.prog 47 #[.slice a len cap] w fun e w' => ∃ v L n, e = .returned (.tuple #[v, .int .i64 n]) ∧ w'.ownsRow w.heap.size 3 1 v L.length (intsV L) ∧ L.length ≤ 1000 ∧ (∀ x ∈ L, -1 ≤ x ∧ x ≤ 9) ∧ -1 ≤ n ∧ n ≤ 257 ∧ Below w.heap.size w w' := by
  have hl := hcode.1
  go_enter Try.func47, Try.ntmps47
  go_wp2_with fail
  refine (l1New_any _ _ _ _ _ hcode).mono ?_
  rintro e w1 ⟨g, rfl, hc1, b1⟩
  have hg := hc1.1
  go_wp2_with (go_at_call 53; refine (l1Size_any _ _ _ _ _ (by omega) (by omega) (by omega)).mono ?_; rintro e w2 ⟨m, rfl, m1, m2, rfl⟩)
  go_wp2_with fail
  refine (l8bent_any g _ m _ hc1 (by omega) (by omega)).mono ?_
  rintro e w3 ⟨v, L, n, rfl, hown, h1, h2, h3, h4, hc3, O3⟩
  have B3 := only_then O3 hg b1.size b1
  go_wp2
  exact bodyPost_ret (v := .tuple #[v, .int .i64 n]) (by simp [results, Try.results47, go_sem]) rfl ⟨v, L, n, rfl, Joins.ownsRow_le hown b1.size, h1, h2, h3, h4, B3⟩
set_option maxHeartbeats 1000000 in
set_option maxRecDepth 100000 in
theorem drawMtf_any (a : Option Addr) (len cap : Nat) (zs : List Int) (w : World) (hcode : Code w w.heap.size a len cap zs) :
    Calls Try.prog 27 #[.slice a len cap] w fun e w' => ∃ v L n, e = .returned (.tuple #[v, .int .i64 n]) ∧ w'.ownsRow w.heap.size 3 1 v L.length (intsV L) ∧ L.length ≤ 1000 ∧ (∀ x ∈ L, -1 ≤ x ∧ x ≤ 9) ∧ -1 ≤ n ∧ n ≤ 257 ∧ Below w.heap.size w w' := by
  go_enter Try.func27, Try.ntmps27
  go_wp2_with fail
  refine (drawRanksOk_any _ _ _ _ _ hcode).mono ?_
  rintro e w3 ⟨v, L, n, rfl, h⟩
  go_wp2
  exact bodyPost_ret (v := .tuple #[v, .int .i64 n]) (by simp [results, Try.results27, go_sem]) rfl ⟨v, L, n, rfl, h⟩
set_option maxHeartbeats 1000000 in
set_option maxRecDepth 100000 in
theorem drawSbr_any (a : Option Addr) (len cap : Nat) (zs : List Int) (w : World) (hcode : Code w w.heap.size a len cap zs) :
    Calls Try.prog 34 #[.slice a len cap] w fun e w' => ∃ v L n, e = .returned (.tuple #[v, .int .i64 n]) ∧ w'.ownsRow w.heap.size 3 1 v L.length (intsV L) ∧ L.length ≤ 1000 ∧ (∀ x ∈ L, -1 ≤ x ∧ x ≤ 9) ∧ -1 ≤ n ∧ n ≤ 257 ∧ Below w.heap.size w w' := by
  go_enter Try.func34, Try.ntmps34
  go_wp2_with fail
  refine (drawRanksOk_any _ _ _ _ _ hcode).mono ?_
  rintro e w3 ⟨v, L, n, rfl, h⟩
  go_wp2
  exact bodyPost_ret (v := .tuple #[v, .int .i64 n]) (by simp [results, Try.results34, go_sem]) rfl ⟨v, L, n, rfl, h⟩
set_option maxHeartbeats 1000000 in
set_option maxRecDepth 100000 in
theorem drawInv_any (a : Option Addr) (len cap : Nat) (zs : List Int) (w : World) (hcode : Code w w.heap.size a len cap zs) :
    Calls Try.prog 37 #[.slice a len cap] w fun e w' => ∃ v L n, e = .returned (.tuple #[v, .int .i64 n]) ∧ w'.ownsRow w.heap.size 3 1 v L.length (intsV L) ∧ L.length ≤ 1000 ∧ (∀ x ∈ L, -1 ≤ x ∧ x ≤ 9) ∧ -1 ≤ n ∧ n ≤ 257 ∧ Below w.heap.size w w' := by
  go_enter Try.func37, Try.ntmps37
  go_wp2_with fail
  refine (drawRanksOk_any _ _ _ _ _ hcode).mono ?_
  rintro e w3 ⟨v, L, n, rfl, h⟩
  go_wp2
  exact bodyPost_ret (v := .tuple #[v, .int .i64 n]) (by simp [results, Try.results37, go_sem]) rfl ⟨v, L, n, rfl, h⟩
end Go.Proofs.Ytpdicijoohahaaa
