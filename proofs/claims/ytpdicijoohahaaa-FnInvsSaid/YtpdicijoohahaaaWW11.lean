/- Merged: DrFreqs, Dr9R, C3Least. -/
import Derived.Test.YtpdicijoohahaaaWW9
import Derived.Test.YtpdicijoohahaaaWW4
import Derived.Test.YtpdicijoohahaaaWW3
import Derived.Maps.AppendAt
import Derived.Deep.RegionWith
import Derived.Deep.RegionHeld3
import Derived.Deep.DrawnRows
namespace Go.Proofs.Ytpdicijoohahaaa
set_option linter.unusedVariables false
set_option linter.unusedSimpArgs false
open Go.RowKit

theorem cell_one' (w : World) (u : Value) (T : TypeId) : ∀ (j : Nat) (v : Value), [u][j]? = some v → (w.alloc (.cells #[u] T)).cell? ((⟨w.heap.size, 0, none⟩ : Addr).add j) = some v := by
  intro j v hv
  have hj : j = 0 := by
    have := (List.getElem?_eq_some_iff.1 hv).1
    simpa using this
  subst hj
  have := (Has.fresh w T #[u]).cell 0
  have e : (⟨w.heap.size, 0, none⟩ : Addr).add 0 = ⟨w.heap.size, 0, none⟩ := by simp [Addr.add]
  rw [e, this]
  simpa using hv
theorem intsV_snoc (D : List Int) (x : Int) : intsV (D ++ [x]) = intsV D ++ [.int .i64 x] := by simp [intsV]

end Go.Proofs.Ytpdicijoohahaaa
namespace Go.Proofs.Ytpdicijoohahaaa
set_option linter.unusedVariables false
set_option linter.unusedSimpArgs false
open Go.RowKit

set_option maxHeartbeats 1000000 in
set_option maxRecDepth 100000 in
theorem drawRunSyms_any (a : Option Addr) (len cap : Nat) (zs : List Int) (w : World) (hcode : Code w w.heap.size a len cap zs) :
    Calls Try.prog 40 #[.slice a len cap] w fun e w' => ∃ k : Int, e = .returned (.int .i64 k) ∧ Below w.heap.size w w' := by
  go_enter Try.func40, Try.ntmps40
  go_wp2_with fail
  refine (l1New_any _ _ _ _ _ hcode).mono ?_
  rintro e w1 ⟨g, rfl, hc1, b1⟩
  have hg := hc1.1
  go_wp2_with fail
  refine (l1Once_any g _ 5 _ hc1 (by omega)).mono ?_
  rintro e w2 ⟨b, rfl, hc2, O2⟩
  have B2 := only_then O2 hg b1.size b1
  clear O2 hc1 b1
  cases b with
  | true =>
    go_wp2_with fail
    refine (l1PickInt_any g _ w2.heap.size 7 _ [-1, 0, 1, 2, 3, 600, 601] _ (hc2.alloc _) (by omega) (by omega) (by have := hc2.lt; omega) ?_).mono ?_
    · intro j hj
      rw [(Has.fresh w2 _ _).cell j]
      rcases j with _ | _ | _ | _ | _ | _ | _ | j <;> first | rfl | omega
    rintro e w3 ⟨j, hj, rfl, hc3, O3⟩
    have B3 := only_then O3 hg (by have := B2.size; simp; omega) (B2.alloc B2.size _)
    go_wp2
    go_ret
    exact ⟨_, rfl, B3⟩
  | false =>
    go_wp2_with fail
    refine (l1Below_any g _ 130 _ hc2 (by omega)).mono ?_
    rintro e w3 ⟨r, rfl, _, _, _, hc3, O3⟩
    have B3 := only_then O3 hg B2.size B2
    go_wp2
    go_ret
    exact ⟨_, rfl, B3⟩

theorem pick4r (j : Nat) (h : j < 4) : -1 ≤ ([-1, 2, 1, 1] : List Int).getD j 0 ∧ ([-1, 2, 1, 1] : List Int).getD j 0 ≤ 2 := by
  rcases j with _ | _ | _ | _ | j <;> simp <;> omega
set_option maxHeartbeats 2000000 in
set_option maxRecDepth 100000 in
theorem drawRunLen_any (a : Option Addr) (len cap : Nat) (zs : List Int) (w : World) (hcode : Code w w.heap.size a len cap zs) :
    Calls Try.prog 41 #[.slice a len cap] w fun e w' => ∃ v L, e = .returned v ∧ w'.ownsRow w.heap.size 3 1 v L.length (intsV L) ∧ L.length ≤ 12 ∧ (∀ x ∈ L, -1 ≤ x ∧ x ≤ 2) ∧ Below w.heap.size w w' := by
  obtain ⟨i0, hi, hz0, hz1, hz2⟩ := info_parts Try.infoI
  go_enter Try.func41, Try.ntmps41
  go_wp2_with fail
  refine (l1New_any _ _ _ _ _ hcode).mono ?_
  rintro e w1 ⟨g, rfl, hc1, b1⟩
  have hg := hc1.1
  have hgl := hc1.lt
  clear hcode
  go_wp2_with fail
  refine (l1Below_any g _ 11 _ hc1 (by omega)).mono ?_
  rintro e w2 ⟨r, rfl, r0, r1, _, hc2, O2⟩
  have r2 := r1 (by omega)
  have B2 := only_then O2 hg b1.size b1
  have s12 := O2.size
  have hgl2 := hc2.lt
  obtain ⟨n, rfl⟩ : ∃ n : Nat, r = n := ⟨r.toNat, by omega⟩
  clear O2 hc1 b1 r1
  go_wp2
  go_loopw [4, 5] (fun v si wr => ∃ (k : Nat) (D : List Int), k ≤ n ∧ si = .int .i64 ((n : Int) - k) ∧ Hid (D.length = k) ∧ Hid (∀ x ∈ D, -1 ≤ x ∧ x ≤ 2) ∧ wr.ownsRow w2.heap.size 3 1 v k (intsV D) ∧ Cur wr g w.heap.size ∧ Only g w2 wr) (fun _ si _ => (intOf si).toNat)
  case atStart => exact ⟨0, [], Nat.zero_le _, by go_num, hidden rfl, hidden (by simp), World.ownsRow_nil _ _ _ _, hc2, Only.refl _ _⟩
  case round =>
    obtain ⟨k, D, hk, rfl, HD, HR, hown, hcr, hO⟩ := hrel
    have hsz := hO.size
    by_cases hlt : k < n
    · go_wp2_with fail
      refine (l1Below_any g _ 2 _ hcr (by omega)).mono ?_
      rintro e w3 ⟨x, rfl, x0, x1, _, hc3, O3⟩
      have x2 := x1 (by omega)
      have hown1 := own_only hown O3 hgl2
      have hOn := hO.trans_ O3
      have hs9 := hOn.size
      clear x1 O3 hcr
      go_wp2_with (at_builtin; refine wpList_append_own _ rfl _ _ 22 rfl w2.heap.size 3 i0 (.int .i64 0) 1 8 Try.underlying22 hi hz0 hz1 hz2 rfl (by decide) _ _ _ rfl (hown1.alloc _) ⟨w3.heap.size, 0, none⟩ 1 1 [.int .i64 x] rfl rfl ?ca2 ?ca3 ?ca4 ?ca5 ?ca6 ?_)
      case ca2 => exact cell_one' _ _ _
      case ca3 => exact fun u hu => by simp at hu; subst hu; rfl
      case ca4 => unfold maxLen; omega
      case ca5 => omega
      case ca6 => simp; omega
      intro v3 w4 hown3 hgrow _
      have hown3 : w4.ownsRow w2.heap.size 3 1 v3 (k + 1) (intsV (D ++ [x])) := by rw [intsV_snoc]; exact hown3
      have hO3 : Only g w2 w4 := (hOn.alloc _).grownNew hgrow (fun q hq => (hown1.lt q hq).1)
      have hc4 : Cur w4 g w.heap.size := (hc3.alloc _).grown hgrow (fun q hq => by have := (hown1.lt q hq).1; omega)
      have HD2 : Hid ((D ++ [x]).length = k + 1) := hidden (by simp [HD.out])
      have HR2 : Hid (∀ y ∈ D ++ [x], -1 ≤ y ∧ y ≤ 2) := hidden (by
        intro y hy
        rcases List.mem_append.1 hy with h | h
        · exact HR.out y h
        · simp at h; subst h; omega)
      clear hgrow
      go_wp2
      exact ⟨⟨k + 1, D ++ [x], by omega, by go_num, HD2, HR2, hown3, hc4, hO3⟩, by simp [intOf]; omega⟩
    · have hkn : k = n := by omega
      subst hkn
      go_wp2_with fail
      refine (l1Once_any g _ 8 _ hcr (by omega)).mono ?_
      rintro e w3 ⟨b, rfl, hc3, O3⟩
      have hown1 := own_only hown O3 hgl2
      have hOn := hO.trans_ O3
      clear hown hO O3 hcr
      cases b with
      | true =>
        go_wp2_with fail
        refine (l1PickInt_any g _ w3.heap.size 4 _ [-1, 2, 1, 1] _ (hc3.alloc _) (by omega) (by omega) (by have := hc3.lt; omega) ?_).mono ?_
        · intro j hj
          rw [(Has.fresh w3 _ _).cell j]
          rcases j with _ | _ | _ | _ | j <;> first | rfl | omega
        rintro e w5 ⟨j, hj, rfl, hc5, O5⟩
        have hpk := pick4r j hj
        obtain ⟨x, hx⟩ : ∃ x, ([-1, 2, 1, 1] : List Int).getD j 0 = x := ⟨_, rfl⟩
        rw [hx] at hpk ⊢
        have hown5 := own_only (hown1.alloc _) O5 hgl2
        have hO5 := (hOn.alloc _).trans_ O5
        have hs9 := hO5.size
        clear hx hown1 hOn O5 hc3 hj
        go_wp2_with (at_builtin; refine wpList_append_own _ rfl _ _ 22 rfl w2.heap.size 3 i0 (.int .i64 0) 1 8 Try.underlying22 hi hz0 hz1 hz2 rfl (by decide) _ _ _ rfl (hown5.alloc _) ⟨w5.heap.size, 0, none⟩ 1 1 [.int .i64 x] rfl rfl ?cb2 ?cb3 ?cb4 ?cb5 ?cb6 ?_)
        case cb2 => exact cell_one' _ _ _
        case cb3 => exact fun u hu => by simp at hu; subst hu; rfl
        case cb4 => unfold maxLen; omega
        case cb5 => omega
        case cb6 => simp; omega
        intro v3 w6 hown3 hgrow _
        have hown3 : w6.ownsRow w2.heap.size 3 1 v3 (k + 1) (intsV (D ++ [x])) := by rw [intsV_snoc]; exact hown3
        have hO3 : Only g w2 w6 := (hO5.alloc _).grownNew hgrow (fun q hq => (hown5.lt q hq).1)
        have HD2 : (D ++ [x]).length = k + 1 := by simp [HD.out]
        have B6 := only_then hO3 hg B2.size B2
        go_wp2
        go_ret
        refine ⟨_, D ++ [x], rfl, by rw [HD2]; exact Joins.ownsRow_le hown3 (by have := B2.size; omega), by omega, ?_, B6⟩
        intro y hy
        rcases List.mem_append.1 hy with h | h
        · exact HR.out y h
        · simp at h; subst h; omega
      | false =>
        have B6 := only_then hOn hg B2.size B2
        go_wp2
        go_ret
        exact ⟨_, D, rfl, by rw [HD.out]; exact Joins.ownsRow_le hown1 (by have := B2.size; omega), by rw [HD.out]; omega, HR.out, B6⟩
end Go.Proofs.Ytpdicijoohahaaa
namespace Go.Proofs.Ytpdicijoohahaaa
set_option linter.unusedVariables false
set_option linter.unusedSimpArgs false
open Go.RowKit

theorem step_append_at {P : Program} (w : World) {ops : Array Oper} {o : Oper} {a : Act} {K : Act → World → Prop} {Q : Exit → Act → World → Prop} {E : Prop} (hgd : o.guard = none) (s x : Operand) (t : TypeId)
    (ho : o.op = .call { callee := .builtin .append, args := #[s, x], argTypes := #[t, t] })
    (base : Nat) (e : TypeId) (i : TypeInfo) (z : Value) (size bytes : Nat) (ht : P.underlying t = some (.slice e)) (hi : P.info? e = some i) (hz : i.zero = some z)
    (hsize : i.size = size) (hby : i.bytes = bytes) (hzs : z.cells.size = size) (hsz : 0 < size)
    (v : Value) (n : Nat) (xs : List Value) (hs : a.eval s = v) (hown : w.ownsRow base e size v n xs)
    (ad : Addr) (m c : Nat) (news : List Value) (hx : a.eval x = .slice (some ad) m c) (hl : news.length = m * size) (hnews : ∀ j u, news[j]? = some u → w.cell? (ad.add j) = some u) (h1 : ∀ u ∈ news, u.oneCell' = true)
    (h63 : n + m ≤ maxLen) (hbytes : (n + m) * bytes ≤ 140737488355328) (hbase : base ≤ w.heap.size)
    (h : ∀ v' w', w'.ownsRow base e size v' (n + m) (xs ++ news) → w.grownBy w' v.ownBlock → K (a.put o.dst v') w') :
    if Region.wanted o (yielded ops a.tmps) = true then Oper.wp P o a w K Q else E := by
  have hw : Region.wanted o (yielded ops a.tmps) = true := by simp [Region.wanted, hgd]
  rw [if_pos hw]
  exact wp_append_own w s x t ho base e i z size bytes ht hi hz hsize hby hzs hsz v n xs hs hown ad m c news hx hl hnews h1 h63 hbytes hbase fun v' w' h2 h3 _ => h v' w' h2 h3
attribute [local go_sem ↓] Go.wp_at_zero Go.wp_at_succ
end Go.Proofs.Ytpdicijoohahaaa
