/- Merged: DrFreqs, Dr4A, Dr4B, C3Least, C3Huff, C3I, WEx3, I3W. -/
import Derived.Test.YtaaahmfkdiogkaaQM10
import Derived.Test.YtaaahmfkdiogkaaQM5
import Derived.Test.YtaaahmfkdiogkaaQM4
import Derived.Maps.AppendAt
import Derived.Deep.RegionWith
import Derived.Deep.RegionHeld3
import Derived.Deep.DrawnRows
import Derived.RegionTactic
import Derived.ChangeAlike
import Derived.Deep.QuietTactic
import Derived.BigQuiet
import Derived.OwnWalk
namespace Go.Proofs.Ytaaahmfkdiogkaa
set_option linter.unusedVariables false
set_option linter.unusedSimpArgs false
open Go.RowKit

theorem cell_one' (w : World) (u : Value) (T : TypeId) : ∀ (j : Nat) (v : Value), [u][j]? = some v → (w.alloc (.cells #[u] T)).cell? ((⟨w.heap.size, 0, none⟩ : Addr).add j) = some v := by
  intro j v hv
  have hj : j = 0 := by
    have := (List.getElem?_eq_some_iff.1 hv).1
    simpa using this
  subst hj
  have := (Has.fresh w T #[u]).cell 0
  have e : (⟨w.heap.size, 0, none⟩ : Addr).add 0 = ⟨w.heap.size, 0, none⟩ := by simp [Addr.add]
  rw [e, this]
  simpa using hv
theorem intsV_snoc (D : List Int) (x : Int) : intsV (D ++ [x]) = intsV D ++ [.int .i64 x] := by simp [intsV]

set_option maxHeartbeats 2000000 in
set_option maxRecDepth 100000 in
theorem l3freqs_any (g B most : Nat) (w : World) (hc : Cur w g B) (hm : 1 ≤ most) (hm2 : most ≤ 200) :
    Calls Try.prog 147 #[.pointer (some ⟨g, 0, none⟩), .int .i64 most] w fun e w' => ∃ v zs, e = .returned v ∧ w'.ownsRow w.heap.size 3 1 v zs.length (intsV zs) ∧ 1 ≤ zs.length ∧ zs.length ≤ most ∧ (∀ x ∈ zs, 0 ≤ x ∧ x ≤ 1000000) ∧ Cur w' g B ∧ Only g w w' := by
  have hgl := hc.lt
  obtain ⟨i0, hi, hz0, hz1, hz2⟩ := info_parts Try.infoI
  go_enter Try.func147, Try.ntmps147
  go_wp2_with fail
  refine (l1Below_any g B most _ hc (by omega)).mono ?_
  rintro e wa ⟨r, rfl, r0, r1, _, ha, Oa⟩
  have r2 := r1 (by omega)
  obtain ⟨n, hn⟩ : ∃ n : Nat, 1 + r = n := ⟨(1 + r).toNat, by omega⟩
  have hn1 : 1 ≤ n := by omega
  have hn2 : n ≤ most := by omega
  have hr' : r = (n : Int) - 1 := by omega
  subst hr'
  clear r0 r1 r2 hn
  have e1 : (1 : Int) + ((n : Int) - 1) = n := by omega
  go_wp2_with fail
  refine (l1Below_any g B 4 _ ha (by omega)).mono ?_
  rintro e wb ⟨kd, rfl, d0, d1, _, hb, Ob⟩
  have d2 := d1 (by omega)
  have OB := Oa.trans_ Ob
  clear d1 Oa Ob ha e1
  go_wp2
  go_loopw [5, 8, 9, 10] (fun v sa sb si wr => ∃ (k : Nat) (D : List Int) (a b : Int), k ≤ n ∧ sa = .int .i64 a ∧ sb = .int .i64 b ∧ si = .int .i64 k ∧ (0 ≤ a ∧ a ≤ 1000000) ∧ (0 ≤ b ∧ b ≤ 1000000) ∧ Hid (D.length = k) ∧ Hid (∀ x ∈ D, 0 ≤ x ∧ x ≤ 1000000) ∧ wr.ownsRow w.heap.size 3 1 v k (intsV D) ∧ Cur wr g B ∧ Only g w wr) (fun _ _ _ si _ => n - (intOf si).toNat)
  case atStart => exact ⟨0, [], 1, 1, Nat.zero_le _, rfl, rfl, rfl, by omega, by omega, hidden rfl, hidden (by simp), World.ownsRow_nil _ _ _ _, hb, OB⟩
  case round =>
    obtain ⟨k, D, a, b, hk, rfl, rfl, rfl, ha2, hb2, HD, HR, hown, hcr, hO⟩ := hrel
    have hsz := hO.size
    by_cases hlt : k < n
    · by_cases k0 : kd = 0
      · subst k0
        go_wp2_with fail
        refine (l1Below_any g B 4 _ hcr (by omega)).mono ?_
        rintro e w1 ⟨r, rfl, hr0, hr1, _, hc1, hO1⟩
        have hr2 := hr1 (by omega)
        have hown1 := own_only hown hO1 hgl
        have hOn := hO.trans_ hO1
        clear hr1 hO1
        go_wp2_with (at_builtin; refine wpList_append_own _ rfl _ _ 24 rfl w.heap.size 3 i0 (.int .i64 0) 1 8 Try.underlying24 hi hz0 hz1 hz2 rfl (by decide) _ _ _ rfl (hown1.alloc _) ⟨w1.heap.size, 0, none⟩ 1 1 [.int .i64 r] rfl rfl ?ca2 ?ca3 ?ca4 ?ca5 ?ca6 ?_)
        case ca2 => exact cell_one' _ _ _
        case ca3 => exact fun u hu => by simp at hu; subst hu; rfl
        case ca4 => unfold maxLen; omega
        case ca5 => omega
        case ca6 => have hs9 := hOn.size; simp; omega
        intro v3 w3 hown3 hgrow _
        have hown3 : w3.ownsRow w.heap.size 3 1 v3 (k + 1) (intsV (D ++ [r])) := by rw [intsV_snoc]; exact hown3
        have hO3 : Only g w w3 := (hOn.alloc _).grownNew hgrow (fun q hq => (hown1.lt q hq).1)
        have hc3 : Cur w3 g B := (hc1.alloc _).grown hgrow (fun q hq => by have := (hown1.lt q hq).1; omega)
        have HD2 : Hid ((D ++ [r]).length = k + 1) := hidden (by simp [HD.out])
        have HR2 : Hid (∀ x ∈ D ++ [r], 0 ≤ x ∧ x ≤ 1000000) := hidden (by
          intro x hx
          rcases List.mem_append.1 hx with h | h
          · exact HR.out x h
          · simp at h; subst h; omega)
        clear hgrow
        go_wp2
        exact ⟨⟨k + 1, D ++ [r], a, b, by omega, rfl, rfl, by go_num, by omega, by omega, HD2, HR2, hown3, hc3, hO3⟩, by simp [intOf]; omega⟩
      · by_cases k1 : kd = 1
        · subst k1
          go_wp2_with (at_builtin; refine wpList_append_own _ rfl _ _ 24 rfl w.heap.size 3 i0 (.int .i64 0) 1 8 Try.underlying24 hi hz0 hz1 hz2 rfl (by decide) _ _ _ rfl (hown.alloc _) ⟨wr.heap.size, 0, none⟩ 1 1 [.int .i64 a] rfl rfl ?cb2 ?cb3 ?cb4 ?cb5 ?cb6 ?_)
          case cb2 => exact cell_one' _ _ _
          case cb3 => exact fun u hu => by simp at hu; subst hu; rfl
          case cb4 => unfold maxLen; omega
          case cb5 => omega
          case cb6 => have hs9 := hO.size; simp; omega
          intro v3 w3 hown3 hgrow _
          have hown3 : w3.ownsRow w.heap.size 3 1 v3 (k + 1) (intsV (D ++ [a])) := by rw [intsV_snoc]; exact hown3
          have hO3 : Only g w w3 := (hO.alloc _).grownNew hgrow (fun q hq => (hown.lt q hq).1)
          have hc3 : Cur w3 g B := (hcr.alloc _).grown hgrow (fun q hq => by have := (hown.lt q hq).1; omega)
          by_cases hab : 1000000 < a + b
          · have HD2 : Hid ((D ++ [a]).length = k + 1) := hidden (by simp [HD.out])
            have HR2 : Hid (∀ x ∈ D ++ [a], 0 ≤ x ∧ x ≤ 1000000) := hidden (by
              intro x hx
              rcases List.mem_append.1 hx with h | h
              · exact HR.out x h
              · simp at h; subst h; omega)
            clear hgrow
            go_wp2
            exact ⟨⟨k + 1, D ++ [a], b, 1, by omega, rfl, rfl, by go_num, by omega, by omega, HD2, HR2, hown3, hc3, hO3⟩, by simp [intOf]; omega⟩
          · have HD2 : Hid ((D ++ [a]).length = k + 1) := hidden (by simp [HD.out])
            have HR2 : Hid (∀ x ∈ D ++ [a], 0 ≤ x ∧ x ≤ 1000000) := hidden (by
              intro x hx
              rcases List.mem_append.1 hx with h | h
              · exact HR.out x h
              · simp at h; subst h; omega)
            clear hgrow
            go_wp2
            exact ⟨⟨k + 1, D ++ [a], b, (a + b), by omega, rfl, rfl, by go_num, by omega, by omega, HD2, HR2, hown3, hc3, hO3⟩, by simp [intOf]; omega⟩
        · by_cases k2 : kd = 2
          · subst k2
            go_wp2_with fail
            refine (l1Below_any g B 1000001 _ hcr (by omega)).mono ?_
            rintro e w1 ⟨r, rfl, hr0, hr1, _, hc1, hO1⟩
            have hr2 := hr1 (by omega)
            have hown1 := own_only hown hO1 hgl
            have hOn := hO.trans_ hO1
            clear hr1 hO1
            go_wp2_with (at_builtin; refine wpList_append_own _ rfl _ _ 24 rfl w.heap.size 3 i0 (.int .i64 0) 1 8 Try.underlying24 hi hz0 hz1 hz2 rfl (by decide) _ _ _ rfl (hown1.alloc _) ⟨w1.heap.size, 0, none⟩ 1 1 [.int .i64 r] rfl rfl ?cc2 ?cc3 ?cc4 ?cc5 ?cc6 ?_)
            case cc2 => exact cell_one' _ _ _
            case cc3 => exact fun u hu => by simp at hu; subst hu; rfl
            case cc4 => unfold maxLen; omega
            case cc5 => omega
            case cc6 => have hs9 := hOn.size; simp; omega
            intro v3 w3 hown3 hgrow _
            have hown3 : w3.ownsRow w.heap.size 3 1 v3 (k + 1) (intsV (D ++ [r])) := by rw [intsV_snoc]; exact hown3
            have hO3 : Only g w w3 := (hOn.alloc _).grownNew hgrow (fun q hq => (hown1.lt q hq).1)
            have hc3 : Cur w3 g B := (hc1.alloc _).grown hgrow (fun q hq => by have := (hown1.lt q hq).1; omega)
            have HD2 : Hid ((D ++ [r]).length = k + 1) := hidden (by simp [HD.out])
            have HR2 : Hid (∀ x ∈ D ++ [r], 0 ≤ x ∧ x ≤ 1000000) := hidden (by
              intro x hx
              rcases List.mem_append.1 hx with h | h
              · exact HR.out x h
              · simp at h; subst h; omega)
            clear hgrow
            go_wp2
            exact ⟨⟨k + 1, D ++ [r], a, b, by omega, rfl, rfl, by go_num, by omega, by omega, HD2, HR2, hown3, hc3, hO3⟩, by simp [intOf]; omega⟩
          · have k3 : kd = 3 := by omega
            subst k3
            clear k0 k1 k2
            go_wp2_with fail
            refine (l1Below_any g B 12 _ hcr (by omega)).mono ?_
            rintro e w1 ⟨r, rfl, hr0, hr1, _, hc1, hO1⟩
            have hr2 := hr1 (by omega)
            have hown1 := own_only hown hO1 hgl
            have hOn := hO.trans_ hO1
            clear hr1 hO1
            obtain ⟨p, rfl⟩ : ∃ p : Nat, r = p := ⟨r.toNat, by omega⟩
            have h2p : 2 ^ p ≤ 2 ^ 11 := Nat.pow_le_pow_right (by omega) (by omega)
            obtain ⟨P, hP⟩ : ∃ P, 2 ^ p = P := ⟨_, rfl⟩
            have hwp : wrap64 (2 ^ p) = (P : Int) := by rw [show ((2 : Int) ^ p) = ((2 ^ p : Nat) : Int) by simp, hP]; exact wrap64_n _ (by omega)
            rw [hP] at h2p
            clear hP
            go_wp2_with (at_builtin; refine wpList_append_own _ rfl _ _ 24 rfl w.heap.size 3 i0 (.int .i64 0) 1 8 Try.underlying24 hi hz0 hz1 hz2 rfl (by decide) _ _ _ rfl (hown1.alloc _) ⟨w1.heap.size, 0, none⟩ 1 1 [.int .i64 (P : Int)] rfl rfl ?cd2 ?cd3 ?cd4 ?cd5 ?cd6 ?_)
            all_goals (try clear hwp)
            case cd2 => exact cell_one' _ _ _
            case cd3 => exact fun u hu => by simp at hu; subst hu; rfl
            case cd4 => unfold maxLen; omega
            case cd5 => omega
            case cd6 => have hs9 := hOn.size; simp; omega
            intro v3 w3 hown3 hgrow _
            have hown3 : w3.ownsRow w.heap.size 3 1 v3 (k + 1) (intsV (D ++ [(P : Int)])) := by rw [intsV_snoc]; exact hown3
            have hO3 : Only g w w3 := (hOn.alloc _).grownNew hgrow (fun q hq => (hown1.lt q hq).1)
            have hc3 : Cur w3 g B := (hc1.alloc _).grown hgrow (fun q hq => by have := (hown1.lt q hq).1; omega)
            have HD2 : Hid ((D ++ [(P : Int)]).length = k + 1) := hidden (by simp [HD.out])
            have HR2 : Hid (∀ x ∈ D ++ [(P : Int)], 0 ≤ x ∧ x ≤ 1000000) := hidden (by
              intro x hx
              rcases List.mem_append.1 hx with h | h
              · exact HR.out x h
              · simp at h; subst h; omega)
            clear hgrow
            go_wp2
            exact ⟨⟨k + 1, D ++ [(P : Int)], a, b, by omega, rfl, rfl, by go_num, by omega, by omega, HD2, HR2, hown3, hc3, hO3⟩, by simp [intOf]; omega⟩
    · have hkn : k = n := by omega
      subst hkn
      go_wp2
      go_ret
      exact ⟨_, D, rfl, by rw [HD.out]; exact hown, by rw [HD.out]; omega, by rw [HD.out]; omega, HR.out, hcr, hO⟩

end Go.Proofs.Ytaaahmfkdiogkaa
namespace Go.Proofs.Ytaaahmfkdiogkaa
set_option linter.unusedVariables false
set_option linter.unusedSimpArgs false
open Go.RowKit

theorem only_below {g : Nat} {W W' : World} (h : Below W.heap.size W W') : Only g W W' := ⟨h.os, h.tape, h.output, h.size, fun i hi _ => h.block i hi⟩
theorem pick4 (j : Nat) (h : j < 4) : 5 ≤ ([5, 6, 9, 20] : List Int).getD j 0 ∧ ([5, 6, 9, 20] : List Int).getD j 0 ≤ 20 := by
  rcases j with _ | _ | _ | _ | j <;> simp <;> omega
theorem pick6b (j : Nat) (h : j < 6) : -1 ≤ ([0, 1, 2, 20, 21, -1] : List Int).getD j 0 ∧ ([0, 1, 2, 20, 21, -1] : List Int).getD j 0 ≤ 21 := by
  rcases j with _ | _ | _ | _ | _ | _ | j <;> simp <;> omega
set_option maxHeartbeats 4000000 in
set_option maxRecDepth 100000 in
theorem l3lens_any (g B most : Nat) (w : World) (hc : Cur w g B) (hm : 4 ≤ most) (hm2 : most ≤ 200) :
    Calls Try.prog 140 #[.pointer (some ⟨g, 0, none⟩), .int .i64 most] w fun e w' => ∃ v zs, e = .returned v ∧ w'.ownsRow w.heap.size 3 1 v zs.length (intsV zs) ∧ 1 ≤ zs.length ∧ zs.length ≤ most ∧ (∀ x ∈ zs, 1 ≤ x ∧ x ≤ 20) ∧ Cur w' g B ∧ Only g w w' := by
  have hgl := hc.lt
  go_enter Try.func140, Try.ntmps140
  go_wp2_with fail
  refine (l3freqs_any g B most _ hc (by omega) (by omega)).mono ?_
  rintro e wa ⟨v, fs, rfl, hown, hl1, hl2, hfr, ha, Oa⟩
  obtain ⟨af, cf, hv⟩ := own_shape hown
  subst hv
  have hIa := (Ints.ofOwn hown (by omega) (fun x hx => by have := hfr x hx; omega)).2
  have hsa := Oa.size
  go_wp2_with fail
  refine (l1PickInt_any g B wa.heap.size 4 _ [5, 6, 9, 20] _ (ha.alloc _) (by omega) (by omega) (by have := ha.lt; omega) ?_).mono ?_
  · intro j hj
    rw [(Has.fresh wa _ _).cell j]
    rcases j with _ | _ | _ | _ | j <;> first | rfl | omega
  rintro e wb ⟨j, hj, rfl, hb, Ob⟩
  have hpk := pick4 j hj
  obtain ⟨x, hx⟩ : ∃ x, ([5, 6, 9, 20] : List Int).getD j 0 = x := ⟨_, rfl⟩
  rw [hx] at hpk ⊢
  obtain ⟨q, rfl⟩ : ∃ q : Nat, x = q := ⟨x.toNat, by omega⟩
  have hownb := own_only (hown.alloc (.cells #[.int .i64 5, .int .i64 6, .int .i64 9, .int .i64 20] 3)) Ob hgl
  have OB := (Oa.alloc (.cells #[.int .i64 5, .int .i64 6, .int .i64 9, .int .i64 20] 3)).trans_ Ob
  have hIb := (Ints.ofOwn hownb (by omega) (fun x hx => by have := hfr x hx; omega)).2
  have hbl := hb.lt
  have hsb := OB.size
  have HFR := hidden hfr
  obtain ⟨m, hmE⟩ : ∃ m, fs.length = m := ⟨_, rfl⟩
  clear hx hown hownb ha Ob Oa hIa hfr
  by_cases hon : lensOn fs (q : Nat)
  · have KL := hidden (specLens_on af cf wb.heap.size q fs wb hIb (Nat.le_refl _) hon)
    have HRG := hidden (fun s hs => lensF_range hon s hs)
    have HLL := hidden (lensF_len fs q)
    obtain ⟨zs, hzs⟩ : ∃ zs, lensF fs q = zs := ⟨_, rfl⟩
    rw [hzs] at KL HRG HLL
    rw [hmE] at KL HRG HLL hl1 hl2 ⊢
    have HZR : Hid (∀ y ∈ zs, 1 ≤ y ∧ y ≤ 20) := hidden (fun y hy => by
      obtain ⟨k, hk, e⟩ := mem_getD hy
      have := HRG.out k (by rw [HLL.out] at hk; exact hk)
      omega)
    clear hzs hon hIb hmE HRG
    go_wp2_with fail
    refine KL.out.mono ?_
    rintro e wc ⟨v, rfl, hownc, bc⟩
    obtain ⟨g3, c3, hv3⟩ := Joins.ownsRow_form hownc (by omega)
    subst hv3
    have hcc := hb.below bc hbl
    have OC := OB.trans_ (only_below (g := g) bc)
    have hg3 := hownc.lt g3 rfl
    have hm0 : ((m : Int) == 0) = false := by rw [beq_eq_false_iff_ne]; omega
    have hsc := OC.size
    clear OB bc KL
    go_wp2_with fail
    refine (l1Once_any g B _ _ hcc (by omega)).mono ?_
    rintro e wd ⟨b1, rfl, hcd, Od⟩
    have hownd := own_only hownc Od (by omega)
    have OD := OC.trans_ Od
    have hsd := OD.size
    clear hownc OC hcc
    cases b1
    · clear Od
      go_wp2
      go_ret
      exact ⟨_, zs, rfl, by rw [HLL.out]; exact Joins.ownsRow_le hownd (by omega), by rw [HLL.out]; exact hl1, by rw [HLL.out]; exact hl2, HZR.out, hcd, OD⟩
    · have hsd2 := Od.size
      clear Od
      go_wp2_with fail
      refine (l1Below_any g B m _ hcd (by omega)).mono ?_
      rintro e we ⟨r, rfl, r0, r1, _, hce, Oe⟩
      have r2 := r1 (by omega)
      obtain ⟨p, rfl⟩ : ∃ p : Nat, r = p := ⟨r.toNat, by omega⟩
      have howne := own_only hownd Oe (by omega)
      have OE := OD.trans_ Oe
      have d0 := howne.cellAt p (by omega)
      rw [intsV_get zs p (by rw [HLL.out]; omega)] at d0
      have f0 := howne.frozenAt p
      have hp2 : (p : Int) < (m : Int) := by omega
      obtain ⟨y, hy⟩ : ∃ y, zs.getD p 0 = y := ⟨_, rfl⟩
      have hyr := HZR.out y (by rw [← hy]; exact getD_mem (by rw [HLL.out]; omega))
      rw [hy] at d0
      have hse := OE.size
      clear r1 hownd OD hcd hy Oe
      by_cases hy20 : y < 20
      · go_wp2
        go_ret
        refine ⟨_, zs.set p (y + 1), rfl, by rw [List.length_set, HLL.out, ← intsV_set]; exact Joins.ownsRow_le (howne.stored p _).1 (by omega), by rw [List.length_set, HLL.out]; exact hl1, by rw [List.length_set, HLL.out]; exact hl2, ?_, hce.store (by show g < g3; omega) _, OE.store (.inr (by show w.heap.size ≤ g3; omega)) _⟩
        intro z hz
        rcases List.mem_or_eq_of_mem_set hz with h | h
        · exact HZR.out z h
        · subst h; omega
      · go_wp2
        go_ret
        exact ⟨_, zs, rfl, by rw [HLL.out]; exact Joins.ownsRow_le howne (by omega), by rw [HLL.out]; exact hl1, by rw [HLL.out]; exact hl2, HZR.out, hce, OE⟩
  · have KL := hidden (specLens_no af cf wb.heap.size (q : Nat) fs wb hIb (by omega) (by omega) hon)
    rw [hmE] at KL ⊢
    clear hon hIb hmE
    go_wp2_with fail
    refine KL.out.mono ?_
    rintro e wc ⟨rfl, rfl⟩
    go_wp2
    go_ret
    refine ⟨_, [1, 2, 3, 3], rfl, World.ownsRow_lit _ _ _ hsb (by decide) rfl, by decide, by simpa using hm, ?_, hb.alloc _, OB.alloc _⟩
    intro x hx
    simp only [List.mem_cons, List.not_mem_nil, or_false] at hx
    omega
set_option maxHeartbeats 2000000 in
set_option maxRecDepth 100000 in
theorem l3lensBent_any (g B : Nat) (w : World) (hc : Cur w g B) :
    Calls Try.prog 121 #[.pointer (some ⟨g, 0, none⟩)] w fun e w' => ∃ v zs, e = .returned v ∧ w'.ownsRow w.heap.size 3 1 v zs.length (intsV zs) ∧ 1 ≤ zs.length ∧ zs.length ≤ 14 ∧ (∀ x ∈ zs, -1 ≤ x ∧ x ≤ 21) ∧ Cur w' g B ∧ Only g w w' := by
  have hgl := hc.lt
  go_enter Try.func121, Try.ntmps121
  go_wp2_with fail
  refine (l3lens_any g B 14 _ hc (by omega) (by omega)).mono ?_
  rintro e wa ⟨v, zs, rfl, hown, hl1, hl2, hzr, ha, Oa⟩
  obtain ⟨m, hmE⟩ : ∃ m, zs.length = m := ⟨_, rfl⟩
  rw [hmE] at hown hl1 hl2
  have HM := hidden hmE
  have HZR := hidden hzr
  obtain ⟨g3, c3, hv3⟩ := Joins.ownsRow_form hown (by omega)
  subst hv3
  have hg3 := hown.lt g3 rfl
  have hsa := Oa.size
  clear hmE hzr
  go_wp2_with fail
  refine (l1Once_any g B _ _ ha (by omega)).mono ?_
  rintro e wd ⟨b1, rfl, hcd, Od⟩
  have hownd := own_only hown Od (by omega)
  have OD := Oa.trans_ Od
  have hsd := OD.size
  clear hown Oa ha
  cases b1
  · clear Od
    go_wp2
    go_ret
    exact ⟨_, zs, rfl, by rw [HM.out]; exact hownd, by rw [HM.out]; exact hl1, by rw [HM.out]; exact hl2, fun x hx => by have := HZR.out x hx; omega, hcd, OD⟩
  · clear Od
    go_wp2_with fail
    refine (l1Below_any g B m _ hcd (by omega)).mono ?_
    rintro e we ⟨r, rfl, r0, r1, _, hce, Oe⟩
    have r2 := r1 (by omega)
    obtain ⟨p, rfl⟩ : ∃ p : Nat, r = p := ⟨r.toNat, by omega⟩
    have howne := own_only hownd Oe (by omega)
    have OE := OD.trans_ Oe
    have hcel := hce.lt
    have hse := OE.size
    clear r1 hownd OD hcd Oe
    go_wp2_with fail
    refine (l1PickInt_any g B we.heap.size 6 _ [0, 1, 2, 20, 21, -1] _ (hce.alloc _) (by omega) (by omega) (by omega) ?_).mono ?_
    · intro j hj
      rw [(Has.fresh we _ _).cell j]
      rcases j with _ | _ | _ | _ | _ | _ | j <;> first | rfl | omega
    rintro e wf ⟨j, hj, rfl, hcf, Of⟩
    have hpk := pick6b j hj
    obtain ⟨x, hx⟩ : ∃ x, ([0, 1, 2, 20, 21, -1] : List Int).getD j 0 = x := ⟨_, rfl⟩
    rw [hx] at hpk ⊢
    have hownf := own_only (howne.alloc (.cells #[.int .i64 0, .int .i64 1, .int .i64 2, .int .i64 20, .int .i64 21, .int .i64 (-1)] 3)) Of (by omega)
    have OF := (OE.alloc (.cells #[.int .i64 0, .int .i64 1, .int .i64 2, .int .i64 20, .int .i64 21, .int .i64 (-1)] 3)).trans_ Of
    have d0 := hownf.cellAt p (by omega)
    rw [intsV_get zs p (by rw [HM.out]; omega)] at d0
    have f0 := hownf.frozenAt p
    have hp2 : (p : Int) < (m : Int) := by omega
    clear hx howne OE
    go_wp2
    go_ret
    refine ⟨_, zs.set p x, rfl, by rw [List.length_set, HM.out, ← intsV_set]; exact (hownf.stored p _).1, by rw [List.length_set, HM.out]; exact hl1, by rw [List.length_set, HM.out]; exact hl2, ?_, hcf.store (by show g < g3; omega) _, OF.store (.inr (by show w.heap.size ≤ g3; omega)) _⟩
    intro y hy
    rcases List.mem_or_eq_of_mem_set hy with h | h
    · have := HZR.out y h; omega
    · subst h; exact hpk
end Go.Proofs.Ytaaahmfkdiogkaa
namespace Go.Proofs.Ytaaahmfkdiogkaa
set_option linter.unusedVariables false
set_option linter.unusedSimpArgs false
open Go.RowKit

theorem own_intsOf {w : World} {base n c : Nat} {a : Option Addr} {zs : List Int} (h : w.ownsRow base 3 1 (.slice a n c) n (intsV zs)) (hn : n ≤ 1048576) (hr : ∀ x ∈ zs, -9223372036854775808 ≤ x ∧ x ≤ 9223372036854775807) : Ints w w.heap.size a zs := (Ints.ofOwn h (by omega) hr).2
set_option maxHeartbeats 2000000 in
set_option maxRecDepth 100000 in
theorem l4syms_any (g B n most : Nat) (w : World) (hc : Cur w g B) (hn : n ≤ 1000) (hm : most ≤ 1000) :
    Calls Try.prog 94 #[.pointer (some ⟨g, 0, none⟩), .int .i64 n, .int .i64 most] w fun e w' => ∃ v zs, e = .returned v ∧ w'.ownsRow w.heap.size 3 1 v zs.length (intsV zs) ∧ zs.length ≤ most ∧ (∀ x ∈ zs, 0 ≤ x ∧ x ≤ 1000) ∧ Cur w' g B ∧ Only g w w' := by
  obtain ⟨i0, hi, hz0, hz1, hz2⟩ := info_parts Try.infoI
  have hgl := hc.lt
  go_enter Try.func94, Try.ntmps94
  go_wp2_with fail
  refine (l1Below_any g B ((most : Int) + 1) _ hc (by omega)).mono ?_
  rintro e wa ⟨r, rfl, r0, r1, _, ha, Oa⟩
  have r2 := r1 (by omega)
  obtain ⟨k0, rfl⟩ : ∃ p : Nat, r = p := ⟨r.toNat, by omega⟩
  clear r1
  go_wp2
  go_loopw [7, 8] (fun vo sk wr => ∃ (k p : Nat) (D : List Int), p + k ≤ most ∧ sk = .int .i64 k ∧ Hid (D.length = p) ∧ Hid (∀ x ∈ D, 0 ≤ x ∧ x ≤ 1000) ∧ wr.ownsRow w.heap.size 3 1 vo p (intsV D) ∧ Cur wr g B ∧ Only g w wr) (fun _ sk _ => (intOf sk).toNat)
  case atStart => exact ⟨k0, 0, [], by omega, rfl, hidden rfl, hidden (by simp), World.ownsRow_nil _ _ _ _, ha, Oa⟩
  case round =>
    obtain ⟨k, p, D, hk, rfl, HD, HR, hown, hcr, hO⟩ := hrel
    have hs := hO.size
    by_cases hlt : 0 < k
    · go_wp2_with fail
      refine (l1Below_any g B n _ hcr (by omega)).mono ?_
      rintro e wb ⟨x, rfl, x0, x1, x2, hcb, Ob⟩
      have hx1000 : x ≤ 1000 := by
        rcases Nat.eq_zero_or_pos n with h | h
        · have := x2 (by omega); omega
        · have := x1 (by omega); omega
      have hownb := own_only hown Ob hgl
      have OB := hO.trans_ Ob
      have hsb := OB.size
      clear x1 x2 hown hO hcr Ob
      go_wp2_with (at_builtin; refine wpList_append_own _ rfl _ _ 24 rfl w.heap.size 3 i0 (.int .i64 0) 1 8 Try.underlying24 hi hz0 hz1 hz2 rfl (by decide) _ _ _ rfl (hownb.alloc _) ⟨wb.heap.size, 0, none⟩ 1 1 [.int .i64 x] rfl rfl ?cb2 ?cb3 ?cb4 ?cb5 ?cb6 ?_)
      case cb2 => exact cell_one' _ _ _
      case cb3 => exact fun u hu => by simp at hu; subst hu; rfl
      case cb4 => unfold maxLen; omega
      case cb5 => omega
      case cb6 => simp; omega
      intro v3 w3 hown3 hgrow _
      have hO3 : Only g w w3 := (OB.alloc _).grownNew hgrow (fun q hq => (hownb.lt q hq).1)
      have hc3 : Cur w3 g B := (hcb.alloc _).grown hgrow (fun q hq => by have := (hownb.lt q hq).1; omega)
      have hown4 : w3.ownsRow w.heap.size 3 1 v3 (p + 1) (intsV (D ++ [x])) := by rw [intsV_snoc]; exact hown3
      have HD2 : Hid ((D ++ [x]).length = p + 1) := hidden (by simp [HD.out])
      have HR2 : Hid (∀ y ∈ D ++ [x], 0 ≤ y ∧ y ≤ 1000) := hidden (by
        intro y hy
        rcases List.mem_append.1 hy with h | h
        · exact HR.out y h
        · simp at h; subst h; exact ⟨x0, hx1000⟩)
      clear hgrow hown3 hownb OB hcb
      go_wp2
      go_roundw
      case rel => exact ⟨k - 1, p + 1, D ++ [x], by omega, by rw [show ((k - 1 : Nat) : Int) = (k : Int) - 1 by omega], HD2, HR2, hown4, hc3, hO3⟩
      case measure => simp [intOf]; omega
    · go_wp2
      go_ret
      exact ⟨_, D, rfl, by rw [HD.out]; exact hown, by rw [HD.out]; omega, HR.out, hcr, hO⟩
end Go.Proofs.Ytaaahmfkdiogkaa
namespace Go.Proofs.Ytaaahmfkdiogkaa
set_option linter.unusedVariables false
set_option linter.unusedSimpArgs false
open Go.RowKit

theorem step_append_at {P : Program} (w : World) {ops : Array Oper} {o : Oper} {a : Act} {K : Act → World → Prop} {Q : Exit → Act → World → Prop} {E : Prop} (hgd : o.guard = none) (s x : Operand) (t : TypeId)
    (ho : o.op = .call { callee := .builtin .append, args := #[s, x], argTypes := #[t, t] })
    (base : Nat) (e : TypeId) (i : TypeInfo) (z : Value) (size bytes : Nat) (ht : P.underlying t = some (.slice e)) (hi : P.info? e = some i) (hz : i.zero = some z)
    (hsize : i.size = size) (hby : i.bytes = bytes) (hzs : z.cells.size = size) (hsz : 0 < size)
    (v : Value) (n : Nat) (xs : List Value) (hs : a.eval s = v) (hown : w.ownsRow base e size v n xs)
    (ad : Addr) (m c : Nat) (news : List Value) (hx : a.eval x = .slice (some ad) m c) (hl : news.length = m * size) (hnews : ∀ j u, news[j]? = some u → w.cell? (ad.add j) = some u) (h1 : ∀ u ∈ news, u.oneCell' = true)
    (h63 : n + m ≤ maxLen) (hbytes : (n + m) * bytes ≤ 140737488355328) (hbase : base ≤ w.heap.size)
    (h : ∀ v' w', w'.ownsRow base e size v' (n + m) (xs ++ news) → w.grownBy w' v.ownBlock → K (a.put o.dst v') w') :
    if Region.wanted o (yielded ops a.tmps) = true then Oper.wp P o a w K Q else E := by
  have hw : Region.wanted o (yielded ops a.tmps) = true := by simp [Region.wanted, hgd]
  rw [if_pos hw]
  exact wp_append_own w s x t ho base e i z size bytes ht hi hz hsize hby hzs hsz v n xs hs hown ad m c news hx hl hnews h1 h63 hbytes hbase fun v' w' h2 h3 _ => h v' w' h2 h3
attribute [local go_sem ↓] Go.wp_at_zero Go.wp_at_succ
end Go.Proofs.Ytaaahmfkdiogkaa
namespace Go.Proofs.Ytaaahmfkdiogkaa
set_option linter.unusedVariables false
set_option linter.unusedSimpArgs false
open Go.RowKit

end Go.Proofs.Ytaaahmfkdiogkaa
namespace Go.Proofs.Ytaaahmfkdiogkaa
set_option linter.unusedVariables false
set_option linter.unusedSimpArgs false
open Go.RowKit

/-! ### what is asked of the program -/
def AskLens : Prop := ∀ (a : Option Addr) (cap B lim : Nat) (zs : List Int) (w : World), Ints w B a zs → B ≤ w.heap.size → lensOn zs lim →
  Calls Try.prog 101 #[.slice a zs.length cap, .int .i64 lim] w fun e w' => ∃ v, e = .returned (.tuple #[v, .bool true]) ∧ w'.ownsRow w.heap.size 3 1 v zs.length (intsV (lensF zs lim)) ∧ Below w.heap.size w w'
def AskLensNo : Prop := ∀ (a : Option Addr) (cap B : Nat) (lim : Int) (zs : List Int) (w : World), Ints w B a zs → -9223372036854775808 ≤ lim → lim ≤ 9223372036854775807 → ¬ lensOn zs lim →
  Calls Try.prog 101 #[.slice a zs.length cap, .int .i64 lim] w fun e w' => e = .returned (.tuple #[.slice none 0 0, .bool false]) ∧ Below w.heap.size w w'
def AskKraft : Prop := ∀ (a : Option Addr) (cap B : Nat) (zs : List Int) (w : World), Ints w B a zs → B ≤ w.heap.size →
  Calls Try.prog 105 #[.slice a zs.length cap] w fun e w' => e = .returned (.int .i64 (kraftI zs)) ∧ Below w.heap.size w w'
def AskLensOk : Prop := ∀ (a : Option Addr) (cap B : Nat) (zs : List Int) (w : World), Ints w B a zs → B ≤ w.heap.size →
  Calls Try.prog 64 #[.slice a zs.length cap] w fun e w' => e = .returned (.bool (lOk zs)) ∧ Below w.heap.size w w'
theorem lens112 : lensF [1, 1, 2] 20 = [2, 2, 1] := by
  have hp : List.Perm [((1 : Nat), (0 : Int)), (1, 1), (2, 2)] (items [1, 1, 2] ([1, 1, 2] : List Int).length) := List.Perm.of_eq (by decide)
  have hs : LexS [((1 : Nat), (0 : Int)), (1, 1), (2, 2)] := by unfold LexS lex; decide
  have e := leafL_eq hp hs
  unfold lensF
  rw [← e]
  decide +kernel
theorem huff112 {c : Nat} (h : HuffIs [1, 1, 2] c) : c = 6 := by
  have h1 : Huff [1, 1, 2] (1 + 1 + (2 + 2 + 0)) := Huff.two _ 1 1 [2] [2, 2] _ (List.Perm.refl _) (by decide) (by decide) (List.Perm.refl _)
    (Huff.two _ 2 2 [] [4] _ (List.Perm.refl _) (by decide) (by decide) (List.Perm.refl _) (Huff.one 4))
  exact huff_same (h.2.1 (by decide)) h1 (List.Perm.refl _)
theorem on112 : lensOn [1, 1, 2] (20 : Nat) := by decide +kernel
theorem kraft112 : kraftI [2, 2, 1] = 1048576 := by decide +kernel

theorem lit112 (w : World) : Ints (w.alloc (.cells #[.int .i64 1, .int .i64 1, .int .i64 2] 3)) (w.heap.size + 1) (some ⟨w.heap.size, 0, none⟩) [1, 1, 2] := Ints.lit w [1, 1, 2] (by decide) (by decide)
theorem lit221 (w : World) : Ints (w.alloc (.cells #[.int .i64 2, .int .i64 2, .int .i64 1] 3)) (w.heap.size + 1) (some ⟨w.heap.size, 0, none⟩) [2, 2, 1] := Ints.lit w [2, 2, 1] (by decide) (by decide)
theorem size_alloc (w : World) (o : Obj) : (w.alloc o).heap.size = w.heap.size + 1 := by simp
theorem same221 (a a2 : Addr) (c c2 B : Nat) (w : World) (h : Ints w B (some a) [2, 2, 1]) (h2 : Ints w B (some a2) [2, 2, 1]) :
    Calls Try.prog 47 #[.slice (some a) 3 c, .slice (some a2) 3 c2] w fun e w' => e = .returned (.bool true) ∧ Below w.heap.size w w' :=
  sameInts_any (some a) (some a2) c c2 B [2, 2, 1] [2, 2, 1] w h h2
theorem kraft221 (hK : AskKraft) (a : Addr) (c B : Nat) (w : World) (h : Ints w B (some a) [2, 2, 1]) (hB : B ≤ w.heap.size) :
    Calls Try.prog 105 #[.slice (some a) 3 c] w fun e w' => e = .returned (.int .i64 1048576) ∧ Below w.heap.size w w' := by
  have := hK (some a) c B [2, 2, 1] w h hB
  rw [kraft112] at this
  exact this
end Go.Proofs.Ytaaahmfkdiogkaa
namespace Go.Proofs.Ytaaahmfkdiogkaa
set_option linter.unusedVariables false
set_option linter.unusedSimpArgs false
open Go.RowKit Go.ChangeShapes Go.WideShapes Go.ChangeAt

theorem Ints.ofRow {w : World} {a : Option Addr} {len cap : Nat} {zs : List Int} (h : IsRow .i64 w a len cap zs) (hle : len ≤ 1048576) : ∃ ys : List Int, ys.length = len ∧ Ints w w.heap.size a ys := by
  rcases h with ⟨rfl, rfl, rfl, rfl⟩ | ⟨x, rfl, hl, hm, hz, hc, hwz⟩
  · exact ⟨[], rfl, by simp, by simp, fun h => by simp at h⟩
  · have hlen : (zs.take len).length = len := by rw [List.length_take]; omega
    refine ⟨zs.take len, hlen, by rw [hlen]; omega, fun n hn => ?_, fun h0 => ?_⟩
    · exact bounds_i64 (hwz n (List.mem_of_mem_take hn))
    · have h1 := hc 0 (by omega)
      obtain ⟨b, off, spot⟩ := x
      have hspot : spot = none := by simpa [Addr.add] using World.cell?_spot h1
      subst hspot
      refine ⟨b, off, rfl, ?_, fun i hi => ?_⟩
      · have := cell_lt h1
        simpa [Addr.add] using this
      · rw [hlen] at hi
        have := hc i (by omega)
        have e2 : (zs.take len).getD i 0 = zs.getD i 0 := by simp [List.getD_eq_getElem?_getD, List.getElem?_take, hi]
        rw [e2]
        by_cases e : i = 0
        · subst e; simpa [Addr.add] using this
        · simpa [Addr.add, e] using this
theorem isrow_len {w : World} {a : Option Addr} {len cap : Nat} {zs : List Int} (h : IsRow .i64 w a len cap zs) : len ≤ maxLen := by
  rcases h with ⟨rfl, rfl, rfl, rfl⟩ | ⟨x, rfl, hl, hm, hz, hc, hwz⟩ <;> omega
def AskFreqs : Prop := ∀ (a : Option Addr) (cap B : Nat) (zs : List Int) (w : World), Ints w B a zs → B ≤ w.heap.size →
  Calls Try.prog 127 #[.slice a zs.length cap] w fun e w' => e = .returned (.bool (fOk zs)) ∧ Below w.heap.size w w'
theorem toIntS_n {n : Nat} (a : Option Addr) (cap B : Nat) (zs : List Int) (w : World) (hn : zs.length = n) (hz : Ints w B a zs) (hB : B ≤ w.heap.size) (hlen : n ≤ 1048576) :
    Calls Try.prog 17 #[.slice a n cap] w fun e w' => ∃ g, e = .returned (.slice (some ⟨g, 0, none⟩) n n) ∧ Ints w' w'.heap.size (some ⟨g, 0, none⟩) zs ∧ w'.ownsRow w.heap.size 3 1 (.slice (some ⟨g, 0, none⟩) n n) n (intsV zs) ∧ Below w.heap.size w w' := by
  subst hn
  refine (toIntS_any a cap B zs w hz hB hlen).mono ?_
  rintro e w' ⟨g, rfl, hown, hb⟩
  exact ⟨g, rfl, (Ints.ofOwn hown (by omega) hz.2.1).2, hown, hb⟩
theorem eqSame_n {n : Nat} (p q : Option Addr) (c c2 B : Nat) (zs : List Int) (w : World) (hn : zs.length = n) (hz : Ints w B p zs) (hy : Ints w B q zs) :
    Calls Try.prog 20 #[.slice p n c, .slice q n c2] w fun e w' => e = .returned (.bool true) ∧ Below w.heap.size w w' := by
  subst hn
  have := eqIntS_any p q c c2 B zs zs w hz hy
  simpa using this

end Go.Proofs.Ytaaahmfkdiogkaa
namespace Go.Proofs.Ytaaahmfkdiogkaa
set_option linter.unusedVariables false
set_option linter.unusedSimpArgs false
open Go.RowKit

theorem implFreqsOk_any (a : Option Addr) (cap B : Nat) (zs : List Int) (w : World) (hz : Ints w B a zs) :
    Calls Try.prog 127 #[.slice a zs.length cap] w fun e w' => e = .returned (.bool (fOk zs)) ∧ w' = w := by
  have K := hidden (symsIn_any a cap B zs 0 1000000 w hz)
  rw [show symB zs 0 1000000 = fOk zs from rfl] at K
  go_enter Try.func127, Try.ntmps127
  go_wp2_with fail
  refine K.out.mono ?_
  rintro e w' ⟨rfl, rfl⟩
  go_wp2
  go_ret
  exact ⟨rfl, rfl⟩
theorem askFreqs : AskFreqs := fun a cap B zs w hz _ => (implFreqsOk_any a cap B zs w hz).mono (by rintro e w' ⟨rfl, rfl⟩; exact ⟨rfl, Below.refl _ _⟩)
theorem askKraft : AskKraft := fun a cap B zs w hz _ => (implKraft_any a cap B zs w hz).mono (by rintro e w' ⟨rfl, rfl⟩; exact ⟨rfl, Below.refl _ _⟩)
theorem askLensOk : AskLensOk := fun a cap B zs w hz _ => (implLensOk_any a cap B zs w hz).mono (by rintro e w' ⟨rfl, rfl⟩; exact ⟨rfl, Below.refl _ _⟩)
end Go.Proofs.Ytaaahmfkdiogkaa
