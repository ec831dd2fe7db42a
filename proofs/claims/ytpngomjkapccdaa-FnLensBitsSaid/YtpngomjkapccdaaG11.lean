/- Texts of one reach, one behind the other: DrFreqs, Dr4A, Dr5L. What each is about stands in its theorems. -/
import Derived.Test.YtpngomjkapccdaaG10
import Derived.Test.YtpngomjkapccdaaG3
import Derived.Deep.DrawnRows
import Derived.Deep.RegionHeld3
import Derived.Deep.RegionWith
import Derived.Maps.AppendAt
namespace Go.Proofs.Ytpngomjkapccdaa
set_option linter.unusedVariables false
set_option linter.unusedSimpArgs false
open Go.RowKit

theorem cell_one' (w : World) (u : Value) (T : TypeId) : ∀ (j : Nat) (v : Value), [u][j]? = some v → (w.alloc (.cells #[u] T)).cell? ((⟨w.heap.size, 0, none⟩ : Addr).add j) = some v := by
  intro j v hv
  have hj : j = 0 := by
    have := (List.getElem?_eq_some_iff.1 hv).1
    simpa using this
  subst hj
  have := (Has.fresh w T #[u]).cell 0
  have e : (⟨w.heap.size, 0, none⟩ : Addr).add 0 = ⟨w.heap.size, 0, none⟩ := by simp [Addr.add]
  rw [e, this]
  simpa using hv
theorem intsV_snoc (D : List Int) (x : Int) : intsV (D ++ [x]) = intsV D ++ [.int .i64 x] := by simp [intsV]

set_option maxHeartbeats 2000000 in
set_option maxRecDepth 100000 in
theorem l3freqs_any (g B most : Nat) (w : World) (hc : Cur w g B) (hm : 1 ≤ most) (hm2 : most ≤ 200) :
    Calls Try.prog 42 #[.pointer (some ⟨g, 0, none⟩), .int .i64 most] w fun e w' => ∃ v zs, e = .returned v ∧ w'.ownsRow w.heap.size 3 1 v zs.length (intsV zs) ∧ 1 ≤ zs.length ∧ zs.length ≤ most ∧ (∀ x ∈ zs, 0 ≤ x ∧ x ≤ 1000000) ∧ Cur w' g B ∧ Only g w w' := by
  have hgl := hc.lt
  obtain ⟨i0, hi, hz0, hz1, hz2⟩ := info_parts Try.infoI
  go_enter Try.func42, Try.ntmps42
  go_wp2_with fail
  refine (l1Below_any g B most _ hc (by omega)).mono ?_
  rintro e wa ⟨r, rfl, r0, r1, _, ha, Oa⟩
  have r2 := r1 (by omega)
  obtain ⟨n, hn⟩ : ∃ n : Nat, 1 + r = n := ⟨(1 + r).toNat, by omega⟩
  have hn1 : 1 ≤ n := by omega
  have hn2 : n ≤ most := by omega
  have hr' : r = (n : Int) - 1 := by omega
  subst hr'
  clear r0 r1 r2 hn
  have e1 : (1 : Int) + ((n : Int) - 1) = n := by omega
  go_wp2_with fail
  refine (l1Below_any g B 4 _ ha (by omega)).mono ?_
  rintro e wb ⟨kd, rfl, d0, d1, _, hb, Ob⟩
  have d2 := d1 (by omega)
  have OB := Oa.trans_ Ob
  clear d1 Oa Ob ha e1
  go_wp2
  go_loopw [5, 8, 9, 10] (fun v sa sb si wr => ∃ (k : Nat) (D : List Int) (a b : Int), k ≤ n ∧ sa = .int .i64 a ∧ sb = .int .i64 b ∧ si = .int .i64 k ∧ (0 ≤ a ∧ a ≤ 1000000) ∧ (0 ≤ b ∧ b ≤ 1000000) ∧ Hid (D.length = k) ∧ Hid (∀ x ∈ D, 0 ≤ x ∧ x ≤ 1000000) ∧ wr.ownsRow w.heap.size 3 1 v k (intsV D) ∧ Cur wr g B ∧ Only g w wr) (fun _ _ _ si _ => n - (intOf si).toNat)
  case atStart => exact ⟨0, [], 1, 1, Nat.zero_le _, rfl, rfl, rfl, by omega, by omega, hidden rfl, hidden (by simp), World.ownsRow_nil _ _ _ _, hb, OB⟩
  case round =>
    obtain ⟨k, D, a, b, hk, rfl, rfl, rfl, ha2, hb2, HD, HR, hown, hcr, hO⟩ := hrel
    have hsz := hO.size
    by_cases hlt : k < n
    · by_cases k0 : kd = 0
      · subst k0
        go_wp2_with fail
        refine (l1Below_any g B 4 _ hcr (by omega)).mono ?_
        rintro e w1 ⟨r, rfl, hr0, hr1, _, hc1, hO1⟩
        have hr2 := hr1 (by omega)
        have hown1 := own_only hown hO1 hgl
        have hOn := hO.trans_ hO1
        clear hr1 hO1
        go_wp2_with (at_builtin; refine wpList_append_own _ rfl _ _ 23 rfl w.heap.size 3 i0 (.int .i64 0) 1 8 Try.underlying23 hi hz0 hz1 hz2 rfl (by decide) _ _ _ rfl (hown1.alloc _) ⟨w1.heap.size, 0, none⟩ 1 1 [.int .i64 r] rfl rfl ?ca2 ?ca3 ?ca4 ?ca5 ?ca6 ?_)
        case ca2 => exact cell_one' _ _ _
        case ca3 => exact fun u hu => by simp at hu; subst hu; rfl
        case ca4 => unfold maxLen; omega
        case ca5 => omega
        case ca6 => have hs9 := hOn.size; simp; omega
        intro v3 w3 hown3 hgrow _
        have hown3 : w3.ownsRow w.heap.size 3 1 v3 (k + 1) (intsV (D ++ [r])) := by rw [intsV_snoc]; exact hown3
        have hO3 : Only g w w3 := (hOn.alloc _).grownNew hgrow (fun q hq => (hown1.lt q hq).1)
        have hc3 : Cur w3 g B := (hc1.alloc _).grown hgrow (fun q hq => by have := (hown1.lt q hq).1; omega)
        have HD2 : Hid ((D ++ [r]).length = k + 1) := hidden (by simp [HD.out])
        have HR2 : Hid (∀ x ∈ D ++ [r], 0 ≤ x ∧ x ≤ 1000000) := hidden (by
          intro x hx
          rcases List.mem_append.1 hx with h | h
          · exact HR.out x h
          · simp at h; subst h; omega)
        clear hgrow
        go_wp2
        exact ⟨⟨k + 1, D ++ [r], a, b, by omega, rfl, rfl, by go_num, by omega, by omega, HD2, HR2, hown3, hc3, hO3⟩, by simp [intOf]; omega⟩
      · by_cases k1 : kd = 1
        · subst k1
          go_wp2_with (at_builtin; refine wpList_append_own _ rfl _ _ 23 rfl w.heap.size 3 i0 (.int .i64 0) 1 8 Try.underlying23 hi hz0 hz1 hz2 rfl (by decide) _ _ _ rfl (hown.alloc _) ⟨wr.heap.size, 0, none⟩ 1 1 [.int .i64 a] rfl rfl ?cb2 ?cb3 ?cb4 ?cb5 ?cb6 ?_)
          case cb2 => exact cell_one' _ _ _
          case cb3 => exact fun u hu => by simp at hu; subst hu; rfl
          case cb4 => unfold maxLen; omega
          case cb5 => omega
          case cb6 => have hs9 := hO.size; simp; omega
          intro v3 w3 hown3 hgrow _
          have hown3 : w3.ownsRow w.heap.size 3 1 v3 (k + 1) (intsV (D ++ [a])) := by rw [intsV_snoc]; exact hown3
          have hO3 : Only g w w3 := (hO.alloc _).grownNew hgrow (fun q hq => (hown.lt q hq).1)
          have hc3 : Cur w3 g B := (hcr.alloc _).grown hgrow (fun q hq => by have := (hown.lt q hq).1; omega)
          by_cases hab : 1000000 < a + b
          · have HD2 : Hid ((D ++ [a]).length = k + 1) := hidden (by simp [HD.out])
            have HR2 : Hid (∀ x ∈ D ++ [a], 0 ≤ x ∧ x ≤ 1000000) := hidden (by
              intro x hx
              rcases List.mem_append.1 hx with h | h
              · exact HR.out x h
              · simp at h; subst h; omega)
            clear hgrow
            go_wp2
            exact ⟨⟨k + 1, D ++ [a], b, 1, by omega, rfl, rfl, by go_num, by omega, by omega, HD2, HR2, hown3, hc3, hO3⟩, by simp [intOf]; omega⟩
          · have HD2 : Hid ((D ++ [a]).length = k + 1) := hidden (by simp [HD.out])
            have HR2 : Hid (∀ x ∈ D ++ [a], 0 ≤ x ∧ x ≤ 1000000) := hidden (by
              intro x hx
              rcases List.mem_append.1 hx with h | h
              · exact HR.out x h
              · simp at h; subst h; omega)
            clear hgrow
            go_wp2
            exact ⟨⟨k + 1, D ++ [a], b, (a + b), by omega, rfl, rfl, by go_num, by omega, by omega, HD2, HR2, hown3, hc3, hO3⟩, by simp [intOf]; omega⟩
        · by_cases k2 : kd = 2
          · subst k2
            go_wp2_with fail
            refine (l1Below_any g B 1000001 _ hcr (by omega)).mono ?_
            rintro e w1 ⟨r, rfl, hr0, hr1, _, hc1, hO1⟩
            have hr2 := hr1 (by omega)
            have hown1 := own_only hown hO1 hgl
            have hOn := hO.trans_ hO1
            clear hr1 hO1
            go_wp2_with (at_builtin; refine wpList_append_own _ rfl _ _ 23 rfl w.heap.size 3 i0 (.int .i64 0) 1 8 Try.underlying23 hi hz0 hz1 hz2 rfl (by decide) _ _ _ rfl (hown1.alloc _) ⟨w1.heap.size, 0, none⟩ 1 1 [.int .i64 r] rfl rfl ?cc2 ?cc3 ?cc4 ?cc5 ?cc6 ?_)
            case cc2 => exact cell_one' _ _ _
            case cc3 => exact fun u hu => by simp at hu; subst hu; rfl
            case cc4 => unfold maxLen; omega
            case cc5 => omega
            case cc6 => have hs9 := hOn.size; simp; omega
            intro v3 w3 hown3 hgrow _
            have hown3 : w3.ownsRow w.heap.size 3 1 v3 (k + 1) (intsV (D ++ [r])) := by rw [intsV_snoc]; exact hown3
            have hO3 : Only g w w3 := (hOn.alloc _).grownNew hgrow (fun q hq => (hown1.lt q hq).1)
            have hc3 : Cur w3 g B := (hc1.alloc _).grown hgrow (fun q hq => by have := (hown1.lt q hq).1; omega)
            have HD2 : Hid ((D ++ [r]).length = k + 1) := hidden (by simp [HD.out])
            have HR2 : Hid (∀ x ∈ D ++ [r], 0 ≤ x ∧ x ≤ 1000000) := hidden (by
              intro x hx
              rcases List.mem_append.1 hx with h | h
              · exact HR.out x h
              · simp at h; subst h; omega)
            clear hgrow
            go_wp2
            exact ⟨⟨k + 1, D ++ [r], a, b, by omega, rfl, rfl, by go_num, by omega, by omega, HD2, HR2, hown3, hc3, hO3⟩, by simp [intOf]; omega⟩
          · have k3 : kd = 3 := by omega
            subst k3
            clear k0 k1 k2
            go_wp2_with fail
            refine (l1Below_any g B 12 _ hcr (by omega)).mono ?_
            rintro e w1 ⟨r, rfl, hr0, hr1, _, hc1, hO1⟩
            have hr2 := hr1 (by omega)
            have hown1 := own_only hown hO1 hgl
            have hOn := hO.trans_ hO1
            clear hr1 hO1
            obtain ⟨p, rfl⟩ : ∃ p : Nat, r = p := ⟨r.toNat, by omega⟩
            have h2p : 2 ^ p ≤ 2 ^ 11 := Nat.pow_le_pow_right (by omega) (by omega)
            obtain ⟨P, hP⟩ : ∃ P, 2 ^ p = P := ⟨_, rfl⟩
            have hwp : wrap64 (2 ^ p) = (P : Int) := by rw [show ((2 : Int) ^ p) = ((2 ^ p : Nat) : Int) by simp, hP]; exact wrap64_n _ (by omega)
            rw [hP] at h2p
            clear hP
            go_wp2_with (at_builtin; refine wpList_append_own _ rfl _ _ 23 rfl w.heap.size 3 i0 (.int .i64 0) 1 8 Try.underlying23 hi hz0 hz1 hz2 rfl (by decide) _ _ _ rfl (hown1.alloc _) ⟨w1.heap.size, 0, none⟩ 1 1 [.int .i64 (P : Int)] rfl rfl ?cd2 ?cd3 ?cd4 ?cd5 ?cd6 ?_)
            all_goals (try clear hwp)
            case cd2 => exact cell_one' _ _ _
            case cd3 => exact fun u hu => by simp at hu; subst hu; rfl
            case cd4 => unfold maxLen; omega
            case cd5 => omega
            case cd6 => have hs9 := hOn.size; simp; omega
            intro v3 w3 hown3 hgrow _
            have hown3 : w3.ownsRow w.heap.size 3 1 v3 (k + 1) (intsV (D ++ [(P : Int)])) := by rw [intsV_snoc]; exact hown3
            have hO3 : Only g w w3 := (hOn.alloc _).grownNew hgrow (fun q hq => (hown1.lt q hq).1)
            have hc3 : Cur w3 g B := (hc1.alloc _).grown hgrow (fun q hq => by have := (hown1.lt q hq).1; omega)
            have HD2 : Hid ((D ++ [(P : Int)]).length = k + 1) := hidden (by simp [HD.out])
            have HR2 : Hid (∀ x ∈ D ++ [(P : Int)], 0 ≤ x ∧ x ≤ 1000000) := hidden (by
              intro x hx
              rcases List.mem_append.1 hx with h | h
              · exact HR.out x h
              · simp at h; subst h; omega)
            clear hgrow
            go_wp2
            exact ⟨⟨k + 1, D ++ [(P : Int)], a, b, by omega, rfl, rfl, by go_num, by omega, by omega, HD2, HR2, hown3, hc3, hO3⟩, by simp [intOf]; omega⟩
    · have hkn : k = n := by omega
      subst hkn
      go_wp2
      go_ret
      exact ⟨_, D, rfl, by rw [HD.out]; exact hown, by rw [HD.out]; omega, by rw [HD.out]; omega, HR.out, hcr, hO⟩

end Go.Proofs.Ytpngomjkapccdaa
namespace Go.Proofs.Ytpngomjkapccdaa
set_option linter.unusedVariables false
set_option linter.unusedSimpArgs false
open Go.RowKit

theorem only_below {g : Nat} {W W' : World} (h : Below W.heap.size W W') : Only g W W' := ⟨h.os, h.tape, h.output, h.size, fun i hi _ => h.block i hi⟩
theorem pick4 (j : Nat) (h : j < 4) : 5 ≤ ([5, 6, 9, 20] : List Int).getD j 0 ∧ ([5, 6, 9, 20] : List Int).getD j 0 ≤ 20 := by
  rcases j with _ | _ | _ | _ | j <;> simp <;> omega
theorem pick6b (j : Nat) (h : j < 6) : -1 ≤ ([0, 1, 2, 20, 21, -1] : List Int).getD j 0 ∧ ([0, 1, 2, 20, 21, -1] : List Int).getD j 0 ≤ 21 := by
  rcases j with _ | _ | _ | _ | _ | _ | j <;> simp <;> omega
set_option maxHeartbeats 4000000 in
set_option maxRecDepth 100000 in
theorem l3lens_any (g B most : Nat) (w : World) (hc : Cur w g B) (hm : 4 ≤ most) (hm2 : most ≤ 200) :
    Calls Try.prog 31 #[.pointer (some ⟨g, 0, none⟩), .int .i64 most] w fun e w' => ∃ v zs, e = .returned v ∧ w'.ownsRow w.heap.size 3 1 v zs.length (intsV zs) ∧ 1 ≤ zs.length ∧ zs.length ≤ most ∧ (∀ x ∈ zs, 1 ≤ x ∧ x ≤ 20) ∧ Cur w' g B ∧ Only g w w' := by
  have hgl := hc.lt
  go_enter Try.func31, Try.ntmps31
  go_wp2_with fail
  refine (l3freqs_any g B most _ hc (by omega) (by omega)).mono ?_
  rintro e wa ⟨v, fs, rfl, hown, hl1, hl2, hfr, ha, Oa⟩
  obtain ⟨af, cf, hv⟩ := own_shape hown
  subst hv
  have hIa := (Ints.ofOwn hown (by omega) (fun x hx => by have := hfr x hx; omega)).2
  have hsa := Oa.size
  go_wp2_with fail
  refine (l1PickInt_any g B wa.heap.size 4 _ [5, 6, 9, 20] _ (ha.alloc _) (by omega) (by omega) (by have := ha.lt; omega) ?_).mono ?_
  · intro j hj
    rw [(Has.fresh wa _ _).cell j]
    rcases j with _ | _ | _ | _ | j <;> first | rfl | omega
  rintro e wb ⟨j, hj, rfl, hb, Ob⟩
  have hpk := pick4 j hj
  obtain ⟨x, hx⟩ : ∃ x, ([5, 6, 9, 20] : List Int).getD j 0 = x := ⟨_, rfl⟩
  rw [hx] at hpk ⊢
  obtain ⟨q, rfl⟩ : ∃ q : Nat, x = q := ⟨x.toNat, by omega⟩
  have hownb := own_only (hown.alloc (.cells #[.int .i64 5, .int .i64 6, .int .i64 9, .int .i64 20] 3)) Ob hgl
  have OB := (Oa.alloc (.cells #[.int .i64 5, .int .i64 6, .int .i64 9, .int .i64 20] 3)).trans_ Ob
  have hIb := (Ints.ofOwn hownb (by omega) (fun x hx => by have := hfr x hx; omega)).2
  have hbl := hb.lt
  have hsb := OB.size
  have HFR := hidden hfr
  obtain ⟨m, hmE⟩ : ∃ m, fs.length = m := ⟨_, rfl⟩
  clear hx hown hownb ha Ob Oa hIa hfr
  by_cases hon : lensOn fs (q : Nat)
  · have KL := hidden (specLens_on af cf wb.heap.size q fs wb hIb (Nat.le_refl _) hon)
    have HRG := hidden (fun s hs => lensF_range hon s hs)
    have HLL := hidden (lensF_len fs q)
    obtain ⟨zs, hzs⟩ : ∃ zs, lensF fs q = zs := ⟨_, rfl⟩
    rw [hzs] at KL HRG HLL
    rw [hmE] at KL HRG HLL hl1 hl2 ⊢
    have HZR : Hid (∀ y ∈ zs, 1 ≤ y ∧ y ≤ 20) := hidden (fun y hy => by
      obtain ⟨k, hk, e⟩ := mem_getD hy
      have := HRG.out k (by rw [HLL.out] at hk; exact hk)
      omega)
    clear hzs hon hIb hmE HRG
    go_wp2_with fail
    refine KL.out.mono ?_
    rintro e wc ⟨v, rfl, hownc, bc⟩
    obtain ⟨g3, c3, hv3⟩ := Joins.ownsRow_form hownc (by omega)
    subst hv3
    have hcc := hb.below bc hbl
    have OC := OB.trans_ (only_below (g := g) bc)
    have hg3 := hownc.lt g3 rfl
    have hm0 : ((m : Int) == 0) = false := by rw [beq_eq_false_iff_ne]; omega
    have hsc := OC.size
    clear OB bc KL
    go_wp2_with fail
    refine (l1Once_any g B _ _ hcc (by omega)).mono ?_
    rintro e wd ⟨b1, rfl, hcd, Od⟩
    have hownd := own_only hownc Od (by omega)
    have OD := OC.trans_ Od
    have hsd := OD.size
    clear hownc OC hcc
    cases b1
    · clear Od
      go_wp2
      go_ret
      exact ⟨_, zs, rfl, by rw [HLL.out]; exact Joins.ownsRow_le hownd (by omega), by rw [HLL.out]; exact hl1, by rw [HLL.out]; exact hl2, HZR.out, hcd, OD⟩
    · have hsd2 := Od.size
      clear Od
      go_wp2_with fail
      refine (l1Below_any g B m _ hcd (by omega)).mono ?_
      rintro e we ⟨r, rfl, r0, r1, _, hce, Oe⟩
      have r2 := r1 (by omega)
      obtain ⟨p, rfl⟩ : ∃ p : Nat, r = p := ⟨r.toNat, by omega⟩
      have howne := own_only hownd Oe (by omega)
      have OE := OD.trans_ Oe
      have d0 := howne.cellAt p (by omega)
      rw [intsV_get zs p (by rw [HLL.out]; omega)] at d0
      have f0 := howne.frozenAt p
      have hp2 : (p : Int) < (m : Int) := by omega
      obtain ⟨y, hy⟩ : ∃ y, zs.getD p 0 = y := ⟨_, rfl⟩
      have hyr := HZR.out y (by rw [← hy]; exact getD_mem (by rw [HLL.out]; omega))
      rw [hy] at d0
      have hse := OE.size
      clear r1 hownd OD hcd hy Oe
      by_cases hy20 : y < 20
      · go_wp2
        go_ret
        refine ⟨_, zs.set p (y + 1), rfl, by rw [List.length_set, HLL.out, ← intsV_set]; exact Joins.ownsRow_le (howne.stored p _).1 (by omega), by rw [List.length_set, HLL.out]; exact hl1, by rw [List.length_set, HLL.out]; exact hl2, ?_, hce.store (by show g < g3; omega) _, OE.store (.inr (by show w.heap.size ≤ g3; omega)) _⟩
        intro z hz
        rcases List.mem_or_eq_of_mem_set hz with h | h
        · exact HZR.out z h
        · subst h; omega
      · go_wp2
        go_ret
        exact ⟨_, zs, rfl, by rw [HLL.out]; exact Joins.ownsRow_le howne (by omega), by rw [HLL.out]; exact hl1, by rw [HLL.out]; exact hl2, HZR.out, hce, OE⟩
  · have KL := hidden (specLens_no af cf wb.heap.size (q : Nat) fs wb hIb (by omega) (by omega) hon)
    rw [hmE] at KL ⊢
    clear hon hIb hmE
    go_wp2_with fail
    refine KL.out.mono ?_
    rintro e wc ⟨rfl, rfl⟩
    go_wp2
    go_ret
    refine ⟨_, [1, 2, 3, 3], rfl, World.ownsRow_lit _ _ _ hsb (by decide) rfl, by decide, by simpa using hm, ?_, hb.alloc _, OB.alloc _⟩
    intro x hx
    simp only [List.mem_cons, List.not_mem_nil, or_false] at hx
    omega
set_option maxHeartbeats 2000000 in
set_option maxRecDepth 100000 in
theorem l3lensBent_any (g B : Nat) (w : World) (hc : Cur w g B) :
    Calls Try.prog 18 #[.pointer (some ⟨g, 0, none⟩)] w fun e w' => ∃ v zs, e = .returned v ∧ w'.ownsRow w.heap.size 3 1 v zs.length (intsV zs) ∧ 1 ≤ zs.length ∧ zs.length ≤ 14 ∧ (∀ x ∈ zs, -1 ≤ x ∧ x ≤ 21) ∧ Cur w' g B ∧ Only g w w' := by
  have hgl := hc.lt
  go_enter Try.func18, Try.ntmps18
  go_wp2_with fail
  refine (l3lens_any g B 14 _ hc (by omega) (by omega)).mono ?_
  rintro e wa ⟨v, zs, rfl, hown, hl1, hl2, hzr, ha, Oa⟩
  obtain ⟨m, hmE⟩ : ∃ m, zs.length = m := ⟨_, rfl⟩
  rw [hmE] at hown hl1 hl2
  have HM := hidden hmE
  have HZR := hidden hzr
  obtain ⟨g3, c3, hv3⟩ := Joins.ownsRow_form hown (by omega)
  subst hv3
  have hg3 := hown.lt g3 rfl
  have hsa := Oa.size
  clear hmE hzr
  go_wp2_with fail
  refine (l1Once_any g B _ _ ha (by omega)).mono ?_
  rintro e wd ⟨b1, rfl, hcd, Od⟩
  have hownd := own_only hown Od (by omega)
  have OD := Oa.trans_ Od
  have hsd := OD.size
  clear hown Oa ha
  cases b1
  · clear Od
    go_wp2
    go_ret
    exact ⟨_, zs, rfl, by rw [HM.out]; exact hownd, by rw [HM.out]; exact hl1, by rw [HM.out]; exact hl2, fun x hx => by have := HZR.out x hx; omega, hcd, OD⟩
  · clear Od
    go_wp2_with fail
    refine (l1Below_any g B m _ hcd (by omega)).mono ?_
    rintro e we ⟨r, rfl, r0, r1, _, hce, Oe⟩
    have r2 := r1 (by omega)
    obtain ⟨p, rfl⟩ : ∃ p : Nat, r = p := ⟨r.toNat, by omega⟩
    have howne := own_only hownd Oe (by omega)
    have OE := OD.trans_ Oe
    have hcel := hce.lt
    have hse := OE.size
    clear r1 hownd OD hcd Oe
    go_wp2_with fail
    refine (l1PickInt_any g B we.heap.size 6 _ [0, 1, 2, 20, 21, -1] _ (hce.alloc _) (by omega) (by omega) (by omega) ?_).mono ?_
    · intro j hj
      rw [(Has.fresh we _ _).cell j]
      rcases j with _ | _ | _ | _ | _ | _ | j <;> first | rfl | omega
    rintro e wf ⟨j, hj, rfl, hcf, Of⟩
    have hpk := pick6b j hj
    obtain ⟨x, hx⟩ : ∃ x, ([0, 1, 2, 20, 21, -1] : List Int).getD j 0 = x := ⟨_, rfl⟩
    rw [hx] at hpk ⊢
    have hownf := own_only (howne.alloc (.cells #[.int .i64 0, .int .i64 1, .int .i64 2, .int .i64 20, .int .i64 21, .int .i64 (-1)] 3)) Of (by omega)
    have OF := (OE.alloc (.cells #[.int .i64 0, .int .i64 1, .int .i64 2, .int .i64 20, .int .i64 21, .int .i64 (-1)] 3)).trans_ Of
    have d0 := hownf.cellAt p (by omega)
    rw [intsV_get zs p (by rw [HM.out]; omega)] at d0
    have f0 := hownf.frozenAt p
    have hp2 : (p : Int) < (m : Int) := by omega
    clear hx howne OE
    go_wp2
    go_ret
    refine ⟨_, zs.set p x, rfl, by rw [List.length_set, HM.out, ← intsV_set]; exact (hownf.stored p _).1, by rw [List.length_set, HM.out]; exact hl1, by rw [List.length_set, HM.out]; exact hl2, ?_, hcf.store (by show g < g3; omega) _, OF.store (.inr (by show w.heap.size ≤ g3; omega)) _⟩
    intro y hy
    rcases List.mem_or_eq_of_mem_set hy with h | h
    · have := HZR.out y h; omega
    · subst h; exact hpk
end Go.Proofs.Ytpngomjkapccdaa
namespace Go.Proofs.Ytpngomjkapccdaa
set_option linter.unusedVariables false
set_option linter.unusedSimpArgs false
open Go.RowKit

theorem own_intsOf5 {w : World} {base n c : Nat} {a : Option Addr} {zs : List Int} (h : w.ownsRow base 3 1 (.slice a n c) n (intsV zs)) (hn : n ≤ 1048576) (hr : ∀ x ∈ zs, -9223372036854775808 ≤ x ∧ x ≤ 9223372036854775807) : Ints w w.heap.size a zs := (Ints.ofOwn h (by omega) hr).2
set_option maxHeartbeats 1000000 in
theorem drawPutLens_any (a : Option Addr) (len cap : Nat) (zs : List Int) (w : World) (hcode : Code w w.heap.size a len cap zs) :
    Calls Try.prog 6 #[.slice a len cap] w fun e w' => ∃ a1 c1 ls, e = .returned (.slice a1 ls.length c1) ∧ Ints w' w'.heap.size a1 ls ∧ 1 ≤ ls.length ∧ ls.length ≤ 14 ∧ (∀ x ∈ ls, -1 ≤ x ∧ x ≤ 21) ∧ Below w.heap.size w w' := by
  go_enter Try.func6, Try.ntmps6
  go_wp2_with fail
  refine (l1New_any a len cap zs _ hcode).mono ?_
  rintro e wa ⟨g, rfl, hcu, Ba⟩
  have hg := hcu.1
  go_wp2_with fail
  refine (l3lensBent_any g _ _ hcu).mono ?_
  rintro e wb ⟨v, ls, rfl, hown, hl1, hl2, hr, hb, Ob⟩
  obtain ⟨a1, c1, rfl⟩ := own_shape hown
  have hI := own_intsOf5 hown (by omega) (fun x hx => by have := hr x hx; omega)
  have HR := hidden hr
  have HI := hidden hI
  clear hr hI hown
  go_wp2
  go_ret
  exact ⟨a1, c1, ls, rfl, HI.out, hl1, hl2, HR.out, only_then Ob hg Ba.size Ba⟩
end Go.Proofs.Ytpngomjkapccdaa
