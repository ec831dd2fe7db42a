/- Draws: frequencies, a limit. -/
import Derived.Test.YtpmiphnjnbkjlaaDrPick
import Derived.Test.YtpmiphnjnbkjlaaC3Arr
import Derived.Maps.AppendAt
import Derived.Deep.RegionWith
import Derived.Deep.RegionHeld3
import Derived.Deep.DrawnRows
namespace Go.Proofs.Ytpmiphnjnbkjlaa
set_option linter.unusedVariables false
set_option linter.unusedSimpArgs false
open Go.RowKit

theorem cell_one' (w : World) (u : Value) (T : TypeId) : ∀ (j : Nat) (v : Value), [u][j]? = some v → (w.alloc (.cells #[u] T)).cell? ((⟨w.heap.size, 0, none⟩ : Addr).add j) = some v := by
  intro j v hv
  have hj : j = 0 := by
    have := (List.getElem?_eq_some_iff.1 hv).1
    simpa using this
  subst hj
  have := (Has.fresh w T #[u]).cell 0
  have e : (⟨w.heap.size, 0, none⟩ : Addr).add 0 = ⟨w.heap.size, 0, none⟩ := by simp [Addr.add]
  rw [e, this]
  simpa using hv
theorem intsV_snoc (D : List Int) (x : Int) : intsV (D ++ [x]) = intsV D ++ [.int .i64 x] := by simp [intsV]

set_option maxHeartbeats 2000000 in
set_option maxRecDepth 100000 in
theorem l3freqs_any (g B most : Nat) (w : World) (hc : Cur w g B) (hm : 1 ≤ most) (hm2 : most ≤ 200) :
    Calls Try.prog 47 #[.pointer (some ⟨g, 0, none⟩), .int .i64 most] w fun e w' => ∃ v zs, e = .returned v ∧ w'.ownsRow w.heap.size 3 1 v zs.length (intsV zs) ∧ 1 ≤ zs.length ∧ zs.length ≤ most ∧ (∀ x ∈ zs, 0 ≤ x ∧ x ≤ 1000000) ∧ Cur w' g B ∧ Only g w w' := by
  have hgl := hc.lt
  obtain ⟨i0, hi, hz0, hz1, hz2⟩ := info_parts Try.infoI
  go_enter Try.func47, Try.ntmps47
  go_wp2_with fail
  refine (l1Below_any g B most _ hc (by omega)).mono ?_
  rintro e wa ⟨r, rfl, r0, r1, _, ha, Oa⟩
  have r2 := r1 (by omega)
  obtain ⟨n, hn⟩ : ∃ n : Nat, 1 + r = n := ⟨(1 + r).toNat, by omega⟩
  have hn1 : 1 ≤ n := by omega
  have hn2 : n ≤ most := by omega
  have hr' : r = (n : Int) - 1 := by omega
  subst hr'
  clear r0 r1 r2 hn
  have e1 : (1 : Int) + ((n : Int) - 1) = n := by omega
  go_wp2_with fail
  refine (l1Below_any g B 4 _ ha (by omega)).mono ?_
  rintro e wb ⟨kd, rfl, d0, d1, _, hb, Ob⟩
  have d2 := d1 (by omega)
  have OB := Oa.trans_ Ob
  clear d1 Oa Ob ha e1
  go_wp2
  go_loopw [5, 8, 9, 10] (fun v sa sb si wr => ∃ (k : Nat) (D : List Int) (a b : Int), k ≤ n ∧ sa = .int .i64 a ∧ sb = .int .i64 b ∧ si = .int .i64 k ∧ (0 ≤ a ∧ a ≤ 1000000) ∧ (0 ≤ b ∧ b ≤ 1000000) ∧ Hid (D.length = k) ∧ Hid (∀ x ∈ D, 0 ≤ x ∧ x ≤ 1000000) ∧ wr.ownsRow w.heap.size 3 1 v k (intsV D) ∧ Cur wr g B ∧ Only g w wr) (fun _ _ _ si _ => n - (intOf si).toNat)
  case atStart => exact ⟨0, [], 1, 1, Nat.zero_le _, rfl, rfl, rfl, by omega, by omega, hidden rfl, hidden (by simp), World.ownsRow_nil _ _ _ _, hb, OB⟩
  case round =>
    obtain ⟨k, D, a, b, hk, rfl, rfl, rfl, ha2, hb2, HD, HR, hown, hcr, hO⟩ := hrel
    have hsz := hO.size
    by_cases hlt : k < n
    · by_cases k0 : kd = 0
      · subst k0
        go_wp2_with fail
        refine (l1Below_any g B 4 _ hcr (by omega)).mono ?_
        rintro e w1 ⟨r, rfl, hr0, hr1, _, hc1, hO1⟩
        have hr2 := hr1 (by omega)
        have hown1 := own_only hown hO1 hgl
        have hOn := hO.trans_ hO1
        clear hr1 hO1
        go_wp2_with (at_builtin; refine wpList_append_own _ rfl _ _ 23 rfl w.heap.size 3 i0 (.int .i64 0) 1 8 Try.underlying23 hi hz0 hz1 hz2 rfl (by decide) _ _ _ rfl (hown1.alloc _) ⟨w1.heap.size, 0, none⟩ 1 1 [.int .i64 r] rfl rfl ?ca2 ?ca3 ?ca4 ?ca5 ?ca6 ?_)
        case ca2 => exact cell_one' _ _ _
        case ca3 => exact fun u hu => by simp at hu; subst hu; rfl
        case ca4 => unfold maxLen; omega
        case ca5 => omega
        case ca6 => have hs9 := hOn.size; simp; omega
        intro v3 w3 hown3 hgrow _
        have hown3 : w3.ownsRow w.heap.size 3 1 v3 (k + 1) (intsV (D ++ [r])) := by rw [intsV_snoc]; exact hown3
        have hO3 : Only g w w3 := (hOn.alloc _).grownNew hgrow (fun q hq => (hown1.lt q hq).1)
        have hc3 : Cur w3 g B := (hc1.alloc _).grown hgrow (fun q hq => by have := (hown1.lt q hq).1; omega)
        have HD2 : Hid ((D ++ [r]).length = k + 1) := hidden (by simp [HD.out])
        have HR2 : Hid (∀ x ∈ D ++ [r], 0 ≤ x ∧ x ≤ 1000000) := hidden (by
          intro x hx
          rcases List.mem_append.1 hx with h | h
          · exact HR.out x h
          · simp at h; subst h; omega)
        clear hgrow
        go_wp2
        exact ⟨⟨k + 1, D ++ [r], a, b, by omega, rfl, rfl, by go_num, by omega, by omega, HD2, HR2, hown3, hc3, hO3⟩, by simp [intOf]; omega⟩
      · by_cases k1 : kd = 1
        · subst k1
          go_wp2_with (at_builtin; refine wpList_append_own _ rfl _ _ 23 rfl w.heap.size 3 i0 (.int .i64 0) 1 8 Try.underlying23 hi hz0 hz1 hz2 rfl (by decide) _ _ _ rfl (hown.alloc _) ⟨wr.heap.size, 0, none⟩ 1 1 [.int .i64 a] rfl rfl ?cb2 ?cb3 ?cb4 ?cb5 ?cb6 ?_)
          case cb2 => exact cell_one' _ _ _
          case cb3 => exact fun u hu => by simp at hu; subst hu; rfl
          case cb4 => unfold maxLen; omega
          case cb5 => omega
          case cb6 => have hs9 := hO.size; simp; omega
          intro v3 w3 hown3 hgrow _
          have hown3 : w3.ownsRow w.heap.size 3 1 v3 (k + 1) (intsV (D ++ [a])) := by rw [intsV_snoc]; exact hown3
          have hO3 : Only g w w3 := (hO.alloc _).grownNew hgrow (fun q hq => (hown.lt q hq).1)
          have hc3 : Cur w3 g B := (hcr.alloc _).grown hgrow (fun q hq => by have := (hown.lt q hq).1; omega)
          by_cases hab : 1000000 < a + b
          · have HD2 : Hid ((D ++ [a]).length = k + 1) := hidden (by simp [HD.out])
            have HR2 : Hid (∀ x ∈ D ++ [a], 0 ≤ x ∧ x ≤ 1000000) := hidden (by
              intro x hx
              rcases List.mem_append.1 hx with h | h
              · exact HR.out x h
              · simp at h; subst h; omega)
            clear hgrow
            go_wp2
            exact ⟨⟨k + 1, D ++ [a], b, 1, by omega, rfl, rfl, by go_num, by omega, by omega, HD2, HR2, hown3, hc3, hO3⟩, by simp [intOf]; omega⟩
          · have HD2 : Hid ((D ++ [a]).length = k + 1) := hidden (by simp [HD.out])
            have HR2 : Hid (∀ x ∈ D ++ [a], 0 ≤ x ∧ x ≤ 1000000) := hidden (by
              intro x hx
              rcases List.mem_append.1 hx with h | h
              · exact HR.out x h
              · simp at h; subst h; omega)
            clear hgrow
            go_wp2
            exact ⟨⟨k + 1, D ++ [a], b, (a + b), by omega, rfl, rfl, by go_num, by omega, by omega, HD2, HR2, hown3, hc3, hO3⟩, by simp [intOf]; omega⟩
        · by_cases k2 : kd = 2
          · subst k2
            go_wp2_with fail
            refine (l1Below_any g B 1000001 _ hcr (by omega)).mono ?_
            rintro e w1 ⟨r, rfl, hr0, hr1, _, hc1, hO1⟩
            have hr2 := hr1 (by omega)
            have hown1 := own_only hown hO1 hgl
            have hOn := hO.trans_ hO1
            clear hr1 hO1
            go_wp2_with (at_builtin; refine wpList_append_own _ rfl _ _ 23 rfl w.heap.size 3 i0 (.int .i64 0) 1 8 Try.underlying23 hi hz0 hz1 hz2 rfl (by decide) _ _ _ rfl (hown1.alloc _) ⟨w1.heap.size, 0, none⟩ 1 1 [.int .i64 r] rfl rfl ?cc2 ?cc3 ?cc4 ?cc5 ?cc6 ?_)
            case cc2 => exact cell_one' _ _ _
            case cc3 => exact fun u hu => by simp at hu; subst hu; rfl
            case cc4 => unfold maxLen; omega
            case cc5 => omega
            case cc6 => have hs9 := hOn.size; simp; omega
            intro v3 w3 hown3 hgrow _
            have hown3 : w3.ownsRow w.heap.size 3 1 v3 (k + 1) (intsV (D ++ [r])) := by rw [intsV_snoc]; exact hown3
            have hO3 : Only g w w3 := (hOn.alloc _).grownNew hgrow (fun q hq => (hown1.lt q hq).1)
            have hc3 : Cur w3 g B := (hc1.alloc _).grown hgrow (fun q hq => by have := (hown1.lt q hq).1; omega)
            have HD2 : Hid ((D ++ [r]).length = k + 1) := hidden (by simp [HD.out])
            have HR2 : Hid (∀ x ∈ D ++ [r], 0 ≤ x ∧ x ≤ 1000000) := hidden (by
              intro x hx
              rcases List.mem_append.1 hx with h | h
              · exact HR.out x h
              · simp at h; subst h; omega)
            clear hgrow
            go_wp2
            exact ⟨⟨k + 1, D ++ [r], a, b, by omega, rfl, rfl, by go_num, by omega, by omega, HD2, HR2, hown3, hc3, hO3⟩, by simp [intOf]; omega⟩
          · have k3 : kd = 3 := by omega
            subst k3
            clear k0 k1 k2
            go_wp2_with fail
            refine (l1Below_any g B 12 _ hcr (by omega)).mono ?_
            rintro e w1 ⟨r, rfl, hr0, hr1, _, hc1, hO1⟩
            have hr2 := hr1 (by omega)
            have hown1 := own_only hown hO1 hgl
            have hOn := hO.trans_ hO1
            clear hr1 hO1
            obtain ⟨p, rfl⟩ : ∃ p : Nat, r = p := ⟨r.toNat, by omega⟩
            have h2p : 2 ^ p ≤ 2 ^ 11 := Nat.pow_le_pow_right (by omega) (by omega)
            obtain ⟨P, hP⟩ : ∃ P, 2 ^ p = P := ⟨_, rfl⟩
            have hwp : wrap64 (2 ^ p) = (P : Int) := by rw [show ((2 : Int) ^ p) = ((2 ^ p : Nat) : Int) by simp, hP]; exact wrap64_n _ (by omega)
            rw [hP] at h2p
            clear hP
            go_wp2_with (at_builtin; refine wpList_append_own _ rfl _ _ 23 rfl w.heap.size 3 i0 (.int .i64 0) 1 8 Try.underlying23 hi hz0 hz1 hz2 rfl (by decide) _ _ _ rfl (hown1.alloc _) ⟨w1.heap.size, 0, none⟩ 1 1 [.int .i64 (P : Int)] rfl rfl ?cd2 ?cd3 ?cd4 ?cd5 ?cd6 ?_)
            all_goals (try clear hwp)
            case cd2 => exact cell_one' _ _ _
            case cd3 => exact fun u hu => by simp at hu; subst hu; rfl
            case cd4 => unfold maxLen; omega
            case cd5 => omega
            case cd6 => have hs9 := hOn.size; simp; omega
            intro v3 w3 hown3 hgrow _
            have hown3 : w3.ownsRow w.heap.size 3 1 v3 (k + 1) (intsV (D ++ [(P : Int)])) := by rw [intsV_snoc]; exact hown3
            have hO3 : Only g w w3 := (hOn.alloc _).grownNew hgrow (fun q hq => (hown1.lt q hq).1)
            have hc3 : Cur w3 g B := (hc1.alloc _).grown hgrow (fun q hq => by have := (hown1.lt q hq).1; omega)
            have HD2 : Hid ((D ++ [(P : Int)]).length = k + 1) := hidden (by simp [HD.out])
            have HR2 : Hid (∀ x ∈ D ++ [(P : Int)], 0 ≤ x ∧ x ≤ 1000000) := hidden (by
              intro x hx
              rcases List.mem_append.1 hx with h | h
              · exact HR.out x h
              · simp at h; subst h; omega)
            clear hgrow
            go_wp2
            exact ⟨⟨k + 1, D ++ [(P : Int)], a, b, by omega, rfl, rfl, by go_num, by omega, by omega, HD2, HR2, hown3, hc3, hO3⟩, by simp [intOf]; omega⟩
    · have hkn : k = n := by omega
      subst hkn
      go_wp2
      go_ret
      exact ⟨_, D, rfl, by rw [HD.out]; exact hown, by rw [HD.out]; omega, by rw [HD.out]; omega, HR.out, hcr, hO⟩

theorem pick3b (j : Nat) (h : j < 3) : -1 ≤ ([-1, 1000000, 1000001] : List Int).getD j 0 ∧ ([-1, 1000000, 1000001] : List Int).getD j 0 ≤ 1000001 := by
  rcases j with _ | _ | _ | j <;> simp <;> omega
theorem own_kept_only {w w' : World} {base g : Nat} {e : TypeId} {size : Nat} {v : Value} {n : Nat} {xs : List Value} (h : w.ownsRow base e size v n xs) (ho : Only g w w') (hg : g < base) : w'.ownsRow base e size v n xs := own_only h ho hg
set_option maxHeartbeats 2000000 in
set_option maxRecDepth 100000 in
theorem l3bent_any (g B : Nat) (w : World) (hc : Cur w g B) :
    Calls Try.prog 32 #[.pointer (some ⟨g, 0, none⟩)] w fun e w' => ∃ v zs, e = .returned v ∧ w'.ownsRow w.heap.size 3 1 v zs.length (intsV zs) ∧ zs.length ≤ 261 ∧ (∀ x ∈ zs, -1 ≤ x ∧ x ≤ 1000001) ∧ Cur w' g B ∧ Only g w w' := by
  have hgl := hc.lt
  obtain ⟨i0, hi, hz0, hz1, hz2⟩ := info_parts Try.infoI
  go_enter Try.func32, Try.ntmps32
  go_wp2_with fail
  refine (l3freqs_any g B 20 _ hc (by omega) (by omega)).mono ?_
  rintro e wa ⟨v, zs, rfl, hown, hz1', hz20, hzr, ha, Oa⟩
  obtain ⟨m, hm⟩ : ∃ m, zs.length = m := ⟨_, rfl⟩
  rw [hm] at hown hz1' hz20
  have HM := hidden hm
  have HZR := hidden hzr
  obtain ⟨gf, cf, hv⟩ := Joins.ownsRow_form hown (by omega)
  subst hv
  have hgf := hown.lt gf rfl
  clear hm hzr
  go_wp2_with fail
  refine (l1Below_any g B 14 _ ha (by omega)).mono ?_
  rintro e wb ⟨kd, rfl, d0, d1, _, hb, Ob⟩
  have d2 := d1 (by omega)
  have hownb := own_only hown Ob hgl
  have OB := Oa.trans_ Ob
  have hsb := OB.size
  clear d1 hown Oa ha
  have hsab := Ob.size
  clear Ob
  by_cases k0 : kd = 0
  · subst k0
    go_wp2_with fail
    refine (l1Below_any g B m _ hb (by omega)).mono ?_
    rintro e wc ⟨r, rfl, r0, r1, _, hcc, Oc⟩
    have r2 := r1 (by omega)
    obtain ⟨p, rfl⟩ : ∃ p : Nat, r = p := ⟨r.toNat, by omega⟩
    have hownc := own_only hownb Oc hgl
    have OC := OB.trans_ Oc
    have hgcl := hcc.lt
    have hsc := OC.size
    clear r1 hownb OB hb
    go_wp2_with fail
    refine (l1PickInt_any g B wc.heap.size 3 _ [-1, 1000000, 1000001] _ (hcc.alloc _) (by omega) (by omega) (by omega) ?_).mono ?_
    · intro j hj
      rw [(Has.fresh wc _ _).cell j]
      rcases j with _ | _ | _ | j <;> first | rfl | omega
    rintro e wd ⟨j, hj, rfl, hcd, Od⟩
    have hpk := pick3b j hj
    obtain ⟨x, hx⟩ : ∃ x, ([-1, 1000000, 1000001] : List Int).getD j 0 = x := ⟨_, rfl⟩
    rw [hx] at hpk ⊢
    have hownd := own_only (hownc.alloc (.cells #[.int .i64 (-1), .int .i64 1000000, .int .i64 1000001] 3)) Od hgl
    have OD := (OC.alloc (.cells #[.int .i64 (-1), .int .i64 1000000, .int .i64 1000001] 3)).trans_ Od
    have d0 := hownd.cellAt p (by omega)
    rw [intsV_get zs p (by rw [HM.out]; omega)] at d0
    have f0 := hownd.frozenAt p
    have hp2 : (p : Int) < (m : Int) := by omega
    clear hx hownc OC
    go_wp2
    go_ret
    refine ⟨_, zs.set p x, rfl, by rw [List.length_set, HM.out, ← intsV_set]; exact (hownd.stored p _).1, by rw [List.length_set, HM.out]; omega, ?_, hcd.store (by show g < gf; omega) _, OD.store (.inr (by show w.heap.size ≤ gf; omega)) _⟩
    intro y hy
    rcases List.mem_or_eq_of_mem_set hy with h | h
    · have := HZR.out y h; omega
    · subst h; exact hpk
  · by_cases k1 : kd = 1
    · subst k1
      go_wp2
      go_ret
      exact ⟨_, [], rfl, World.ownsRow_nil _ _ _ _, by simp, by simp, hb, OB⟩
    · by_cases k2 : kd = 2
      · subst k2
        go_wp2_with fail
        refine (l1Below_any g B 2 _ hb (by omega)).mono ?_
        rintro e wc ⟨r, rfl, r0, r1, _, hcc, Oc⟩
        have r2 := r1 (by omega)
        obtain ⟨p, rfl⟩ : ∃ p : Nat, r = p := ⟨r.toNat, by omega⟩
        have hownc := own_only hownb Oc hgl
        have OC := OB.trans_ Oc
        clear r1 hownb OB hb Oc
        go_wp2
        go_loopw [3] (fun v wr => ∃ (k : Nat) (D : List Int), 1 ≤ k ∧ k ≤ 260 + p ∧ Hid (D.length = k) ∧ Hid (∀ x ∈ D, -1 ≤ x ∧ x ≤ 1000001) ∧ wr.ownsRow w.heap.size 3 1 v k (intsV D) ∧ Cur wr g B ∧ Only g w wr) (fun v _ => match v with | .slice _ l _ => 300 - l | _ => 0)
        case atStart => exact ⟨m, zs, hz1', by omega, HM, hidden (fun x hx => by have := HZR.out x hx; omega), hownc, hcc, OC⟩
        case round =>
          obtain ⟨k, D, hk1, hk2, HD, HR, hown, hcr, hO⟩ := hrel
          obtain ⟨gk, ck, hv⟩ := Joins.ownsRow_form hown (by omega)
          subst hv
          by_cases hlt : k < 260 + p
          · have hltI : (k : Int) < 260 + (p : Int) := by omega
            go_wp2_with (at_builtin; refine wpList_append_own _ rfl _ _ 23 rfl w.heap.size 3 i0 (.int .i64 0) 1 8 Try.underlying23 hi hz0 hz1 hz2 rfl (by decide) _ _ _ rfl (hown.alloc _) ⟨wr.heap.size, 0, none⟩ 1 1 [.int .i64 1] rfl rfl ?cb2 ?cb3 ?cb4 ?cb5 ?cb6 ?_)
            case cb2 => exact cell_one' _ _ _
            case cb3 => exact fun u hu => by simp at hu; subst hu; rfl
            case cb4 => unfold maxLen; omega
            case cb5 => omega
            case cb6 => have hs9 := hO.size; simp; omega
            intro v3 w3 hown3 hgrow _
            have hO3 : Only g w w3 := (hO.alloc _).grownNew hgrow (fun q hq => (hown.lt q hq).1)
            have hc3 : Cur w3 g B := (hcr.alloc _).grown hgrow (fun q hq => by have := (hown.lt q hq).1; omega)
            have hown4 : w3.ownsRow w.heap.size 3 1 v3 (k + 1) (intsV (D ++ [1])) := by rw [intsV_snoc]; exact hown3
            obtain ⟨g3, c3, hv3⟩ := Joins.ownsRow_form hown4 (by omega)
            subst hv3
            have HD2 : Hid ((D ++ [1]).length = k + 1) := hidden (by simp [HD.out])
            have HR2 : Hid (∀ x ∈ D ++ [(1 : Int)], -1 ≤ x ∧ x ≤ 1000001) := hidden (by
              intro x hx
              rcases List.mem_append.1 hx with h | h
              · exact HR.out x h
              · simp at h; subst h; omega)
            clear hgrow hown3
            go_wp2
            refine ⟨⟨k + 1, D ++ [1], by omega, by omega, HD2, HR2, hown4, hc3, hO3⟩, ?_⟩
            show 300 - (k + 1) < 300 - k
            omega
          · have hltI : ¬ (k : Int) < 260 + (p : Int) := by omega
            go_wp2
            go_ret
            exact ⟨_, rfl, D, by rw [HD.out]; exact hown, by rw [HD.out]; omega, HR.out, hcr, hO⟩
      · have b0 : (kd == 0) = false := by simp [k0]
        have b1 : (kd == 1) = false := by simp [k1]
        have b2 : (kd == 2) = false := by simp [k2]
        go_wp2
        go_ret
        exact ⟨_, zs, rfl, by rw [HM.out]; exact hownb, by rw [HM.out]; omega, fun x hx => by have := HZR.out x hx; omega, hb, OB⟩
theorem pick12 (j : Nat) (h : j < 12) : 0 ≤ ([0, 1, 2, 3, 4, 5, 6, 9, 12, 20, 20, 21] : List Int).getD j 0 ∧ ([0, 1, 2, 3, 4, 5, 6, 9, 12, 20, 20, 21] : List Int).getD j 0 ≤ 21 := by
  rcases j with _ | _ | _ | _ | _ | _ | _ | _ | _ | _ | _ | _ | j <;> simp <;> omega
set_option maxHeartbeats 2000000 in
theorem drawLens_any (a : Option Addr) (len cap : Nat) (zs : List Int) (w : World) (hcode : Code w w.heap.size a len cap zs) :
    Calls Try.prog 12 #[.slice a len cap] w fun e w' => ∃ (v : Value) (fs : List Int) (lim : Int), e = .returned (.tuple #[v, .int .i64 lim]) ∧ w'.ownsRow w.heap.size 3 1 v fs.length (intsV fs) ∧ fs.length ≤ 261 ∧ (∀ x ∈ fs, -1 ≤ x ∧ x ≤ 1000001) ∧ 0 ≤ lim ∧ lim ≤ 21 ∧ Below w.heap.size w w' := by
  go_enter Try.func12, Try.ntmps12
  go_wp2_with fail
  refine (l1New_any a len cap zs _ hcode).mono ?_
  rintro e wa ⟨g, rfl, hcu, Ba⟩
  have hg := hcu.1
  have hga := hcu.lt
  go_wp2_with fail
  refine (l3bent_any g _ _ hcu).mono ?_
  rintro e wb ⟨v, fs, rfl, hown, hl, hr, hb, Ob⟩
  have hgb := hb.lt
  have HR := hidden hr
  clear hr
  go_wp2_with fail
  refine (l1PickInt_any g _ wb.heap.size 12 _ [0, 1, 2, 3, 4, 5, 6, 9, 12, 20, 20, 21] _ (hb.alloc _) (by omega) (by omega) (by omega) ?_).mono ?_
  · intro j hj
    rw [(Has.fresh wb _ _).cell j]
    rcases j with _ | _ | _ | _ | _ | _ | _ | _ | _ | _ | _ | _ | j <;> first | rfl | omega
  rintro e wc ⟨j, hj, rfl, hc, Oc⟩
  have hp := pick12 j hj
  obtain ⟨x, hx⟩ : ∃ x, ([0, 1, 2, 3, 4, 5, 6, 9, 12, 20, 20, 21] : List Int).getD j 0 = x := ⟨_, rfl⟩
  rw [hx] at hp ⊢
  have hownc := own_only (hown.alloc (.cells #[.int .i64 0, .int .i64 1, .int .i64 2, .int .i64 3, .int .i64 4, .int .i64 5, .int .i64 6, .int .i64 9, .int .i64 12, .int .i64 20, .int .i64 20, .int .i64 21] 3)) Oc hga
  have hO := (Ob.alloc (.cells #[.int .i64 0, .int .i64 1, .int .i64 2, .int .i64 3, .int .i64 4, .int .i64 5, .int .i64 6, .int .i64 9, .int .i64 12, .int .i64 20, .int .i64 20, .int .i64 21] 3)).trans_ Oc
  have hba := Ba.size
  clear hx hown
  go_wp2
  refine bodyPost_ret (v := .tuple #[v, .int .i64 x]) (by simp [results, Try.results12, go_sem]) rfl ⟨v, fs, x, rfl, Joins.ownsRow_le hownc hba, hl, HR.out, hp.1, hp.2, only_then hO hg Ba.size Ba⟩
end Go.Proofs.Ytpmiphnjnbkjlaa
