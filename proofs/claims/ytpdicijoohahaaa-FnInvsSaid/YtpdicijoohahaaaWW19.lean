/- Merged: Dr9P, Dr8U. -/
import Derived.Test.YtpdicijoohahaaaWW13
import Derived.Test.YtpdicijoohahaaaWW11
import Derived.Test.YtpdicijoohahaaaWW12
import Derived.Test.YtpdicijoohahaaaWW14
import Derived.Test.YtpdicijoohahaaaWW3
namespace Go.Proofs.Ytpdicijoohahaaa
set_option linter.unusedVariables false
set_option linter.unusedSimpArgs false
open Go.RowKit

theorem Code.up8 {w : World} {B B' : Nat} {a : Option Addr} {len cap : Nat} {zs : List Int} (h : Code w B a len cap zs) (hB : B ≤ B') : Code w B' a len cap zs :=
  ⟨h.1, h.2.1, fun h0 => by
    obtain ⟨b, off, e, hb, hc⟩ := h.2.2 h0
    exact ⟨b, off, e, by omega, hc⟩⟩
theorem mtfZ_small (z : List Int) (n : Int) : (mtfZ z n).length ≤ 600 ∧ ∀ x ∈ mtfZ z n, 0 ≤ x ∧ x ≤ 256 := by
  by_cases hok : rOk z n = true
  · obtain ⟨L, m, rfl, rfl, hm1, hm2, hL6, hLm⟩ := rOk_nats hok
    rw [mtfZ_yes hok]
    refine ⟨by rw [ints_len, runF_len]; exact hL6, fun x hx => ?_⟩
    unfold ints at hx
    rw [List.mem_map] at hx
    obtain ⟨d, hd, rfl⟩ := hx
    have := mtf_lt hLm d hd
    omega
  · rw [mtfZ_no (bool_false hok)]; simp
theorem packZ_small (z : List Int) (n : Int) : (packZ z n).length ≤ 601 ∧ ∀ x ∈ packZ z n, 0 ≤ x ∧ x ≤ 257 := by
  by_cases hok : rOk z n = true
  · obtain ⟨L, m, rfl, rfl, hm1, hm2, hL6, hLm⟩ := rOk_nats hok
    rw [packZ_yes hok]
    refine ⟨by rw [ints_len, List.length_append]; have := packF_len L 0; simp; omega, fun x hx => ?_⟩
    unfold ints at hx
    rw [List.mem_map] at hx
    obtain ⟨d, hd, rfl⟩ := hx
    rcases List.mem_append.1 hd with hd | hd
    · have := packF_le m L 0 hLm d hd; omega
    · rw [List.mem_singleton.1 hd]; omega
  · rw [packZ_no (bool_false hok)]; simp
theorem own_cap {w : World} {base n c : Nat} {e : TypeId} {a : Option Addr} {xs : List Value} (h : w.ownsRow base e 1 (.slice a n c) n xs) : n ≤ c := by
  rcases h.2 with ⟨hv, h0⟩ | ⟨g, cap, cur, hv, _, _, hle, _⟩
  · omega
  · simp only [Value.slice.injEq] at hv
    obtain ⟨_, _, rfl⟩ := hv
    exact hle
theorem Ints.take9 {w : World} {B : Nat} {a : Option Addr} {zs : List Int} (h : Ints w B a zs) (k : Nat) : Ints w B a (zs.take k) := by
  have hl : (zs.take k).length ≤ zs.length := by rw [List.length_take]; omega
  refine ⟨by have := h.1; omega, fun n hn => h.2.1 n (List.mem_of_mem_take hn), fun h0 => ?_⟩
  obtain ⟨b, off, e, hb, hc⟩ := h.2.2 (by omega)
  refine ⟨b, off, e, hb, fun i hi => ?_⟩
  rw [hc i (by omega)]
  rw [List.length_take] at hi
  simp only [List.getD_eq_getElem?_getD, List.getElem?_take, if_pos (show i < k by omega)]
theorem pick6u (m : Nat) (hm : m ≤ 1000) (j : Nat) (h : j < 6) : -1 ≤ ([600, 600, (m : Int), (m : Int) - 1, 0, -1] : List Int).getD j 0 ∧ ([600, 600, (m : Int), (m : Int) - 1, 0, -1] : List Int).getD j 0 ≤ 1000 := by
  rcases j with _ | _ | _ | _ | _ | _ | j <;> simp <;> omega
theorem pick7u (n : Int) (h1 : -1 ≤ n) (h2 : n ≤ 257) (j : Nat) (h : j < 7) : -1 ≤ ([-1, 0, 1, 2, n, n + 1, n + 2] : List Int).getD j 0 ∧ ([-1, 0, 1, 2, n, n + 1, n + 2] : List Int).getD j 0 ≤ 300 := by
  rcases j with _ | _ | _ | _ | _ | _ | _ | j <;> simp <;> omega
theorem pick3u (n : Int) (h1 : -1 ≤ n) (h2 : n ≤ 257) (j : Nat) (h : j < 3) : -1 ≤ ([0, 1, n + 1] : List Int).getD j 0 ∧ ([0, 1, n + 1] : List Int).getD j 0 ≤ 300 := by
  rcases j with _ | _ | _ | j <;> simp <;> omega

set_option maxHeartbeats 2000000 in
set_option maxRecDepth 100000 in
theorem drawPackRuns_any (a : Option Addr) (len cap : Nat) (zs : List Int) (w : World) (hcode : Code w w.heap.size a len cap zs) :
    Calls Try.prog 42 #[.slice a len cap] w fun e w' => ∃ v L n, e = .returned (.tuple #[v, .int .i64 n]) ∧ w'.ownsRow w.heap.size 3 1 v L.length (intsV L) ∧ L.length ≤ 1000 ∧ (∀ x ∈ L, -1 ≤ x ∧ x ≤ 256) ∧ -1 ≤ n ∧ n ≤ 257 ∧ Below w.heap.size w w' := by
  have hl := hcode.1
  go_enter Try.func42, Try.ntmps42
  go_wp2_with fail
  refine (l1New_any _ _ _ _ _ hcode).mono ?_
  rintro e w1 ⟨g, rfl, hc1, b1⟩
  have hg := hc1.1
  go_wp2_with (go_at_call 53; refine (l1Size_any _ _ _ _ _ (by omega) (by omega) (by omega)).mono ?_; rintro e w2 ⟨m, rfl, m1, m2, rfl⟩)
  go_wp2_with fail
  refine (l8bent_any g _ m _ hc1 (by omega) (by omega)).mono ?_
  rintro e w3 ⟨v, L, n, rfl, hown, h1, h2, h3, h4, hc3, O3⟩
  have B3 := only_then O3 hg b1.size b1
  have hw3 := B3.size
  have hgl3 := hc3.lt
  have hgl := hc1.lt
  have hb1 := b1.size
  obtain ⟨k, hk⟩ : ∃ k, L.length = k := ⟨_, rfl⟩
  rw [hk] at hown h1
  have HK := hidden hk
  have HR := hidden h2
  obtain ⟨al, cl, rfl⟩ := own_shape hown
  have hI := (Ints.ofOwn hown (by omega) (fun x hx => by have := HR.out x hx; omega)).2
  have KO : Calls Try.prog 29 #[.slice al k cl, .int .i64 n] w3 fun e w' => e = .returned (.bool (rOk L n)) ∧ w3 = w' := by
    have := specRanksOk_any al cl _ L n w3 hI (by rw [hk]; omega) (by omega) (by omega)
    rw [hk] at this
    exact this
  have KM := hidden fun W h => specMtf_any al cl W.heap.size L n W h (Nat.le_refl _) (by rw [HK.out]; omega) (by omega) (by omega)
  rw [hk] at KM
  have HMS := hidden (mtfZ_small L n)
  clear hk h2 O3 hc1 b1 hcode hI
  by_cases hok : rOk L n = true
  · rw [hok] at KO
    clear hok
    go_wp2_with fail
    refine KO.mono ?_
    rintro e w4 ⟨rfl, rfl⟩
    go_wp2_with fail
    refine (l1Once_any g _ 2 _ hc3 (by omega)).mono ?_
    rintro e w4 ⟨b, rfl, hc4, O4⟩
    have B4 := only_then O4 hg hw3 B3
    have own4 := own_only hown O4 hgl
    have hI4 := (Ints.ofOwn own4 (by omega) (fun x hx => by have := HR.out x hx; omega)).2
    cases b with
    | true =>
      go_wp2_with fail
      refine (KM.out _ hI4).mono ?_
      rintro e w5 ⟨v5, rfl, own5, b5⟩
      have B5 := B4.trans (b5.mono B4.size)
      go_wp2
      exact bodyPost_ret (v := .tuple #[v5, .int .i64 n]) (by simp [results, Try.results42, go_sem]) rfl ⟨v5, mtfZ L n, n, rfl, Joins.ownsRow_le own5 B4.size, by have := HMS.out.1; omega, fun x hx => by have := HMS.out.2 x hx; omega, h3, h4, B5⟩
    | false =>
      go_wp2
      exact bodyPost_ret (v := .tuple #[.slice al k cl, .int .i64 n]) (by simp [results, Try.results42, go_sem]) rfl ⟨_, L, n, rfl, by rw [HK.out]; exact Joins.ownsRow_le own4 hb1, by rw [HK.out]; exact h1, fun x hx => by have := HR.out x hx; omega, h3, h4, B4⟩
  · rw [bool_false hok] at KO
    clear hok
    go_wp2_with fail
    refine KO.mono ?_
    rintro e w4 ⟨rfl, rfl⟩
    go_wp2
    exact bodyPost_ret (v := .tuple #[.slice al k cl, .int .i64 n]) (by simp [results, Try.results42, go_sem]) rfl ⟨_, L, n, rfl, by rw [HK.out]; exact Joins.ownsRow_le hown hb1, by rw [HK.out]; exact h1, fun x hx => by have := HR.out x hx; omega, h3, h4, B3⟩

set_option maxHeartbeats 1500000 in
set_option maxRecDepth 100000 in
theorem drawUnpackRuns_any (a : Option Addr) (len cap : Nat) (zs : List Int) (w : World) (hcode : Code w w.heap.size a len cap zs) :
    Calls Try.prog 43 #[.slice a len cap] w fun e w' => ∃ ar L c n most, e = .returned (.tuple #[.slice ar L.length c, .int .i64 n, .int .i64 most]) ∧ L.length ≤ 1000 ∧ Ints w' w'.heap.size ar L ∧ L.length ≤ c ∧ -1 ≤ n ∧ n ≤ 257 ∧ -1 ≤ most ∧ most ≤ 1000 ∧ Below w.heap.size w w' := by
  obtain ⟨i0, hi, hz0, hz1, hz2⟩ := info_parts Try.infoI
  go_enter Try.func43, Try.ntmps43
  go_wp2_with fail
  refine (l1New_any _ _ _ _ _ hcode).mono ?_
  rintro e w1 ⟨g, rfl, hc1, b1⟩
  have hg := hc1.1
  have hgl := hc1.lt
  have hb1 := b1.size
  replace hcode : Code w1 w1.heap.size a len cap zs := (hcode.below b1).up8 hb1
  go_wp2_with fail
  refine (drawPackRuns_any _ _ _ _ _ hcode).mono ?_
  rintro e w2 ⟨v, L, n, rfl, hown, h1, h2, n1, n2, b2⟩
  have hc2 := hc1.below b2 hgl
  have B2 := b1.trans (b2.mono hb1)
  have hs2 := b2.size
  obtain ⟨m, hm⟩ : ∃ m, L.length = m := ⟨_, rfl⟩
  rw [hm] at hown h1
  have hm4 : m ≤ 1000 := h1
  have HR := hidden h2
  have HM := hidden hm
  obtain ⟨al, cl, rfl⟩ := own_shape hown
  have hI := (Ints.ofOwn hown (by omega) (fun x hx => by have := HR.out x hx; omega)).2
  have KP : Calls Try.prog 23 #[.slice al m cl, .int .i64 n] w2 fun e w' => ∃ v, e = .returned v ∧ w'.ownsRow w2.heap.size 3 1 v (packZ L n).length (intsV (packZ L n)) ∧ Below w2.heap.size w2 w' := by
    have := specPackRuns_any al cl _ L n w2 hI (Nat.le_refl _) (by rw [hm]; omega) (by omega) (by omega)
    rw [hm] at this
    exact this
  have HPS := hidden (packZ_small L n)
  obtain ⟨P, hP⟩ : ∃ P, packZ L n = P := ⟨_, rfl⟩
  rw [hP] at KP HPS
  obtain ⟨k, hk⟩ : ∃ k, P.length = k := ⟨_, rfl⟩
  have HK := hidden hk
  have hk6 := HPS.out.1
  rw [hk] at KP hk6
  clear hk hP hm h2 hI b1 b2 hc1 hcode hown
  go_wp2_with fail
  refine KP.mono ?_
  rintro e w3 ⟨v3, rfl, own3, b3⟩
  have hc3 := hc2.below b3 hc2.lt
  have B3 := B2.trans (b3.mono B2.size)
  have hg2 : g < w2.heap.size := by omega
  have hs3 := b3.size
  clear b3 KP hc2
  by_cases hk0 : k = 0
  · subst hk0
    obtain ⟨a3, c3, rfl⟩ := own_shape own3
    have hcap := own_cap own3
    go_wp2_with fail
    refine (l1PickInt_any g w.heap.size w3.heap.size 6 _ [600, 600, (m : Int), (m : Int) - 1, 0, -1] _ (hc3.alloc _) (by omega) (by omega) (by have := hc3.lt; omega) ?_).mono ?_
    · intro j hj
      rw [(Has.fresh w3 _ _).cell j]
      rcases j with _ | _ | _ | _ | _ | _ | j <;> first | rfl | omega
    rintro e wz ⟨jz, hjz, rfl, hcz, Oz⟩
    have hpz := pick6u m hm4 jz hjz
    obtain ⟨xz, hxz⟩ : ∃ x, ([600, 600, (m : Int), (m : Int) - 1, 0, -1] : List Int).getD jz 0 = x := ⟨_, rfl⟩
    rw [hxz] at hpz ⊢
    have ownZ := own_only (own3.alloc (.cells #[.int .i64 600, .int .i64 600, .int .i64 (m : Int), .int .i64 ((m : Int) - 1), .int .i64 0, .int .i64 (-1)] 3)) Oz hg2
    have BZ := only_then Oz hg (by have := B3.size; simp; omega) (B3.alloc B3.size (.cells #[.int .i64 600, .int .i64 600, .int .i64 (m : Int), .int .i64 ((m : Int) - 1), .int .i64 0, .int .i64 (-1)] 3))
    clear hxz
    go_wp2
    have hIz := (Ints.ofOwn ownZ (by omega) (fun x hx => by have := HPS.out.2 x hx; omega)).2
    refine bodyPost_ret (v := .tuple #[.slice a3 0 c3, .int .i64 n, .int .i64 xz]) (by simp [results, Try.results43, go_sem]) rfl ⟨a3, P, c3, n, xz, by rw [HK.out], by rw [HK.out]; omega, hIz, by rw [HK.out]; exact hcap, n1, n2, hpz.1, hpz.2, BZ⟩
  have hk1 : 0 < k := by omega
  obtain ⟨g3, c3, rfl⟩ := Joins.ownsRow_form own3 hk1
  have hg3 := own3.lt g3 rfl
  have hcap := own_cap own3
  clear hk0
  go_wp2_with fail
  refine (l1Once_any g _ 3 _ hc3 (by omega)).mono ?_
  rintro e w4 ⟨b, rfl, hc4, O4⟩
  have B4 := only_then O4 hg B3.size B3
  have own4 := own_only own3 O4 hg2
  clear own3 O4 hc3
  cases b with
  | false =>
    go_wp2_with fail
    refine (l1PickInt_any g w.heap.size w4.heap.size 6 _ [600, 600, (m : Int), (m : Int) - 1, 0, -1] _ (hc4.alloc _) (by omega) (by omega) (by have := hc4.lt; omega) ?_).mono ?_
    · intro j hj
      rw [(Has.fresh w4 _ _).cell j]
      rcases j with _ | _ | _ | _ | _ | _ | j <;> first | rfl | omega
    rintro e wz ⟨jz, hjz, rfl, hcz, Oz⟩
    have hpz := pick6u m hm4 jz hjz
    obtain ⟨xz, hxz⟩ : ∃ x, ([600, 600, (m : Int), (m : Int) - 1, 0, -1] : List Int).getD jz 0 = x := ⟨_, rfl⟩
    rw [hxz] at hpz ⊢
    have ownZ := own_only (own4.alloc (.cells #[.int .i64 600, .int .i64 600, .int .i64 (m : Int), .int .i64 ((m : Int) - 1), .int .i64 0, .int .i64 (-1)] 3)) Oz hg2
    have BZ := only_then Oz hg (by have := B4.size; simp; omega) (B4.alloc B4.size (.cells #[.int .i64 600, .int .i64 600, .int .i64 (m : Int), .int .i64 ((m : Int) - 1), .int .i64 0, .int .i64 (-1)] 3))
    clear hxz
    go_wp2
    have hIz := (Ints.ofOwn ownZ (by omega) (fun x hx => by have := HPS.out.2 x hx; omega)).2
    refine bodyPost_ret (v := .tuple #[.slice (some ⟨g3, 0, none⟩) k c3, .int .i64 n, .int .i64 xz]) (by simp [results, Try.results43, go_sem]) rfl ⟨_, P, c3, n, xz, by rw [HK.out], by rw [HK.out]; omega, hIz, by rw [HK.out]; exact hcap, n1, n2, hpz.1, hpz.2, BZ⟩
  | true =>
    go_wp2_with fail
    refine (l1Below_any g _ k _ hc4 (by omega)).mono ?_
    rintro e w5 ⟨r, rfl, r0, r1, _, hc5, O5⟩
    have r2 := r1 (by omega)
    obtain ⟨p, rfl⟩ : ∃ p : Nat, r = p := ⟨r.toNat, by omega⟩
    have hp2 : (p : Int) < (k : Int) := by omega
    have B5 := only_then O5 hg B4.size B4
    have own5 := own_only own4 O5 hg2
    clear r1 own4 O5 hc4
    go_wp2_with fail
    refine (l1Below_any g _ 3 _ hc5 (by omega)).mono ?_
    rintro e w6 ⟨q, rfl, q0, q1, _, hc6, O6⟩
    have q2 := q1 (by omega)
    have B6 := only_then O6 hg B5.size B5
    have own6 := own_only own5 O6 hg2
    have hs6 := B6.size
    clear q1 own5 O6 hc5
    by_cases k0 : q = 0
    · subst k0
      go_wp2_with fail
      refine (l1PickInt_any g w.heap.size w6.heap.size 7 _ [-1, 0, 1, 2, n, n + 1, n + 2] _ (hc6.alloc _) (by omega) (by omega) (by have := hc6.lt; omega) ?_).mono ?_
      · intro j hj
        rw [(Has.fresh w6 _ _).cell j]
        rcases j with _ | _ | _ | _ | _ | _ | _ | j <;> first | rfl | omega
      rintro e w7 ⟨j, hj, rfl, hc7, O7⟩
      have hpk := pick7u n n1 n2 j hj
      obtain ⟨x, hx⟩ : ∃ x, ([-1, 0, 1, 2, n, n + 1, n + 2] : List Int).getD j 0 = x := ⟨_, rfl⟩
      rw [hx] at hpk ⊢
      have own7 := own_only (own6.alloc (.cells #[.int .i64 (-1), .int .i64 0, .int .i64 1, .int .i64 2, .int .i64 n, .int .i64 (n + 1), .int .i64 (n + 2)] 3)) O7 hg2
      have B7 := only_then O7 hg (by simp; omega) (B6.alloc hs6 (.cells #[.int .i64 (-1), .int .i64 0, .int .i64 1, .int .i64 2, .int .i64 n, .int .i64 (n + 1), .int .i64 (n + 2)] 3))
      have d0 := own7.cellAt p (by omega)
      rw [intsV_get P p (by rw [HK.out]; omega)] at d0
      have f0 := own7.frozenAt p
      have own8 := (own7.stored p (.int .i64 x)).1
      rw [intsV_set] at own8
      have hc8 := hc7.store (p := ⟨g3, p, none⟩) (by show g < g3; omega) (.int .i64 x)
      have hs2w := B2.size
      have B8 := B7.setCell (p := ⟨g3, p, none⟩) (by show w.heap.size ≤ g3; omega) (.int .i64 x)
      obtain ⟨w8, hw8⟩ : ∃ W, w7.setCell ⟨g3, p, none⟩ (.int .i64 x) = W := ⟨_, rfl⟩
      rw [hw8] at own8 hc8 B8
      clear hx O7 own6 hc6
      go_wp2_with fail
      refine (l1PickInt_any g w.heap.size w8.heap.size 6 _ [600, 600, (m : Int), (m : Int) - 1, 0, -1] _ (hc8.alloc _) (by omega) (by omega) (by have := hc8.lt; omega) ?_).mono ?_
      · intro j hj
        rw [(Has.fresh w8 _ _).cell j]
        rcases j with _ | _ | _ | _ | _ | _ | j <;> first | rfl | omega
      rintro e wz ⟨jz, hjz, rfl, hcz, Oz⟩
      have hpz := pick6u m hm4 jz hjz
      obtain ⟨xz, hxz⟩ : ∃ x, ([600, 600, (m : Int), (m : Int) - 1, 0, -1] : List Int).getD jz 0 = x := ⟨_, rfl⟩
      rw [hxz] at hpz ⊢
      have ownZ := own_only (own8.alloc (.cells #[.int .i64 600, .int .i64 600, .int .i64 (m : Int), .int .i64 ((m : Int) - 1), .int .i64 0, .int .i64 (-1)] 3)) Oz hg2
      have BZ := only_then Oz hg (by have := B8.size; simp; omega) (B8.alloc B8.size (.cells #[.int .i64 600, .int .i64 600, .int .i64 (m : Int), .int .i64 ((m : Int) - 1), .int .i64 0, .int .i64 (-1)] 3))
      clear hxz
      go_wp2
      have hIz := (Ints.ofOwn ownZ (by omega) (fun y hy => by
        rcases List.mem_or_eq_of_mem_set hy with h | h
        · have := HPS.out.2 y h; omega
        · subst h; omega)).2
      refine bodyPost_ret (v := .tuple #[.slice (some ⟨g3, 0, none⟩) k c3, .int .i64 n, .int .i64 xz]) (by simp [results, Try.results43, go_sem]) rfl ⟨_, P.set p x, c3, n, xz, by rw [List.length_set, HK.out], by rw [List.length_set, HK.out]; omega, hIz, by rw [List.length_set, HK.out]; exact hcap, n1, n2, hpz.1, hpz.2, BZ⟩
    by_cases k1 : q = 1
    · subst k1
      clear k0
      have hlt9 : (P.take p).length = p := by rw [List.length_take, HK.out]; omega
      go_wp2_with fail
      refine (l1PickInt_any g w.heap.size w6.heap.size 6 _ [600, 600, (m : Int), (m : Int) - 1, 0, -1] _ (hc6.alloc _) (by omega) (by omega) (by have := hc6.lt; omega) ?_).mono ?_
      · intro j hj
        rw [(Has.fresh w6 _ _).cell j]
        rcases j with _ | _ | _ | _ | _ | _ | j <;> first | rfl | omega
      rintro e wz ⟨jz, hjz, rfl, hcz, Oz⟩
      have hpz := pick6u m hm4 jz hjz
      obtain ⟨xz, hxz⟩ : ∃ x, ([600, 600, (m : Int), (m : Int) - 1, 0, -1] : List Int).getD jz 0 = x := ⟨_, rfl⟩
      rw [hxz] at hpz ⊢
      have ownZ := own_only (own6.alloc (.cells #[.int .i64 600, .int .i64 600, .int .i64 (m : Int), .int .i64 ((m : Int) - 1), .int .i64 0, .int .i64 (-1)] 3)) Oz hg2
      have BZ := only_then Oz hg (by have := B6.size; simp; omega) (B6.alloc B6.size (.cells #[.int .i64 600, .int .i64 600, .int .i64 (m : Int), .int .i64 ((m : Int) - 1), .int .i64 0, .int .i64 (-1)] 3))
      clear hxz
      go_wp2
      have hIz := (Ints.ofOwn ownZ (by omega) (fun x hx => by have := HPS.out.2 x hx; omega)).2
      replace hIz := hIz.take9 p
      refine bodyPost_ret (v := .tuple #[.slice (some ⟨g3, 0, none⟩) p c3, .int .i64 n, .int .i64 xz]) (by simp [results, Try.results43, go_sem]) rfl ⟨_, P.take p, c3, n, xz, by rw [hlt9], by omega, hIz, by omega, n1, n2, hpz.1, hpz.2, BZ⟩
    have e0 : (q == 0) = false := by simp [k0]
    have e1 : (q == 1) = false := by simp [k1]
    clear k0 k1
    go_wp2_with fail
    refine (l1PickInt_any g w.heap.size w6.heap.size 3 _ [0, 1, n + 1] _ (hc6.alloc _) (by omega) (by omega) (by have := hc6.lt; omega) ?_).mono ?_
    · intro j hj
      rw [(Has.fresh w6 _ _).cell j]
      rcases j with _ | _ | _ | j <;> first | rfl | omega
    rintro e w7 ⟨j, hj, rfl, hc7, O7⟩
    have hpk := pick3u n n1 n2 j hj
    obtain ⟨x, hx⟩ : ∃ x, ([0, 1, n + 1] : List Int).getD j 0 = x := ⟨_, rfl⟩
    rw [hx] at hpk ⊢
    have own7 := own_only (own6.alloc (.cells #[.int .i64 0, .int .i64 1, .int .i64 (n + 1)] 3)) O7 hg2
    have B7 := only_then O7 hg (by simp; omega) (B6.alloc hs6 (.cells #[.int .i64 0, .int .i64 1, .int .i64 (n + 1)] 3))
    have hs7 := O7.size
    have hs72 := own7.lt g3 rfl
    clear hx O7 own6 hc6 e0 e1
    go_wp2_with (at_builtin; refine wpList_append_own _ rfl _ _ 22 rfl w2.heap.size 3 i0 (.int .i64 0) 1 8 Try.underlying22 hi hz0 hz1 hz2 rfl (by decide) _ _ _ rfl (own7.alloc _) ⟨w7.heap.size, 0, none⟩ 1 1 [.int .i64 x] rfl rfl ?cb2 ?cb3 ?cb4 ?cb5 ?cb6 ?_)
    case cb2 => exact cell_one' _ _ _
    case cb3 => exact fun u hu => by simp at hu; subst hu; rfl
    case cb4 => unfold maxLen; omega
    case cb5 => omega
    case cb6 => simp; omega
    intro v8 w8 own8 hgrow _
    have own8 : w8.ownsRow w2.heap.size 3 1 v8 (k + 1) (intsV (P ++ [x])) := by rw [intsV_snoc]; exact own8
    have hc8 : Cur w8 g w.heap.size := (hc7.alloc _).grown hgrow (fun q hq => by have := (own7.lt q hq).1; omega)
    have hs2w := B2.size
    have B8 : Below w.heap.size w w8 := (B7.alloc B7.size _).grown hgrow (by have := B7.size; simp; omega) (fun q hq => by have := (own7.lt q hq).1; omega)
    have hs8 := hgrow.size
    clear hgrow own7 B7 hc7
    obtain ⟨a8, c8, rfl⟩ := own_shape own8
    have hcap8 := own_cap own8
    clear hcap
    have hlt9 : (P ++ [x]).length = k + 1 := by simp [HK.out]
    go_wp2_with fail
    refine (l1PickInt_any g w.heap.size w8.heap.size 6 _ [600, 600, (m : Int), (m : Int) - 1, 0, -1] _ (hc8.alloc _) (by omega) (by omega) (by have := hc8.lt; omega) ?_).mono ?_
    · intro j hj
      rw [(Has.fresh w8 _ _).cell j]
      rcases j with _ | _ | _ | _ | _ | _ | j <;> first | rfl | omega
    rintro e wz ⟨jz, hjz, rfl, hcz, Oz⟩
    have hpz := pick6u m hm4 jz hjz
    obtain ⟨xz, hxz⟩ : ∃ x, ([600, 600, (m : Int), (m : Int) - 1, 0, -1] : List Int).getD jz 0 = x := ⟨_, rfl⟩
    rw [hxz] at hpz ⊢
    have ownZ := own_only (own8.alloc (.cells #[.int .i64 600, .int .i64 600, .int .i64 (m : Int), .int .i64 ((m : Int) - 1), .int .i64 0, .int .i64 (-1)] 3)) Oz hg2
    have BZ := only_then Oz hg (by have := B8.size; simp; omega) (B8.alloc B8.size (.cells #[.int .i64 600, .int .i64 600, .int .i64 (m : Int), .int .i64 ((m : Int) - 1), .int .i64 0, .int .i64 (-1)] 3))
    clear hxz
    go_wp2
    have hIz := (Ints.ofOwn ownZ (by omega) (fun y hy => by
      rcases List.mem_append.1 hy with h | h
      · have := HPS.out.2 y h; omega
      · simp at h; subst h; omega)).2
    refine bodyPost_ret (v := .tuple #[.slice a8 (k + 1) c8, .int .i64 n, .int .i64 xz]) (by simp [results, Try.results43, go_sem]) rfl ⟨_, P ++ [x], c8, n, xz, by rw [hlt9], by omega, hIz, by omega, n1, n2, hpz.1, hpz.2, BZ⟩

end Go.Proofs.Ytpdicijoohahaaa
namespace Go.Proofs.Ytpdicijoohahaaa
set_option linter.unusedVariables false
set_option linter.unusedSimpArgs false
open Go.RowKit

theorem inv_small {L : List Int} {n : Int} (h : rOk L n = true) : ((invC L n).length : Int) = n ∧ (invG L n).length ≤ L.length ∧ (∀ x ∈ invC L n, 0 ≤ x ∧ x ≤ 600) ∧ (∀ x ∈ invG L n, 0 ≤ x ∧ x ≤ 600) := by
  obtain ⟨D, m, rfl, rfl, hm1, hm2, hL6, hLm⟩ := rOk_nats h
  rw [invC_yes h, invG_yes h, ints_len, ints_len, ints_len]
  refine ⟨by simp, gapsTo_le hLm (by omega), fun x hx => ?_, fun x hx => ?_⟩
  · unfold ints at hx
    rw [List.mem_map] at hx
    obtain ⟨d, hd, rfl⟩ := hx
    rw [List.mem_map] at hd
    obtain ⟨y, _, rfl⟩ := hd
    have := List.count_le_length (a := y) (l := D)
    omega
  · unfold ints at hx
    rw [List.mem_map] at hx
    obtain ⟨d, hd, rfl⟩ := hx
    have := gapsTo_mem hd
    omega
theorem own_spot {w : World} {base n c : Nat} {e : TypeId} {a : Option Addr} {xs : List Value} (h : w.ownsRow base e 1 (.slice a n c) n xs) : ∀ x, a = some x → x.spot = none := by
  intro x hx
  subst hx
  rcases h.2 with ⟨hv, h0⟩ | ⟨g, cap, cur, hv, _⟩
  · simp at hv
  · simp only [Value.slice.injEq, Option.some.injEq] at hv
    obtain ⟨rfl, _, _⟩ := hv
    rfl
theorem pick5c (j : Nat) (h : j < 5) : -1 ≤ ([0, 1, 2, -1, 600] : List Int).getD j 0 ∧ ([0, 1, 2, -1, 600] : List Int).getD j 0 ≤ 600 := by
  rcases j with _ | _ | _ | _ | _ | j <;> simp <;> omega
theorem pick5g (j : Nat) (h : j < 5) : -1 ≤ ([0, 1, 5, -1, 4611686018427387904] : List Int).getD j 0 ∧ ([0, 1, 5, -1, 4611686018427387904] : List Int).getD j 0 ≤ 4611686018427387904 := by
  rcases j with _ | _ | _ | _ | _ | j <;> simp <;> omega
theorem pick3c (n : Int) (h1 : 1 ≤ n) (h2 : n ≤ 6) (j : Nat) (h : j < 3) : -1 ≤ ([n + 1, 0, 257] : List Int).getD j 0 ∧ ([n + 1, 0, 257] : List Int).getD j 0 ≤ 257 := by
  rcases j with _ | _ | _ | j <;> simp <;> omega

set_option maxHeartbeats 1500000 in
set_option maxRecDepth 100000 in
theorem drawUnInv_any (a : Option Addr) (len cap : Nat) (zs : List Int) (w : World) (hcode : Code w w.heap.size a len cap zs) :
    Calls Try.prog 39 #[.slice a len cap] w fun e w' => ∃ aA A cA aG G cG n, e = .returned (.tuple #[.slice aA A.length cA, .slice aG G.length cG, .int .i64 n]) ∧ A.length ≤ 1000 ∧ G.length ≤ 1000 ∧ Ints w' w'.heap.size aA A ∧ Ints w' w'.heap.size aG G ∧ G.length ≤ cG ∧ (∀ x, aG = some x → x.spot = none) ∧ -1 ≤ n ∧ n ≤ 257 ∧ Below w.heap.size w w' := by
  have hl := hcode.1
  obtain ⟨i0, hi, hz0, hz1, hz2⟩ := info_parts Try.infoI
  go_enter Try.func39, Try.ntmps39
  go_wp2_with fail
  refine (l1New_any _ _ _ _ _ hcode).mono ?_
  rintro e w1 ⟨g, rfl, hc1, b1⟩
  have hg := hc1.1
  have hgl := hc1.lt
  have hb1 := b1.size
  go_wp2_with fail
  refine (l1Below_any g _ 6 _ hc1 (by omega)).mono ?_
  rintro e w2 ⟨r, rfl, r0, r1, _, hc2, O2⟩
  have r2 := r1 (by omega)
  obtain ⟨n, hn⟩ : ∃ n : Nat, 1 + r = n := ⟨(1 + r).toNat, by omega⟩
  have hr : r = (n : Int) - 1 := by omega
  subst hr
  have n1 : 1 ≤ n := by omega
  have n2 : n ≤ 6 := by omega
  have e1 : (1 : Int) + ((n : Int) - 1) = n := by omega
  have B2 := only_then O2 hg hb1 b1
  have hgl2 := hc2.lt
  clear hn r0 r1 r2 hc1 O2 b1 hcode
  go_wp2_with (go_at_call 53; refine (l1Size_any _ _ _ _ _ (by omega) (by omega) (by omega)).mono ?_; rintro e w3 ⟨m, rfl, m1, m2, rfl⟩)
  go_wp2_with fail
  refine (l8list_any g _ n m _ hc2 (by omega) (by omega) m1 (by omega)).mono ?_
  rintro e w3 ⟨v, L, rfl, ownL, hl1, hrL, hc3, O3⟩
  have B3 := only_then O3 hg B2.size B2
  have hw3 := B3.size
  have hgl3 := hc3.lt
  have hL30 : L.length ≤ 30 := by omega
  have hok : rOk L n = true := (rOk_iff L n).2 ⟨by omega, by omega, by omega, fun x hx => hrL x hx⟩
  obtain ⟨s1, s2, s3, s4⟩ := inv_small hok
  obtain ⟨k, hk⟩ : ∃ k, L.length = k := ⟨_, rfl⟩
  rw [hk] at ownL
  obtain ⟨al, cl, rfl⟩ := own_shape ownL
  have hI := (Ints.ofOwn ownL (by omega) (fun x hx => by have := hrL x hx; omega)).2
  have KI : Calls Try.prog 51 #[.slice al k cl, .int .i64 n] w3 fun e w' => ∃ v0 v1, e = .returned (.tuple #[v0, v1]) ∧ w'.ownsRow w3.heap.size 3 1 v0 (invC L n).length (intsV (invC L n)) ∧ w'.ownsRow w3.heap.size 3 1 v1 (invG L n).length (intsV (invG L n)) ∧ Hid (∀ k, v0.ownBlock = some k → v1.ownBlock ≠ some k) ∧ Below w3.heap.size w3 w' := by
    have := specInv_any al cl _ L n w3 hI (Nat.le_refl _) (by rw [hk]; omega) (by omega) (by omega)
    rw [hk] at this
    exact this
  obtain ⟨C, hC⟩ : ∃ C, invC L n = C := ⟨_, rfl⟩
  obtain ⟨G, hG⟩ : ∃ G, invG L n = G := ⟨_, rfl⟩
  rw [hC] at KI s1 s3
  rw [hG] at KI s2 s4
  have hCn : C.length = n := by omega
  obtain ⟨q, hq⟩ : ∃ q, G.length = q := ⟨_, rfl⟩
  rw [hq] at KI s2
  rw [hCn] at KI
  have HC := hidden hCn
  have HG := hidden hq
  have H3 := hidden s3
  have H4 := hidden s4
  have hq30 : q ≤ 30 := by omega
  clear hC hG hok s1 s2 s3 s4 hk hI ownL hl1 hrL hCn hq hL30 O3 B2 hc2
  go_wp2_with fail
  refine KI.mono ?_
  rintro e w4 ⟨v0, v1, rfl, own0, own1, hd, b4⟩
  have hc4 := hc3.below b4 hgl3
  have B4 := B3.trans (b4.mono hw3)
  have hw4 := B4.size
  obtain ⟨g0, c0, rfl⟩ := Joins.ownsRow_form own0 (by omega)
  obtain ⟨a1, c1, rfl⟩ := own_shape own1
  have hd0 := hd.out g0 rfl
  clear hd KI b4 hc3 B3
  go_wp2_with fail
  refine (l1Below_any g _ 8 _ hc4 (by omega)).mono ?_
  rintro e w5 ⟨p, rfl, p0, p1, _, hc5, O5⟩
  have p2 := p1 (by omega)
  have B5 := only_then O5 hg hw4 B4
  have hw5 := B5.size
  replace own0 := own_only own0 O5 hgl3
  replace own1 := own_only own1 O5 hgl3
  clear p1 O5 B4 hc4
  by_cases q0 : p = 0
  · subst q0
    go_wp2_with fail
    refine (l1Below_any g _ (n : Int) _ hc5 (by omega)).mono ?_
    rintro e w6 ⟨r, rfl, r0, r1, _, hc6, O6⟩
    have r2 := r1 (by omega)
    obtain ⟨t, rfl⟩ : ∃ t : Nat, r = t := ⟨r.toNat, by omega⟩
    have hpn : (t : Int) < (n : Int) := by omega
    have B6 := only_then O6 hg B5.size B5
    replace own0 := own_only own0 O6 hgl3
    replace own1 := own_only own1 O6 hgl3
    have hw6 := B6.size
    clear r1 O6
    go_wp2_with fail
    refine (l1PickInt_any g w.heap.size w6.heap.size 5 _ [0, 1, 2, -1, 600] _ (hc6.alloc _) (by omega) (by omega) (by have := hc6.lt; omega) ?_).mono ?_
    · intro j hj
      rw [(Has.fresh w6 _ _).cell j]
      rcases j with _ | _ | _ | _ | _ | j <;> first | rfl | omega
    rintro e w7 ⟨j, hj, rfl, hc7, O7⟩
    have hpk := pick5c j hj
    obtain ⟨x, hx⟩ : ∃ x, ([0, 1, 2, -1, 600] : List Int).getD j 0 = x := ⟨_, rfl⟩
    rw [hx] at hpk ⊢
    replace own0 := own_only (own0.alloc (.cells #[.int .i64 0, .int .i64 1, .int .i64 2, .int .i64 (-1), .int .i64 600] 3)) O7 hgl3
    replace own1 := own_only (own1.alloc (.cells #[.int .i64 0, .int .i64 1, .int .i64 2, .int .i64 (-1), .int .i64 600] 3)) O7 hgl3
    have B7 := only_then O7 hg (by simp; omega) (B6.alloc B6.size (.cells #[.int .i64 0, .int .i64 1, .int .i64 2, .int .i64 (-1), .int .i64 600] 3))
    clear hx O7
    have d0 := own0.cellAt t (by omega)
    rw [intsV_get C t (by rw [HC.out]; omega)] at d0
    have f0 := own0.frozenAt t
    replace own1 := own1.kept (row := some g0) ((Only.refl g0 w7).store (p := ⟨g0, t, none⟩) (.inl rfl) (.int .i64 x)) (.inr hd0)
    have hg0 := own0.lt g0 rfl
    replace own0 := (own0.stored t (.int .i64 x)).1
    rw [intsV_set] at own0
    have B8 := B7.setCell (p := ⟨g0, t, none⟩) (by show w.heap.size ≤ g0; omega) (.int .i64 x)
    have hI0 := (Ints.ofOwn own0 (by omega) (fun y hy => by
      rcases List.mem_or_eq_of_mem_set hy with h | h
      · have := H3.out y h; omega
      · subst h; omega)).2
    have hI1 := (Ints.ofOwn own1 (by omega) (fun x hx => by have := H4.out x hx; omega)).2
    have hcap1 := own_cap own1
    have hsp1 := own_spot own1
    have hlA : (C.set t x).length = n := by rw [List.length_set, HC.out]
    have hlG : G.length = q := by rw [HG.out]
    go_wp2
    exact bodyPost_ret (v := .tuple #[.slice (some ⟨g0, 0, none⟩) n c0, .slice a1 q c1, .int .i64 (n : Int)]) (by simp [results, Try.results39, go_sem]) rfl ⟨_, (C.set t x), _, _, G, _, (n : Int), by rw [hlA, hlG], by rw [hlA]; omega, by rw [hlG]; omega, hI0, hI1, by rw [hlG]; exact hcap1, hsp1, by omega, by omega, B8⟩
  by_cases q1 : p = 1
  · subst q1
    clear q0
    by_cases hq0 : q = 0
    · subst hq0
      have hI0 := (Ints.ofOwn own0 (by omega) (fun x hx => by have := H3.out x hx; omega)).2
      have hI1 := (Ints.ofOwn own1 (by omega) (fun x hx => by have := H4.out x hx; omega)).2
      have hcap1 := own_cap own1
      have hsp1 := own_spot own1
      have hlA : C.length = n := by rw [HC.out]
      have hlG : G.length = 0 := by rw [HG.out]
      go_wp2
      exact bodyPost_ret (v := .tuple #[.slice (some ⟨g0, 0, none⟩) n c0, .slice a1 0 c1, .int .i64 (n : Int)]) (by simp [results, Try.results39, go_sem]) rfl ⟨_, C, _, _, G, _, (n : Int), by rw [hlA, hlG], by rw [hlA]; omega, by rw [hlG]; omega, hI0, hI1, by rw [hlG]; exact hcap1, hsp1, by omega, by omega, B5⟩
    · have hq1 : 0 < q := by omega
      have hqi : (0 : Int) < (q : Int) := by omega
      obtain ⟨g1, c1', h1e⟩ := Joins.ownsRow_form own1 hq1
      simp only [Value.slice.injEq] at h1e
      obtain ⟨rfl, _, rfl⟩ := h1e
      go_wp2_with fail
      refine (l1Below_any g _ (q : Int) _ hc5 (by omega)).mono ?_
      rintro e w6 ⟨r, rfl, r0, r1, _, hc6, O6⟩
      have r2 := r1 (by omega)
      obtain ⟨t, rfl⟩ : ∃ t : Nat, r = t := ⟨r.toNat, by omega⟩
      have hpn : (t : Int) < (q : Int) := by omega
      have B6 := only_then O6 hg B5.size B5
      replace own0 := own_only own0 O6 hgl3
      replace own1 := own_only own1 O6 hgl3
      have hw6 := B6.size
      clear r1 O6
      go_wp2_with fail
      refine (l1PickInt_any g w.heap.size w6.heap.size 5 _ [0, 1, 5, -1, 4611686018427387904] _ (hc6.alloc _) (by omega) (by omega) (by have := hc6.lt; omega) ?_).mono ?_
      · intro j hj
        rw [(Has.fresh w6 _ _).cell j]
        rcases j with _ | _ | _ | _ | _ | j <;> first | rfl | omega
      rintro e w7 ⟨j, hj, rfl, hc7, O7⟩
      have hpk := pick5g j hj
      obtain ⟨x, hx⟩ : ∃ x, ([0, 1, 5, -1, 4611686018427387904] : List Int).getD j 0 = x := ⟨_, rfl⟩
      rw [hx] at hpk ⊢
      replace own0 := own_only (own0.alloc (.cells #[.int .i64 0, .int .i64 1, .int .i64 5, .int .i64 (-1), .int .i64 4611686018427387904] 3)) O7 hgl3
      replace own1 := own_only (own1.alloc (.cells #[.int .i64 0, .int .i64 1, .int .i64 5, .int .i64 (-1), .int .i64 4611686018427387904] 3)) O7 hgl3
      have B7 := only_then O7 hg (by simp; omega) (B6.alloc B6.size (.cells #[.int .i64 0, .int .i64 1, .int .i64 5, .int .i64 (-1), .int .i64 4611686018427387904] 3))
      clear hx O7
      have d0 := own1.cellAt t (by omega)
      rw [intsV_get G t (by rw [HG.out]; omega)] at d0
      have f0 := own1.frozenAt t
      replace own0 := own0.kept (row := some g1) ((Only.refl g1 w7).store (p := ⟨g1, t, none⟩) (.inl rfl) (.int .i64 x)) (.inr (fun h => hd0 h.symm))
      have hg1 := own1.lt g1 rfl
      replace own1 := (own1.stored t (.int .i64 x)).1
      rw [intsV_set] at own1
      have B8 := B7.setCell (p := ⟨g1, t, none⟩) (by show w.heap.size ≤ g1; omega) (.int .i64 x)
      have hI0 := (Ints.ofOwn own0 (by omega) (fun x hx => by have := H3.out x hx; omega)).2
      have hI1 := (Ints.ofOwn own1 (by omega) (fun y hy => by
        rcases List.mem_or_eq_of_mem_set hy with h | h
        · have := H4.out y h; omega
        · subst h; omega)).2
      have hcap1 := own_cap own1
      have hsp1 := own_spot own1
      have hlA : C.length = n := by rw [HC.out]
      have hlG : (G.set t x).length = q := by rw [List.length_set, HG.out]
      go_wp2
      exact bodyPost_ret (v := .tuple #[.slice (some ⟨g0, 0, none⟩) n c0, .slice (some ⟨g1, 0, none⟩) q c1, .int .i64 (n : Int)]) (by simp [results, Try.results39, go_sem]) rfl ⟨_, C, _, _, (G.set t x), _, (n : Int), by rw [hlA, hlG], by rw [hlA]; omega, by rw [hlG]; omega, hI0, hI1, by rw [hlG]; exact hcap1, hsp1, by omega, by omega, B8⟩
  by_cases q2 : p = 2
  · subst q2
    clear q0 q1
    go_wp2_with fail
    refine (l1PickInt_any g w.heap.size w5.heap.size 3 _ [(n : Int) + 1, 0, 257] _ (hc5.alloc _) (by omega) (by omega) (by have := hc5.lt; omega) ?_).mono ?_
    · intro j hj
      rw [(Has.fresh w5 _ _).cell j]
      rcases j with _ | _ | _ | j <;> first | rfl | omega
    rintro e w7 ⟨j, hj, rfl, hc7, O7⟩
    have hpk := pick3c n (by omega) (by omega) j hj
    obtain ⟨x, hx⟩ : ∃ x, ([(n : Int) + 1, 0, 257] : List Int).getD j 0 = x := ⟨_, rfl⟩
    rw [hx] at hpk ⊢
    replace own0 := own_only (own0.alloc (.cells #[.int .i64 ((n : Int) + 1), .int .i64 0, .int .i64 257] 3)) O7 hgl3
    replace own1 := own_only (own1.alloc (.cells #[.int .i64 ((n : Int) + 1), .int .i64 0, .int .i64 257] 3)) O7 hgl3
    have B7 := only_then O7 hg (by simp; omega) (B5.alloc B5.size (.cells #[.int .i64 ((n : Int) + 1), .int .i64 0, .int .i64 257] 3))
    clear hx O7
    have hI0 := (Ints.ofOwn own0 (by omega) (fun x hx => by have := H3.out x hx; omega)).2
    have hI1 := (Ints.ofOwn own1 (by omega) (fun x hx => by have := H4.out x hx; omega)).2
    have hcap1 := own_cap own1
    have hsp1 := own_spot own1
    have hlA : C.length = n := by rw [HC.out]
    have hlG : G.length = q := by rw [HG.out]
    go_wp2
    exact bodyPost_ret (v := .tuple #[.slice (some ⟨g0, 0, none⟩) n c0, .slice a1 q c1, .int .i64 x]) (by simp [results, Try.results39, go_sem]) rfl ⟨_, C, _, _, G, _, x, by rw [hlA, hlG], by rw [hlA]; omega, by rw [hlG]; omega, hI0, hI1, by rw [hlG]; exact hcap1, hsp1, hpk.1, hpk.2, B7⟩
  by_cases q3 : p = 3
  · subst q3
    clear q0 q1 q2
    go_wp2_with (at_builtin; refine wpList_append_own _ rfl _ _ 22 rfl w3.heap.size 3 i0 (.int .i64 0) 1 8 Try.underlying22 hi hz0 hz1 hz2 rfl (by decide) _ _ _ rfl (own1.alloc _) ⟨w5.heap.size, 0, none⟩ 1 1 [.int .i64 0] rfl rfl ?cb2 ?cb3 ?cb4 ?cb5 ?cb6 ?_)
    case cb2 => exact cell_one' _ _ _
    case cb3 => exact fun u hu => by simp at hu; subst hu; rfl
    case cb4 => unfold maxLen; omega
    case cb5 => omega
    case cb6 => have := own0.lt g0 rfl; simp; omega
    intro v8 w8 own8 hgrow _
    have own8 : w8.ownsRow w3.heap.size 3 1 v8 (q + 1) (intsV (G ++ [0])) := by rw [intsV_snoc]; exact own8
    have B8 : Below w.heap.size w w8 := (B5.alloc hw5 _).grown hgrow (by simp; omega) (fun b hb => by have := (own1.lt b hb).1; omega)
    replace own0 := (own0.alloc (.cells #[.int .i64 0] 3)).kept hgrow (.inr (fun h => hd0 h.symm))
    clear own1 hgrow
    obtain ⟨a8, c8, rfl⟩ := own_shape own8
    have own1 := own8
    have hI0 := (Ints.ofOwn own0 (by omega) (fun x hx => by have := H3.out x hx; omega)).2
    have hI1 := (Ints.ofOwn own1 (by omega) (fun y hy => by
      rcases List.mem_append.1 hy with h | h
      · have := H4.out y h; omega
      · simp at h; subst h; omega)).2
    have hcap1 := own_cap own1
    have hsp1 := own_spot own1
    have hlA : C.length = n := by rw [HC.out]
    have hlG : (G ++ [0]).length = (q + 1) := by simp [HG.out]
    go_wp2
    exact bodyPost_ret (v := .tuple #[.slice (some ⟨g0, 0, none⟩) n c0, .slice a8 (q + 1) c8, .int .i64 (n : Int)]) (by simp [results, Try.results39, go_sem]) rfl ⟨_, C, _, _, (G ++ [0]), _, (n : Int), by rw [hlA, hlG], by rw [hlA]; omega, by rw [hlG]; omega, hI0, hI1, by rw [hlG]; exact hcap1, hsp1, by omega, by omega, B8⟩
  have e0 : (p == 0) = false := by simp [q0]
  have e1' : (p == 1) = false := by simp [q1]
  have e2 : (p == 2) = false := by simp [q2]
  have e3 : (p == 3) = false := by simp [q3]
  clear q0 q1 q2 q3
  have hI0 := (Ints.ofOwn own0 (by omega) (fun x hx => by have := H3.out x hx; omega)).2
  have hI1 := (Ints.ofOwn own1 (by omega) (fun x hx => by have := H4.out x hx; omega)).2
  have hcap1 := own_cap own1
  have hsp1 := own_spot own1
  have hlA : C.length = n := by rw [HC.out]
  have hlG : G.length = q := by rw [HG.out]
  go_wp2
  exact bodyPost_ret (v := .tuple #[.slice (some ⟨g0, 0, none⟩) n c0, .slice a1 q c1, .int .i64 (n : Int)]) (by simp [results, Try.results39, go_sem]) rfl ⟨_, C, _, _, G, _, (n : Int), by rw [hlA, hlG], by rw [hlA]; omega, by rw [hlG]; omega, hI0, hI1, by rw [hlG]; exact hcap1, hsp1, by omega, by omega, B5⟩
end Go.Proofs.Ytpdicijoohahaaa
