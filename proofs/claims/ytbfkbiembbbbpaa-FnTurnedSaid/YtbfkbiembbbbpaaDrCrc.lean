/- The draws of chapter 2. -/
import Derived.Test.YtbfkbiembbbbpaaDr2
import Derived.Test.YtbfkbiembbbbpaaAt
namespace Go.Proofs.Ytbfkbiembbbbpaa
set_option linter.unusedVariables false
set_option linter.unusedSimpArgs false
open Go.RowKit

theorem pick6 (j : Nat) (h : j < 6) : -1 ≤ ([-1, 0, 1, 4294967295, 4294967296, 2147483648] : List Int).getD j 0 ∧ ([-1, 0, 1, 4294967295, 4294967296, 2147483648] : List Int).getD j 0 ≤ 4294967296 := by
  rcases j with _ | _ | _ | _ | _ | _ | j <;> simp <;> omega
set_option maxHeartbeats 1000000 in
theorem l2draw_any (g B : Nat) (w : World) (hc : Cur w g B) :
    Calls Try.prog 53 #[.pointer (some ⟨g, 0, none⟩)] w fun e w' => ∃ x : Int, e = .returned (.int .i64 x) ∧ -1 ≤ x ∧ x ≤ 4294967296 ∧ Cur w' g B ∧ Only g w w' := by
  have hgl := hc.lt
  go_enter Try.func53, Try.ntmps53
  go_wp2_with fail
  refine (l1Once_any g B 6 _ hc (by omega)).mono ?_
  rintro e wa ⟨b, rfl, ha, Oa⟩
  have hga := ha.lt
  cases b
  · go_wp2_with fail
    refine (l1Below_any g B 4294967296 _ ha (by omega)).mono ?_
    rintro e wb ⟨r, rfl, hr0, hr1, _, hb, Ob⟩
    have hr2 := hr1 (by omega)
    go_wp2
    go_ret
    exact ⟨r, rfl, by omega, by omega, hb, Oa.trans_ Ob⟩
  · go_wp2_with fail
    refine (l1PickInt_any g B wa.heap.size 6 _ [-1, 0, 1, 4294967295, 4294967296, 2147483648] _ (ha.alloc _) (by omega) (by omega) (by omega) ?_).mono ?_
    · intro j hj
      rw [(Has.fresh wa _ _).cell j]
      rcases j with _ | _ | _ | _ | _ | _ | j <;> first | rfl | omega
    rintro e wb ⟨j, hj, rfl, hb, Ob⟩
    have hp := pick6 j hj
    obtain ⟨x, hx⟩ : ∃ x, ([-1, 0, 1, 4294967295, 4294967296, 2147483648] : List Int).getD j 0 = x := ⟨_, rfl⟩
    rw [hx] at hp ⊢
    clear hx
    go_wp2
    go_ret
    exact ⟨_, rfl, hp.1, hp.2, hb, (Oa.alloc _).trans_ Ob⟩

theorem l1Size_any (a : Option Addr) (len cap : Nat) (m : Int) (w : World) (hl : len ≤ 9223372036854775807) (h0 : 0 ≤ m) (h1 : m ≤ 1000) :
    Calls Try.prog 55 #[.slice a len cap, .int .i64 m] w fun e w' => ∃ x : Int, e = .returned (.int .i64 x) ∧ 0 ≤ x ∧ x ≤ m ∧ w = w' := by
  by_cases h : m < 2 + (len : Int) / 20
  · go_enter Try.func55, Try.ntmps55
    go_wp2
    go_ret
    exact ⟨m, rfl, by omega, by omega, rfl⟩
  · go_enter Try.func55, Try.ntmps55
    go_wp2
    go_ret
    exact ⟨_, rfl, by omega, by omega, rfl⟩

set_option maxHeartbeats 1000000 in
theorem drawCrcStep_any (a : Option Addr) (len cap : Nat) (zs : List Int) (w : World) (hcode : Code w w.heap.size a len cap zs) :
    Calls Try.prog 27 #[.slice a len cap] w fun e w' => ∃ m b : Int, e = .returned (.tuple #[.int .i64 m, .int .i64 b]) ∧ -1 ≤ m ∧ m ≤ 4294967296 ∧ -1 ≤ b ∧ b ≤ 256 ∧ Below w.heap.size w w' := by
  go_enter Try.func27, Try.ntmps27
  go_wp2_with fail
  refine (l1New_any a len cap zs _ hcode).mono ?_
  rintro e wa ⟨g, rfl, hcu, Ba⟩
  have hg := hcu.1
  have hga := hcu.lt
  go_wp2_with fail
  refine (l2draw_any g _ _ hcu).mono ?_
  rintro e wb ⟨m, rfl, hm0, hm1, hb, Ob⟩
  go_wp2_with fail
  refine (l1Below_any g _ 258 _ hb (by omega)).mono ?_
  rintro e wc ⟨r, rfl, hr0, hr1, _, hc, Oc⟩
  have hr2 := hr1 (by omega)
  go_wp2
  refine bodyPost_ret (v := .tuple #[.int .i64 m, .int .i64 (r - 1)]) (by simp [results, Try.results27, go_sem]) rfl ?_
  exact ⟨m, _, rfl, hm0, hm1, by omega, by omega, only_then (Ob.trans_ Oc) hg Ba.size Ba⟩

set_option maxHeartbeats 1000000 in
theorem drawCrcFrom_any (a : Option Addr) (len cap : Nat) (zs : List Int) (w : World) (hcode : Code w w.heap.size a len cap zs) :
    Calls Try.prog 22 #[.slice a len cap] w fun e w' => ∃ (m : Int) (s : ByteArray), e = .returned (.tuple #[.int .i64 m, .string s]) ∧ -1 ≤ m ∧ m ≤ 4294967296 ∧ s.size ≤ 1000 ∧ Below w.heap.size w w' := by
  have hl := hcode.1
  go_enter Try.func22, Try.ntmps22
  go_wp2_with fail
  refine (l1New_any a len cap zs _ hcode).mono ?_
  rintro e wa ⟨g, rfl, hcu, Ba⟩
  have hg := hcu.1
  have hga := hcu.lt
  go_wp2_with fail
  refine (l2draw_any g _ _ hcu).mono ?_
  rintro e wb ⟨m, rfl, hm0, hm1, hb, Ob⟩
  go_wp2_with fail
  refine (l1Size_any a len cap 40 _ hl (by omega) (by omega)).mono ?_
  rintro e w' ⟨x, rfl, hx0, hx1, rfl⟩
  go_wp2_with fail
  refine (l1Below_any g _ x _ hb (by omega)).mono ?_
  rintro e wc ⟨r, rfl, hr0, hr1, hr2, hc, Oc⟩
  have hr40 : 0 ≤ r ∧ r ≤ 40 := by
    by_cases hx : 0 < x
    · have := hr1 hx; omega
    · have := hr2 (by omega); omega
  clear hr1 hr2
  go_wp2_with fail
  refine (l1wild_any g _ r _ hc (by omega)).mono ?_
  rintro e wd ⟨s, rfl, hs, hd, Od⟩
  go_wp2
  refine bodyPost_ret (v := .tuple #[.int .i64 m, .string s]) (by simp [results, Try.results22, go_sem]) rfl ?_
  exact ⟨m, s, rfl, hm0, hm1, by omega, only_then ((Ob.trans_ Oc).trans_ Od) hg Ba.size Ba⟩

set_option maxHeartbeats 1000000 in
theorem drawCrc_any (a : Option Addr) (len cap : Nat) (zs : List Int) (w : World) (hcode : Code w w.heap.size a len cap zs) :
    Calls Try.prog 31 #[.slice a len cap] w fun e w' => ∃ (s : ByteArray), e = .returned (.string s) ∧ s.size ≤ 1000 ∧ Below w.heap.size w w' := by
  have hl := hcode.1
  go_enter Try.func31, Try.ntmps31
  go_wp2_with fail
  refine (l1New_any a len cap zs _ hcode).mono ?_
  rintro e wa ⟨g, rfl, hcu, Ba⟩
  have hg := hcu.1
  have hga := hcu.lt
  go_wp2_with fail
  refine (l1Size_any a len cap 60 _ hl (by omega) (by omega)).mono ?_
  rintro e w' ⟨x, rfl, hx0, hx1, rfl⟩
  go_wp2_with fail
  refine (l1Below_any g _ x _ hcu (by omega)).mono ?_
  rintro e wc ⟨r, rfl, hr0, hr1, hr2, hc, Oc⟩
  have hr40 : 0 ≤ r ∧ r ≤ 60 := by
    by_cases hx : 0 < x
    · have := hr1 hx; omega
    · have := hr2 (by omega); omega
  clear hr1 hr2
  go_wp2_with fail
  refine (l1wild_any g _ r _ hc (by omega)).mono ?_
  rintro e wd ⟨s, rfl, hs, hd, Od⟩
  go_wp2
  go_ret
  exact ⟨s, rfl, by omega, only_then (Oc.trans_ Od) hg Ba.size Ba⟩
end Go.Proofs.Ytbfkbiembbbbpaa
