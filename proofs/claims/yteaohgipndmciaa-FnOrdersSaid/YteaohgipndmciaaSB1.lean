/- The library's sort at bytes: what a row of bytes holds; the smallest functions (they only read). -/
import Derived.Test.YteaohgipndmciaaMem
import Derived.Test.YteaohgipndmciaaC1LGet
import Derived.Sort.LotD3
import Derived.Sort.LotA
import Derived.Sort.LotB
import Derived.Sort.LotC
import Derived.BigQuiet
import Derived.Deep.QuietTactic
import Derived.Deep.RegionWith
namespace Go.Proofs.Yteaohgipndmciaa
set_option linter.unusedVariables false
set_option linter.unusedSimpArgs false
open Go.RowKit Go.Sort

/-- Block g holds the bytes d from its beginning on, in cap cells in all. -/
def Bs (w : World) (g cap : Nat) (d : Array Int) : Prop := d.size ≤ cap ∧ ∃ cur : Array Value, Has w g 5 cur ∧ cur.size = cap ∧ ∀ j, j < d.size → cur[j]? = some (.int .u8 d[j]!)
theorem Bs.cell {w : World} {g cap : Nat} {d : Array Int} (h : Bs w g cap d) {j : Nat} (hj : j < d.size) : w.cell? ⟨g, j, none⟩ = some (.int .u8 d[j]!) := by
  obtain ⟨_, cur, h1, _, h2⟩ := h
  rw [h1.cell, h2 j hj]
theorem Only.trans {g : Nat} {a b c : World} (h : Only g a b) (k : Only g b c) : Only g a c :=
  ⟨k.os.trans h.os, k.tape.trans h.tape, k.output.trans h.output, Nat.le_trans h.size k.size, fun i hi hne => (k.block i (Nat.lt_of_lt_of_le hi h.size) hne).trans (h.block i hi hne)⟩
theorem Bs.free {w : World} {g cap : Nat} {d : Array Int} (h : Bs w g cap d) (j : Nat) : w.frozen? ⟨g, j, none⟩ = false := by
  obtain ⟨_, cur, h1, _, _⟩ := h
  exact h1.free j
theorem Bs.lt {w : World} {g cap : Nat} {d : Array Int} (h : Bs w g cap d) : g < w.heap.size := by
  obtain ⟨_, cur, h1, _, _⟩ := h
  exact h1.lt
theorem Bs.drewN {w : World} {g cap : Nat} {d : Array Int} (h : Bs w g cap d) (n : Nat) : Bs (w.drewN n) g cap d := h
theorem Bs.drew {w : World} {g cap : Nat} {d : Array Int} (h : Bs w g cap d) : Bs w.drew g cap d := h
theorem Bs.only {w w' : World} {g g' cap : Nat} {d : Array Int} (h : Bs w g cap d) (ho : Only g' w w') (hne : g ≠ g') : Bs w' g cap d := by
  obtain ⟨h0, cur, h1, h2, h3⟩ := h
  exact ⟨h0, cur, ho.has h1 hne, h2, h3⟩
theorem Bs.alloc {w : World} {g cap : Nat} {d : Array Int} (h : Bs w g cap d) (o : Obj) : Bs (w.alloc o) g cap d := by
  obtain ⟨h0, cur, h1, h2, h3⟩ := h
  exact ⟨h0, cur, h1.alloc o, h2, h3⟩
theorem Bs.away {w : World} {g cap : Nat} {d : Array Int} (h : Bs w g cap d) {p : Addr} (hp : g ≠ p.block) (u : Value) : Bs (w.setCell p u) g cap d := by
  obtain ⟨h0, cur, h1, h2, h3⟩ := h
  exact ⟨h0, cur, h1.storeAway hp u, h2, h3⟩
/-- Two bytes change places. -/
theorem Bs.swp {w : World} {g cap : Nat} {d : Array Int} (h : Bs w g cap d) {i j : Nat} (hi : i < d.size) (hj : j < d.size) :
    Bs ((w.setCell ⟨g, i, none⟩ (.int .u8 d[j]!)).setCell ⟨g, j, none⟩ (.int .u8 d[i]!)) g cap (swp d i j) := by
  obtain ⟨h0, cur, h1, h2, h3⟩ := h
  refine ⟨by rw [size_swp]; exact h0, _, (h1.store i _).store j _, by simp [h2], fun k hk => ?_⟩
  rw [size_swp] at hk
  rw [Array.getElem?_setIfInBounds, Array.getElem?_setIfInBounds]
  rw [swp_get d hi hj]
  by_cases h4 : j = k
  · subst h4
    simp [h2]
    omega
  · by_cases h5 : i = k
    · subst h5
      simp [h2, h4]
      exact ⟨by omega, fun e => absurd e.symm h4⟩
    · simp [h4, h5, Ne.symm h4, Ne.symm h5]
      exact h3 k hk

set_option maxHeartbeats 1000000 in
theorem isNaN8_any (x : Int) (w : World) : Calls Try.prog 127 #[.int .u8 x] w fun e w' => e = .returned (.bool false) ∧ w = w' := by
  go_enter Try.func127, Try.ntmps127
  go_wp2
  go_ret
  exact ⟨by simp, rfl⟩
set_option maxHeartbeats 1000000 in
theorem less8_any (x y : Int) (w : World) : Calls Try.prog 119 #[.int .u8 x, .int .u8 y] w fun e w' => e = .returned (.bool (ltInt x y)) ∧ w = w' := by
  go_enter Try.func119, Try.ntmps119
  go_wp2_with (go_at_call 127; refine (isNaN8_any _ _).mono ?_; rintro e w' ⟨rfl, rfl⟩)
  go_ret
  exact ⟨rfl, rfl⟩
set_option maxHeartbeats 4000000 in
set_option maxRecDepth 100000 in
/-- order2: the two places, in one order or the other; the counter grows by one at most. -/
theorem order2_any (d : Array Int) (len : Nat) (hlen : d.size = len) (g cap a b sb s : Nat) (T : TypeId) (w : World) (hB : Bs w g cap d) (ha : a < len) (hb : b < len) (hne : g ≠ sb) (hS : Has w sb T #[.int .i64 s]) (hs : s < 1000) :
    Calls Try.prog 128 #[.slice (some ⟨g, 0, none⟩) len cap, .int .i64 a, .int .i64 b, .pointer (some ⟨sb, 0, none⟩)] w fun e w' =>
      ∃ a' b' s' : Nat, e = .returned (.tuple #[.int .i64 a', .int .i64 b']) ∧ (a' = a ∧ b' = b ∨ a' = b ∧ b' = a) ∧ s' ≤ s + 1 ∧ Has w' sb T #[.int .i64 s'] ∧ Only sb w w' := by
  subst hlen
  have ca := hB.cell ha
  have cb := hB.cell hb
  have cs := hS.cell 0
  have fs := hS.free 0
  simp at cs
  generalize d[a]! = x at ca
  generalize d[b]! = y at cb
  go_enter Try.func128, Try.ntmps128
  go_wp2
  go_quiet ((go_at_call 119; exact quiet_l (less8_any _ _ _)))
  cases hl : ltInt y x
  · go_wp2
    go_ret2
    exact ⟨a, b, s, rfl, .inl ⟨rfl, rfl⟩, by omega, hS.drewN _, (Only.refl _ _).drewN _⟩
  · go_wp2
    go_ret2
    exact ⟨b, a, s + 1, rfl, .inr ⟨rfl, rfl⟩, by omega, by simpa using (hS.drewN _).store 0 (.int .i64 ((s : Int) + 1)), ((Only.refl _ _).drewN _).store (.inl rfl) _⟩
set_option maxHeartbeats 4000000 in
set_option maxRecDepth 100000 in
/-- median: one of the three places; the counter grows by three at most. -/
theorem median_any (d : Array Int) (len : Nat) (hlen : d.size = len) (g cap a b c sb s : Nat) (T : TypeId) (w : World) (hB : Bs w g cap d) (ha : a < len) (hb : b < len) (hc : c < len) (hne : g ≠ sb) (hS : Has w sb T #[.int .i64 s]) (hs : s < 900) :
    Calls Try.prog 126 #[.slice (some ⟨g, 0, none⟩) len cap, .int .i64 a, .int .i64 b, .int .i64 c, .pointer (some ⟨sb, 0, none⟩)] w fun e w' =>
      ∃ p s' : Nat, e = .returned (.int .i64 p) ∧ (p = a ∨ p = b ∨ p = c) ∧ s' ≤ s + 3 ∧ Has w' sb T #[.int .i64 s'] ∧ Only sb w w' := by
  go_enter Try.func126, Try.ntmps126
  go_wp2_with (fail)
  refine (order2_any d len hlen g cap a b sb s T w hB ha hb hne hS (by omega)).mono ?_
  rintro e w1 ⟨a1, b1, s1, rfl, h1, hs1, hS1, ho1⟩
  have hB1 := hB.only ho1 hne
  go_wp2_with (fail)
  refine (order2_any d len hlen g cap b1 c sb s1 T w1 hB1 (by omega) hc hne hS1 (by omega)).mono ?_
  rintro e w2 ⟨b2, c2, s2, rfl, h2, hs2, hS2, ho2⟩
  have hB2 := hB1.only ho2 hne
  go_wp2_with (fail)
  refine (order2_any d len hlen g cap a1 b2 sb s2 T w2 hB2 (by omega) (by omega) hne hS2 (by omega)).mono ?_
  rintro e w3 ⟨a3, b3, s3, rfl, h3, hs3, hS3, ho3⟩
  go_wp2
  go_ret
  exact ⟨b3, s3, rfl, by omega, by omega, hS3, ho1.trans (ho2.trans ho3)⟩
set_option maxHeartbeats 4000000 in
set_option maxRecDepth 100000 in
theorem medianAdj_any (d : Array Int) (len : Nat) (hlen : d.size = len) (g cap a sb s : Nat) (T : TypeId) (w : World) (hB : Bs w g cap d) (h0 : 0 < a) (ha : a + 1 < len) (hz : len < 4611686018427387904) (hne : g ≠ sb) (hS : Has w sb T #[.int .i64 s]) (hs : s < 900) :
    Calls Try.prog 125 #[.slice (some ⟨g, 0, none⟩) len cap, .int .i64 a, .pointer (some ⟨sb, 0, none⟩)] w fun e w' =>
      ∃ p s' : Nat, e = .returned (.int .i64 p) ∧ a ≤ p + 1 ∧ p ≤ a + 1 ∧ s' ≤ s + 3 ∧ Has w' sb T #[.int .i64 s'] ∧ Only sb w w' := by
  obtain ⟨a, rfl⟩ : ∃ k, a = k + 1 := ⟨a - 1, by omega⟩
  have hc := median_any d len hlen g cap a (a + 1) (a + 2) sb s T w hB (by omega) (by omega) ha hne hS hs
  go_enter Try.func125, Try.ntmps125
  go_wp2_with (fail)
  refine (hc).mono ?_
  rintro e w1 ⟨p, s1, rfl, hp, hs1, hS1, ho1⟩
  go_wp2
  go_ret
  exact ⟨p, s1, rfl, by omega, by omega, by omega, hS1, ho1⟩
theorem only_new {g : Nat} {w w' : World} (h : Only g w w') (hg : w.heap.size ≤ g) : Below w.heap.size w w' := h.below hg (Nat.le_refl _)
set_option maxHeartbeats 8000000 in
set_option maxRecDepth 100000 in
/-- choosePivot, of eight bytes or more: a place among them. -/
theorem choosePivot_any (d : Array Int) (len : Nat) (hlen : d.size = len) (g cap a b : Nat) (w : World) (hB : Bs w g cap d) (hab : a + 8 ≤ b) (hb : b ≤ len) (hz : len < 4611686018427387904) :
    Calls Try.prog 116 #[.slice (some ⟨g, 0, none⟩) len cap, .int .i64 a, .int .i64 b] w fun e w' =>
      ∃ p h : Nat, e = .returned (.tuple #[.int .i64 p, .int .i64 h]) ∧ a ≤ p ∧ p < b ∧ h ≤ 2 ∧ Below w.heap.size w w' := by
  obtain ⟨q, hq⟩ : ∃ q, (b - a) / 4 = q := ⟨_, rfl⟩
  have hq2 : ((b : Int) - (a : Int)).tdiv 4 = (q : Int) := by
    rw [Int.tdiv_eq_ediv_of_nonneg (by omega)]
    omega
  have hne : g ≠ w.heap.size := by have := hB.lt; omega
  have hb0 : Below w.heap.size w (w.alloc (.cells #[.int .i64 0] 3)) := (Below.refl _ _).alloc (Nat.le_refl _) _
  have hS0 : Has (w.alloc (.cells #[.int .i64 0] 3)) w.heap.size 3 #[.int .i64 ((0 : Nat) : Int)] := Has.fresh _ _ _
  have hB0 := hB.alloc (.cells #[.int .i64 0] 3)
  go_enter Try.func116, Try.ntmps116
  by_cases h50 : (b : Int) - (a : Int) ≥ 50
  · go_wp2_with (fail)
    refine (medianAdj_any d len hlen g cap (a + q) w.heap.size 0 3 _ hB0 (by omega) (by omega) hz hne hS0 (by omega)).mono ?_
    rintro e w1 ⟨p1, s1, rfl, hp1, hp1', hs1, hS1, ho1⟩
    have hB1 := hB0.only ho1 hne
    go_wp2_with (fail)
    refine (medianAdj_any d len hlen g cap (a + q * 2) w.heap.size s1 3 w1 hB1 (by omega) (by omega) hz hne hS1 (by omega)).mono ?_
    rintro e w2 ⟨p2, s2, rfl, hp2, hp2', hs2, hS2, ho2⟩
    have hB2 := hB1.only ho2 hne
    go_wp2_with (fail)
    refine (medianAdj_any d len hlen g cap (a + q * 3) w.heap.size s2 3 w2 hB2 (by omega) (by omega) hz hne hS2 (by omega)).mono ?_
    rintro e w3 ⟨p3, s3, rfl, hp3, hp3', hs3, hS3, ho3⟩
    have hB3 := hB2.only ho3 hne
    go_wp2_with (fail)
    refine (median_any d len hlen g cap p1 p2 p3 w.heap.size s3 3 w3 hB3 (by omega) (by omega) (by omega) hne hS3 (by omega)).mono ?_
    rintro e w4 ⟨p, s4, rfl, hp, hs4, hS4, ho4⟩
    have hO := only_new ((Only.alloc (Only.refl w.heap.size w) (.cells #[.int .i64 0] 3)).trans (ho1.trans (ho2.trans (ho3.trans ho4)))) (Nat.le_refl _)
    have hc := hS4.cell 0
    simp at hc
    go_wp2
    all_goals go_ret2
    all_goals first
      | exact ⟨p, 0, rfl, by omega, by omega, by omega, hO⟩
      | exact ⟨p, 1, rfl, by omega, by omega, by omega, hO⟩
      | exact ⟨p, 2, rfl, by omega, by omega, by omega, hO⟩
  · go_wp2_with (fail)
    refine (median_any d len hlen g cap (a + q) (a + q * 2) (a + q * 3) w.heap.size 0 3 _ hB0 (by omega) (by omega) (by omega) hne hS0 (by omega)).mono ?_
    rintro e w4 ⟨p, s4, rfl, hp, hs4, hS4, ho4⟩
    have hO := only_new ((Only.alloc (Only.refl w.heap.size w) (.cells #[.int .i64 0] 3)).trans ho4) (Nat.le_refl _)
    have hc := hS4.cell 0
    simp at hc
    go_wp2
    all_goals go_ret2
    all_goals first
      | exact ⟨p, 0, rfl, by omega, by omega, by omega, hO⟩
      | exact ⟨p, 1, rfl, by omega, by omega, by omega, hO⟩
      | exact ⟨p, 2, rfl, by omega, by omega, by omega, hO⟩
end Go.Proofs.Yteaohgipndmciaa
