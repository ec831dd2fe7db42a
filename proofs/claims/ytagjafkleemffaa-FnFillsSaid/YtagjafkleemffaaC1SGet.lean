/- Chapter 1: Get of the model. -/
import Derived.Test.YtagjafkleemffaaC1Get2
namespace Go.Proofs.Ytagjafkleemffaa
set_option linter.unusedVariables false
set_option linter.unusedSimpArgs false
open Go.RowKit

theorem quiet_add_l {P : Program} {f : FuncId} {args : Array Value} {w : World} {a n : Nat} {v : Value}
    (h : Calls P f args (w.drewN (a + n)) fun e w' => e = .returned v ∧ w.drewN (a + n) = w') :
    Calls P f args (w.drewN (a + n)) fun e w'' => e = .returned v ∧ ∃ m, w'' = w.drewN (a + m) :=
  h.mono fun _ _ ⟨he, hm⟩ => ⟨he, n, hm.symm⟩
theorem quiet_l {P : Program} {f : FuncId} {args : Array Value} {w : World} {n : Nat} {v : Value}
    (h : Calls P f args (w.drewN n) fun e w' => e = .returned v ∧ w.drewN n = w') : Calls P f args (w.drewN n) fun e w'' => e = .returned v ∧ ∃ m, w'' = w.drewN m :=
  h.mono fun _ _ ⟨he, hm⟩ => ⟨he, n, hm.symm⟩

set_option maxHeartbeats 1000000 in
theorem l1get_yes (s : ByteArray) (at0 n0 b : Nat) (T : TypeId) (w : World) (hs : s.size ≤ 1048576) (hn : n0 ≤ 32) (hl : at0 + n0 ≤ 8 * s.size)
    (hb : Has w b T #[.string s, .int .i64 at0]) :
    Calls Try.prog 62 #[.pointer (some ⟨b, 0, none⟩), .int .i64 n0] w fun e w' =>
      e = .returned (.int .i64 (num (row s at0 n0))) ∧ Has w' b T #[.string s, .int .i64 ((at0 + n0 : Nat) : Int)] ∧ Only b w w' := by
  have c0 := hb.cell 0
  have c1 := hb.cell 1
  simp at c0 c1
  have hx : ¬ (8 * (s.size : Int) - at0 < n0) := by omega
  go_enter Try.func62, Try.ntmps62
  go_wp2
  go_quiet (fail)
  go_wp2
  go_loopw [5, 6] (fun v i wr => ∃ k : Nat, k ≤ n0 ∧ i = .int .i64 k ∧ v = .int .i64 (num (row s at0 k)) ∧ Has wr b T #[.string s, .int .i64 at0] ∧ Only b w wr) (fun _ i _ => n0 - (intOf i).toNat)
  case atStart => exact ⟨0, Nat.zero_le _, rfl, rfl, hb.drewN _, (Only.refl _ _).drewN _⟩
  case round =>
    obtain ⟨k, hk, rfl, rfl, hB, hO⟩ := hrel
    clear c0 c1
    have c0 := hB.cell 0
    have c1 := hB.cell 1
    have f1 := hB.free 1
    simp at c0 c1
    by_cases hlt : k < n0
    · have hv : num (row s at0 k) < 2 ^ 32 := Nat.lt_of_lt_of_le (num_row_lt s at0 k) (Nat.pow_le_pow_right (by omega) (by omega))
      have hbt := bit_lt s (at0 + k)
      have hnx := hidden (num_row_succ s at0 k)
      go_wp2
      have q1 : IntKind.i64.wrap ((at0 : Int) + (k : Int)) = ((at0 + k : Nat) : Int) := by rw [← Int.natCast_add]; exact wrap_i64_n _ (by omega)
      go_quiet ((go_at_call 60; exact quiet_l (l1one_any s (at0 + k) _ (by unfold maxLen; omega) (by omega))))
      go_wp2
      refine ⟨⟨k + 1, by omega, by go_num, ?_, hB.drewN _, hO.drewN _⟩, by simp [intOf]; omega⟩
      rw [hnx.out]; simp
    · have hkn : k = n0 := by omega
      subst hkn
      go_wp2
      go_ret
      refine ⟨rfl, ?_, hO.store (.inl rfl) _⟩
      have := hB.store 1 (.int .i64 (↑at0 + ↑k))
      simpa using this

theorem l1get_no (s : ByteArray) (at0 n0 b : Nat) (T : TypeId) (w : World) (hs : s.size ≤ 1048576) (hn : n0 ≤ 32) (ha : at0 ≤ 8 * s.size) (hl : 8 * s.size < at0 + n0)
    (hb : Has w b T #[.string s, .int .i64 at0]) :
    Calls Try.prog 62 #[.pointer (some ⟨b, 0, none⟩), .int .i64 n0] w fun e w' => e = .returned (.int .i64 (-1)) ∧ Only b w w' := by
  have c0 := hb.cell 0
  have c1 := hb.cell 1
  simp at c0 c1
  have hx : (8 * (s.size : Int) - at0 < n0) := by omega
  go_enter Try.func62, Try.ntmps62
  go_wp2
  go_quiet (fail)
  go_wp2
  go_ret
  exact ⟨rfl, (Only.refl _ _).drewN _⟩

set_option maxHeartbeats 1000000 in
theorem specGet_yes (s : ByteArray) (a n : Nat) (w : World) (hs : s.size ≤ 1048576) (hn : n ≤ 32) (hl : a + n ≤ 8 * s.size) :
    Calls Try.prog 32 #[.agg #[.string s, .int .i64 a], .int .i64 n] w fun e w' =>
      e = .returned (.tuple #[.int .i64 (num (row s a n)), .agg #[.string s, .int .i64 ((a + n : Nat) : Int)], .bool true]) ∧ Below w.heap.size w w' := by
  have hnn : ((num (row s a n) : Nat) : Int) < 0 → False := by omega
  go_enter Try.func32, Try.ntmps32
  go_wp2_with (go_at_call 40; refine (specRdOk_yes _ _ _ hs (by omega)).mono ?_; rintro e w1 ⟨rfl, hb⟩; obtain ⟨hc, hf⟩ := bcell hb; have hz : w.heap.size + 1 < w1.heap.size := by (have := hb.size; simp at this; omega))
  have hP := (((Has.fresh w 31 #[.string s, .int .i64 a]).alloc (.cells #[.string ⟨#[]⟩, .int .i64 0] 31)).below hb (by (try simp); (try omega)))
  have hR := ((Has.freshAt (by simp) 31 #[.string ⟨#[]⟩, .int .i64 0] : Has ((w.alloc (.cells #[.string s, .int .i64 a] 31)).alloc _) (w.heap.size + 1) _ _).below hb (by (try simp); (try omega)))
  refine (l1get_yes s a n _ _ _ hs hn hl hP).mono ?_
  rintro e w2 ⟨rfl, hB2, hO2⟩
  have hR2 := hO2.has hR (by omega)
  have d0 := hB2.cell 0
  have d1 := hB2.cell 1
  have e0 := hR2.cell 0
  have e1 := hR2.cell 1
  have g0 := hR2.free 0
  have g1 := hR2.free 1
  simp at d0 d1 e0 e1
  have hz3 : w.heap.size + 1 < w2.heap.size := by have := hO2.size; omega
  clear hB2 hR2 hP hR hc hf
  go_wp2
  go_region
  all_goals go_wp2
  all_goals
    refine bodyPost_ret (v := .tuple #[.int .i64 (num (row s a n)), .agg #[.string s, .int .i64 ((a + n : Nat) : Int)], .bool true]) (by simp [results, Try.results32, go_sem, d0, d1, e0, e1, g0, g1]) rfl ⟨rfl, ?_⟩
    repeat (first | exact Below.refl _ _ | refine Below.alloc ?_ (by (try simp); (try omega)) _ | refine Below.setCell ?_ (by (try simp); (try omega)) _ | refine Below.drew ?_ | refine bel_then (by assumption) (by (try simp); (try omega)) ?_ | refine only_then (by assumption) (by (try simp); (try omega)) (by (try simp); (try omega)) ?_)

set_option maxHeartbeats 1000000 in
theorem specGet_no (s : ByteArray) (a n : Int) (w : World) (hs : s.size ≤ 1048576) (b1 : -9223372036854775808 ≤ a) (b2 : a ≤ 9223372036854775807) (h : ¬ (0 ≤ a ∧ 0 ≤ n ∧ n ≤ 32 ∧ a + n ≤ 8 * s.size)) :
    Calls Try.prog 32 #[.agg #[.string s, .int .i64 a], .int .i64 n] w fun e w' =>
      e = .returned (.tuple #[.int .i64 0, .agg #[.string ⟨#[]⟩, .int .i64 0], .bool false]) ∧ Below w.heap.size w w' := by
  by_cases h2 : 0 ≤ a ∧ a ≤ 8 * s.size
  · obtain ⟨a, rfl⟩ : ∃ k : Nat, a = k := ⟨a.toNat, by omega⟩
    have h4 : a ≤ 8 * s.size := by omega
    by_cases h0 : n < 0 ∨ 32 < n
    · clear h h2
      rcases h0 with h0 | h0
      all_goals
        go_enter Try.func32, Try.ntmps32
        go_wp2_with (go_at_call 40; refine (specRdOk_yes _ _ _ hs h4).mono ?_; rintro e w1 ⟨rfl, hb⟩; obtain ⟨hc, hf⟩ := bcell hb; have hz : w.heap.size + 1 < w1.heap.size := by (have := hb.size; simp at this; omega))
        refine bodyPost_ret (v := .tuple #[.int .i64 0, .agg #[.string ⟨#[]⟩, .int .i64 0], .bool false]) (by simp [results, Try.results32, go_sem, hc]) rfl ⟨rfl, ?_⟩
        repeat (first | exact Below.refl _ _ | refine Below.alloc ?_ (by (try simp); (try omega)) _ | refine Below.setCell ?_ (by (try simp); (try omega)) _ | refine Below.drew ?_ | refine bel_then (by assumption) (by (try simp); (try omega)) ?_ | refine only_then (by assumption) (by (try simp); (try omega)) (by (try simp); (try omega)) ?_)
    · obtain ⟨n, rfl⟩ : ∃ k : Nat, n = k := ⟨n.toNat, by omega⟩
      have h5 : 8 * s.size < a + n := by omega
      have h6 : n ≤ 32 := by omega
      clear h h2 h0
      go_enter Try.func32, Try.ntmps32
      go_wp2_with (go_at_call 40; refine (specRdOk_yes _ _ _ hs h4).mono ?_; rintro e w1 ⟨rfl, hb⟩; obtain ⟨hc, hf⟩ := bcell hb; have hz : w.heap.size + 1 < w1.heap.size := by (have := hb.size; simp at this; omega))
      have hP := (((Has.fresh w 31 #[.string s, .int .i64 a]).alloc (.cells #[.string ⟨#[]⟩, .int .i64 0] 31)).below hb (by (try simp); (try omega)))
      have hR := ((Has.freshAt (by simp) 31 #[.string ⟨#[]⟩, .int .i64 0] : Has ((w.alloc (.cells #[.string s, .int .i64 a] 31)).alloc _) (w.heap.size + 1) _ _).below hb (by (try simp); (try omega)))
      refine (l1get_no s a n _ _ _ hs h6 h4 h5 hP).mono ?_
      rintro e w2 ⟨rfl, hO2⟩
      have hR2 := hO2.has hR (by omega)
      have e0 := hR2.cell 0
      have e1 := hR2.cell 1
      have g0 := hR2.free 0
      have g1 := hR2.free 1
      simp at e0 e1
      have hz3 : w.heap.size + 1 < w2.heap.size := by have := hO2.size; omega
      clear hR2 hP hR hc hf
      go_wp2
      refine bodyPost_ret (v := .tuple #[.int .i64 0, .agg #[.string ⟨#[]⟩, .int .i64 0], .bool false]) (by simp [results, Try.results32, go_sem, e0, e1, g0, g1]) rfl ⟨rfl, ?_⟩
      repeat (first | exact Below.refl _ _ | refine Below.alloc ?_ (by (try simp); (try omega)) _ | refine Below.setCell ?_ (by (try simp); (try omega)) _ | refine Below.drew ?_ | refine bel_then (by assumption) (by (try simp); (try omega)) ?_ | refine only_then (by assumption) (by (try simp); (try omega)) (by (try simp); (try omega)) ?_)
  · have h2' := hidden h2
    clear h h2
    go_enter Try.func32, Try.ntmps32
    go_wp2_with (go_at_call 40; refine (specRdOk_no _ _ _ hs b1 b2 h2'.out).mono ?_; rintro e w1 ⟨rfl, hb⟩; obtain ⟨hc, hf⟩ := bcell hb; have hz : w.heap.size + 1 < w1.heap.size := by (have := hb.size; simp at this; omega))
    refine bodyPost_ret (v := .tuple #[.int .i64 0, .agg #[.string ⟨#[]⟩, .int .i64 0], .bool false]) (by simp [results, Try.results32, go_sem, hc]) rfl ⟨rfl, ?_⟩
    repeat (first | exact Below.refl _ _ | refine Below.alloc ?_ (by (try simp); (try omega)) _ | refine Below.setCell ?_ (by (try simp); (try omega)) _ | refine Below.drew ?_ | refine bel_then (by assumption) (by (try simp); (try omega)) ?_ | refine only_then (by assumption) (by (try simp); (try omega)) (by (try simp); (try omega)) ?_)
end Go.Proofs.Ytagjafkleemffaa
