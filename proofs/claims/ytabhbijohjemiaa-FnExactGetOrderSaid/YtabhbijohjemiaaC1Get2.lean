/- Chapter 1: Left and Get of the program. -/
import Derived.Test.YtabhbijohjemiaaC1Get
import Derived.Test.YtabhbijohjemiaaC1Ok
import Derived.Test.YtabhbijohjemiaaC1One
import Derived.Test.YtabhbijohjemiaaC1IRd
namespace Go.Proofs.Ytabhbijohjemiaa
set_option linter.unusedVariables false
set_option linter.unusedSimpArgs false
open Go.RowKit

theorem implLeft_yes (s : ByteArray) (a : Nat) (w : World) (hs : s.size ≤ 1048576) (hl : a ≤ 8 * s.size) :
    Calls Try.prog 92 #[.agg #[.string s, .int .i64 a]] w fun e w' => e = .returned (.int .i64 (8 * (s.size : Int) - a)) ∧ Below w.heap.size w w' := by
  go_enter Try.func92, Try.ntmps92
  go_wp2_with (go_at_call 103; refine (implRdOk_yes _ _ _ hs hl).mono ?_; rintro e w1 ⟨rfl, hb⟩; obtain ⟨hc, hf⟩ := bcell hb; have hz : w.heap.size < w1.heap.size := by (have := hb.size; simp at this; omega))
  go_ret
  refine ⟨rfl, ?_⟩
  repeat (first | exact Below.refl _ _ | refine Below.alloc ?_ (by (try simp); (try omega)) _ | refine Below.setCell ?_ (by (try simp); (try omega)) _ | refine Below.drew ?_ | refine bel_then (by assumption) (by (try simp); (try omega)) ?_)
theorem implLeft_no (s : ByteArray) (a : Int) (w : World) (hs : s.size ≤ 1048576) (b1 : -9223372036854775808 ≤ a) (b2 : a ≤ 9223372036854775807) (h : ¬ (0 ≤ a ∧ a ≤ 8 * s.size)) :
    Calls Try.prog 92 #[.agg #[.string s, .int .i64 a]] w fun e w' => e = .returned (.int .i64 (-1)) ∧ Below w.heap.size w w' := by
  have h' := hidden h; clear h
  go_enter Try.func92, Try.ntmps92
  go_wp2_with (go_at_call 103; refine (implRdOk_no _ _ _ hs b1 b2 h'.out).mono ?_; rintro e w1 ⟨rfl, hb⟩; obtain ⟨hc, hf⟩ := bcell hb; have hz : w.heap.size < w1.heap.size := by (have := hb.size; simp at this; omega))
  go_ret
  refine ⟨rfl, ?_⟩
  repeat (first | exact Below.refl _ _ | refine Below.alloc ?_ (by (try simp); (try omega)) _ | refine Below.setCell ?_ (by (try simp); (try omega)) _ | refine Below.drew ?_ | refine bel_then (by assumption) (by (try simp); (try omega)) ?_)

set_option maxHeartbeats 1000000 in
set_option maxRecDepth 100000 in
theorem implGet_yes (s : ByteArray) (a n : Nat) (w : World) (hs : s.size ≤ 1048576) (hn : n ≤ 32) (hl : a + n ≤ 8 * s.size) :
    Calls Try.prog 73 #[.agg #[.string s, .int .i64 a], .int .i64 n] w fun e w' =>
      e = .returned (.tuple #[.int .i64 (num (row s a n)), .agg #[.string s, .int .i64 ((a + n : Nat) : Int)], .bool true]) ∧ Below w.heap.size w w' := by
  go_enter Try.func73, Try.ntmps73
  go_wp2_with (go_at_call 92; refine (implLeft_yes _ _ _ hs (by omega)).mono ?_; rintro e w1 ⟨rfl, hb⟩; obtain ⟨hc, hf⟩ := bcell hb; have hz : w.heap.size + 1 < w1.heap.size := by (have := hb.size; simp at this; omega))
  refine (take_any s a n _ _ _ hs hn hl (Has.fresh _ _ _)).mono ?_
  rintro e w2 ⟨rfl, hB2, hO2⟩
  obtain ⟨hc2, hf2⟩ := ocell hO2
  have d0 := hB2.cell 0
  have d1 := hB2.cell 1
  simp at d0 d1
  have hz2 : w1.heap.size < w2.heap.size := by have := hO2.size; simp at this; omega
  have hz3 : w.heap.size + 1 < w2.heap.size := by omega
  have hz4 : w.heap.size + 1 ≠ w1.heap.size := by omega
  have hR := hO2.has (((Has.freshAt (by simp) 30 #[.string ⟨#[]⟩, .int .i64 0] : Has ((w.alloc (.cells #[.string s, .int .i64 a] 30)).alloc _) (w.heap.size + 1) _ _).below hb (by simp)).alloc (.cells #[.string s, .int .i64 a] 110)) hz4
  have e0 := hR.cell 0
  have e1 := hR.cell 1
  have g0 := hR.free 0
  have g1 := hR.free 1
  simp at e0 e1
  clear hB2 hc2 hf2 hc hf
  go_wp2
  go_region
  all_goals go_wp2
  all_goals
    refine bodyPost_ret (v := .tuple #[.int .i64 (num (row s a n)), .agg #[.string s, .int .i64 ((a + n : Nat) : Int)], .bool true]) (by simp [results, Try.results73, go_sem, d0, d1, e0, e1, g0, g1]) rfl ⟨rfl, ?_⟩
    repeat (first | exact Below.refl _ _ | refine Below.alloc ?_ (by (try simp); (try omega)) _ | refine Below.setCell ?_ (by (try simp); (try omega)) _ | refine Below.drew ?_ | refine bel_then (by assumption) (by (try simp); (try omega)) ?_ | refine only_then (by assumption) (by (try simp); (try omega)) (by (try simp); (try omega)) ?_)

set_option maxHeartbeats 1000000 in
set_option maxRecDepth 100000 in
theorem implGet_no (s : ByteArray) (a n : Int) (w : World) (hs : s.size ≤ 1048576) (b1 : -9223372036854775808 ≤ a) (b2 : a ≤ 9223372036854775807) (h : ¬ (0 ≤ a ∧ 0 ≤ n ∧ n ≤ 32 ∧ a + n ≤ 8 * s.size)) :
    Calls Try.prog 73 #[.agg #[.string s, .int .i64 a], .int .i64 n] w fun e w' =>
      e = .returned (.tuple #[.int .i64 0, .agg #[.string ⟨#[]⟩, .int .i64 0], .bool false]) ∧ Below w.heap.size w w' := by
  by_cases h0 : n < 0
  · go_enter Try.func73, Try.ntmps73
    go_wp2
    refine bodyPost_ret (v := .tuple #[.int .i64 0, .agg #[.string ⟨#[]⟩, .int .i64 0], .bool false]) (by simp [results, Try.results73, go_sem]) rfl ⟨rfl, ?_⟩
    repeat (first | exact Below.refl _ _ | refine Below.alloc ?_ (by (try simp); (try omega)) _ | refine Below.setCell ?_ (by (try simp); (try omega)) _ | refine Below.drew ?_ | refine bel_then (by assumption) (by (try simp); (try omega)) ?_ | refine only_then (by assumption) (by (try simp); (try omega)) (by (try simp); (try omega)) ?_)
  · by_cases h1 : 32 < n
    · go_enter Try.func73, Try.ntmps73
      go_wp2
      refine bodyPost_ret (v := .tuple #[.int .i64 0, .agg #[.string ⟨#[]⟩, .int .i64 0], .bool false]) (by simp [results, Try.results73, go_sem]) rfl ⟨rfl, ?_⟩
      repeat (first | exact Below.refl _ _ | refine Below.alloc ?_ (by (try simp); (try omega)) _ | refine Below.setCell ?_ (by (try simp); (try omega)) _ | refine Below.drew ?_ | refine bel_then (by assumption) (by (try simp); (try omega)) ?_ | refine only_then (by assumption) (by (try simp); (try omega)) (by (try simp); (try omega)) ?_)
    · by_cases h2 : 0 ≤ a ∧ a ≤ 8 * s.size
      · obtain ⟨a, rfl⟩ : ∃ k : Nat, a = k := ⟨a.toNat, by omega⟩
        have h3 : 8 * (s.size : Int) - a < n := by omega
        have h4 : a ≤ 8 * s.size := by omega
        clear h h2
        go_enter Try.func73, Try.ntmps73
        go_wp2_with (go_at_call 92; refine (implLeft_yes _ _ _ hs h4).mono ?_; rintro e w1 ⟨rfl, hb⟩; obtain ⟨hc, hf⟩ := bcell hb; have hz : w.heap.size + 1 < w1.heap.size := by (have := hb.size; simp at this; omega))
        refine bodyPost_ret (v := .tuple #[.int .i64 0, .agg #[.string ⟨#[]⟩, .int .i64 0], .bool false]) (by simp [results, Try.results73, go_sem, hc, hf, hz]) rfl ⟨rfl, ?_⟩
        repeat (first | exact Below.refl _ _ | refine Below.alloc ?_ (by (try simp); (try omega)) _ | refine Below.setCell ?_ (by (try simp); (try omega)) _ | refine Below.drew ?_ | refine bel_then (by assumption) (by (try simp); (try omega)) ?_ | refine only_then (by assumption) (by (try simp); (try omega)) (by (try simp); (try omega)) ?_)
      · have h2' := hidden h2
        have h3 : (-1 : Int) < n := by omega
        clear h h2
        go_enter Try.func73, Try.ntmps73
        go_wp2_with (go_at_call 92; refine (implLeft_no _ _ _ hs b1 b2 h2'.out).mono ?_; rintro e w1 ⟨rfl, hb⟩; obtain ⟨hc, hf⟩ := bcell hb; have hz : w.heap.size + 1 < w1.heap.size := by (have := hb.size; simp at this; omega))
        refine bodyPost_ret (v := .tuple #[.int .i64 0, .agg #[.string ⟨#[]⟩, .int .i64 0], .bool false]) (by simp [results, Try.results73, go_sem, hc, hf, hz]) rfl ⟨rfl, ?_⟩
        repeat (first | exact Below.refl _ _ | refine Below.alloc ?_ (by (try simp); (try omega)) _ | refine Below.setCell ?_ (by (try simp); (try omega)) _ | refine Below.drew ?_ | refine bel_then (by assumption) (by (try simp); (try omega)) ?_ | refine only_then (by assumption) (by (try simp); (try omega)) (by (try simp); (try omega)) ?_)
end Go.Proofs.Ytabhbijohjemiaa
