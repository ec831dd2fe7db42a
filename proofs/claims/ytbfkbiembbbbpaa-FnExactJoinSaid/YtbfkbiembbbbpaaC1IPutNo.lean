/- Chapter 1: Put of the program, where it refuses. -/
import Derived.Test.YtbfkbiembbbbpaaC1SPut
namespace Go.Proofs.Ytbfkbiembbbbpaa
set_option linter.unusedVariables false
set_option linter.unusedSimpArgs false
open Go.RowKit

set_option maxHeartbeats 1000000 in
theorem implPut_no (s : ByteArray) (n v k : Int) (w : World) (hs : s.size ≤ maxLen) (b1 : -9223372036854775808 ≤ n) (b2 : n ≤ 9223372036854775807) (c1 : -9223372036854775808 ≤ v) (c2 : v ≤ 9223372036854775807)
    (h : ¬ (okB s n = true ∧ 0 ≤ k ∧ k ≤ 32 ∧ 0 ≤ v ∧ v < ((2 ^ k.toNat : Nat) : Int) ∧ n + k ≤ 400000)) :
    Calls Try.prog 14 #[.agg #[.string s, .int .i64 n], .int .i64 v, .int .i64 k] w fun e w' =>
      e = .returned (.tuple #[.agg #[.string ⟨#[]⟩, .int .i64 0], .bool false]) ∧ Below w.heap.size w w' := by
  by_cases hok : okB s n = true
  · obtain ⟨n, rfl⟩ : ∃ m : Nat, n = m := ⟨n.toNat, by have := (okB_iff _ _).1 hok; omega⟩
    have hroom := okB_room hok
    by_cases h1 : k < 0
    · clear h
      go_enter Try.func14, Try.ntmps14
      go_wp2_with fail
      refine (implBitsOk_any s _ _ hs b1 b2).mono ?_
      rintro e wa ⟨rfl, Ba⟩
      obtain ⟨Ca, Fa, La⟩ := bcell3 Ba
      have ya := Ba.size; (try simp at ya)
      go_wp2
      refine bodyPost_ret (v := .tuple #[.agg #[.string ⟨#[]⟩, .int .i64 0], .bool false]) (by simp [results, Try.results14, go_sem, Ca]) rfl ⟨rfl, ?_⟩
      repeat (first | exact Below.refl _ _ | assumption | refine Below.alloc ?_ (by (try simp); (try omega)) _ | refine Below.setCell ?_ (by (try simp); (try omega)) _ | refine Below.drew ?_ | refine bel_then (by assumption) (by (try simp); (try omega)) ?_ | refine only_then (by assumption) (by (try simp); (try omega)) (by (try simp); (try omega)) ?_ | refine bel_thenB (by assumption) (by (try simp); (try omega)) ?_)
    · obtain ⟨k, rfl⟩ : ∃ m : Nat, k = m := ⟨k.toNat, by omega⟩
      by_cases h2 : 32 < k
      · clear h
        go_enter Try.func14, Try.ntmps14
        go_wp2_with fail
        refine (implBitsOk_any s _ _ hs b1 b2).mono ?_
        rintro e wa ⟨rfl, Ba⟩
        obtain ⟨Ca, Fa, La⟩ := bcell3 Ba
        have ya := Ba.size; (try simp at ya)
        go_wp2
        refine bodyPost_ret (v := .tuple #[.agg #[.string ⟨#[]⟩, .int .i64 0], .bool false]) (by simp [results, Try.results14, go_sem, Ca]) rfl ⟨rfl, ?_⟩
        repeat (first | exact Below.refl _ _ | assumption | refine Below.alloc ?_ (by (try simp); (try omega)) _ | refine Below.setCell ?_ (by (try simp); (try omega)) _ | refine Below.drew ?_ | refine bel_then (by assumption) (by (try simp); (try omega)) ?_ | refine only_then (by assumption) (by (try simp); (try omega)) (by (try simp); (try omega)) ?_ | refine bel_thenB (by assumption) (by (try simp); (try omega)) ?_)
      · by_cases h3 : v < 0
        · clear h
          go_enter Try.func14, Try.ntmps14
          go_wp2_with fail
          refine (implBitsOk_any s _ _ hs b1 b2).mono ?_
          rintro e wa ⟨rfl, Ba⟩
          obtain ⟨Ca, Fa, La⟩ := bcell3 Ba
          have ya := Ba.size; (try simp at ya)
          go_wp2
          refine bodyPost_ret (v := .tuple #[.agg #[.string ⟨#[]⟩, .int .i64 0], .bool false]) (by simp [results, Try.results14, go_sem, Ca]) rfl ⟨rfl, ?_⟩
          repeat (first | exact Below.refl _ _ | assumption | refine Below.alloc ?_ (by (try simp); (try omega)) _ | refine Below.setCell ?_ (by (try simp); (try omega)) _ | refine Below.drew ?_ | refine bel_then (by assumption) (by (try simp); (try omega)) ?_ | refine only_then (by assumption) (by (try simp); (try omega)) (by (try simp); (try omega)) ?_ | refine bel_thenB (by assumption) (by (try simp); (try omega)) ?_)
        · obtain ⟨v, rfl⟩ : ∃ m : Nat, v = m := ⟨v.toNat, by omega⟩
          have h32 : 2 ^ k ≤ 2 ^ 32 := Nat.pow_le_pow_right (by omega) (by omega)
          have e : ((2 : Int) ^ k) = ((2 ^ k : Nat) : Int) := by simp
          by_cases h4 : 2 ^ k ≤ v
          · have hge : (((v : Int) / 2 ^ k) != 0) = true := by
              have := Nat.div_pos h4 (Nat.two_pow_pos k)
              rw [e, bne_iff_ne]; omega
            clear h e h32 h4
            go_enter Try.func14, Try.ntmps14
            go_wp2_with fail
            refine (implBitsOk_any s _ _ hs b1 b2).mono ?_
            rintro e wa ⟨rfl, Ba⟩
            obtain ⟨Ca, Fa, La⟩ := bcell3 Ba
            have ya := Ba.size; (try simp at ya)
            go_wp2
            refine bodyPost_ret (v := .tuple #[.agg #[.string ⟨#[]⟩, .int .i64 0], .bool false]) (by simp [results, Try.results14, go_sem, Ca]) rfl ⟨rfl, ?_⟩
            repeat (first | exact Below.refl _ _ | assumption | refine Below.alloc ?_ (by (try simp); (try omega)) _ | refine Below.setCell ?_ (by (try simp); (try omega)) _ | refine Below.drew ?_ | refine bel_then (by assumption) (by (try simp); (try omega)) ?_ | refine only_then (by assumption) (by (try simp); (try omega)) (by (try simp); (try omega)) ?_ | refine bel_thenB (by assumption) (by (try simp); (try omega)) ?_)
          · have h5 : 400000 < n + k := by simp at h; have := h hok (by omega) (by omega); omega
            have h5' : (400000 : Int) - n < k := by omega
            have hge : (((v : Int) / 2 ^ k) != 0) = false := by
              have := Nat.div_eq_of_lt (show v < 2 ^ k by omega)
              rw [e, bne_eq_false_iff_eq]; omega
            clear h e h32 h4
            go_enter Try.func14, Try.ntmps14
            go_wp2_with fail
            refine (implBitsOk_any s _ _ hs b1 b2).mono ?_
            rintro e wa ⟨rfl, Ba⟩
            obtain ⟨Ca, Fa, La⟩ := bcell3 Ba
            have ya := Ba.size; (try simp at ya)
            go_wp2
            refine bodyPost_ret (v := .tuple #[.agg #[.string ⟨#[]⟩, .int .i64 0], .bool false]) (by simp [results, Try.results14, go_sem, Ca]) rfl ⟨rfl, ?_⟩
            repeat (first | exact Below.refl _ _ | assumption | refine Below.alloc ?_ (by (try simp); (try omega)) _ | refine Below.setCell ?_ (by (try simp); (try omega)) _ | refine Below.drew ?_ | refine bel_then (by assumption) (by (try simp); (try omega)) ?_ | refine only_then (by assumption) (by (try simp); (try omega)) (by (try simp); (try omega)) ?_ | refine bel_thenB (by assumption) (by (try simp); (try omega)) ?_)
  · have hok' : okB s n = false := by simpa using hok
    clear h hok
    go_enter Try.func14, Try.ntmps14
    go_wp2_with fail
    refine (implBitsOk_any s _ _ hs b1 b2).mono ?_
    rintro e wa ⟨rfl, Ba⟩
    obtain ⟨Ca, Fa, La⟩ := bcell3 Ba
    have ya := Ba.size; (try simp at ya)
    go_wp2
    refine bodyPost_ret (v := .tuple #[.agg #[.string ⟨#[]⟩, .int .i64 0], .bool false]) (by simp [results, Try.results14, go_sem, Ca]) rfl ⟨rfl, ?_⟩
    repeat (first | exact Below.refl _ _ | assumption | refine Below.alloc ?_ (by (try simp); (try omega)) _ | refine Below.setCell ?_ (by (try simp); (try omega)) _ | refine Below.drew ?_ | refine bel_then (by assumption) (by (try simp); (try omega)) ?_ | refine only_then (by assumption) (by (try simp); (try omega)) (by (try simp); (try omega)) ?_ | refine bel_thenB (by assumption) (by (try simp); (try omega)) ?_)
end Go.Proofs.Ytbfkbiembbbbpaa
