/- Chapter 1: Join of the program. -/
import Derived.Test.YtbfkbiembbbbpaaC1Join
namespace Go.Proofs.Ytbfkbiembbbbpaa
set_option linter.unusedVariables false
set_option linter.unusedSimpArgs false
open Go.RowKit

set_option maxHeartbeats 1000000 in
theorem implJoin_no (s : ByteArray) (n : Int) (s2 : ByteArray) (m : Int) (w : World) (hs : s.size ≤ maxLen) (hs2 : s2.size ≤ maxLen) (b1 : -9223372036854775808 ≤ n) (b2 : n ≤ 9223372036854775807) (c1 : -9223372036854775808 ≤ m) (c2 : m ≤ 9223372036854775807)
    (h : ¬ (okB s n = true ∧ okB s2 m = true ∧ n + m ≤ 400000)) :
    Calls Try.prog 20 #[.agg #[.string s, .int .i64 n], .agg #[.string s2, .int .i64 m]] w fun e w' =>
      e = .returned (.tuple #[.agg #[.string ⟨#[]⟩, .int .i64 0], .bool false]) ∧ Below w.heap.size w w' := by
  by_cases hok : okB s n = true
  · by_cases hok2 : okB s2 m = true
    · have hr1 := (okB_iff _ _).1 hok
      have hr2 := (okB_iff _ _).1 hok2
      have hx : (400000 : Int) - n < m := by
        have : ¬ (n + m ≤ 400000) := fun h' => h ⟨hok, hok2, h'⟩
        omega
      have h1 := hr1.1
      have h2 := hr1.2.1
      clear h hr1 hr2
      go_enter Try.func20, Try.ntmps20
      go_wp2_with fail
      refine (implBitsOk_any s _ _ hs b1 b2).mono ?_
      rintro e wa ⟨rfl, Ba⟩
      obtain ⟨Ca, Fa, La⟩ := bcell3 Ba
      have ya := Ba.size; (try simp at ya)
      have za : w.heap.size + 1 < wa.heap.size := by omega
      have za2 : w.heap.size < wa.heap.size := by omega
      have za3 : w.heap.size + 1 + 1 < wa.heap.size := by omega
      go_wp2_with fail
      refine (implBitsOk_any s2 _ _ hs2 c1 c2).mono ?_
      rintro e wb ⟨rfl, Bb⟩
      obtain ⟨Cb, Fb, Lb⟩ := bcell3 Bb
      have yb := Bb.size; (try simp at yb)
      have zb : w.heap.size + 1 + 1 < wb.heap.size := by omega
      have zb1 : w.heap.size + 1 < wb.heap.size := by omega
      have zb2 : w.heap.size < wb.heap.size := by omega
      go_wp2
      refine bodyPost_ret (v := .tuple #[.agg #[.string ⟨#[]⟩, .int .i64 0], .bool false]) (by simp [results, Try.results20, go_sem, Ca, Cb, za3, zb]) rfl ⟨rfl, ?_⟩
      repeat (first | exact Below.refl _ _ | assumption | refine Below.alloc ?_ (by (try simp); (try omega)) _ | refine Below.setCell ?_ (by (try simp); (try omega)) _ | refine Below.drew ?_ | refine bel_then (by assumption) (by (try simp); (try omega)) ?_ | refine only_then (by assumption) (by (try simp); (try omega)) (by (try simp); (try omega)) ?_ | refine bel_thenB (by assumption) (by (try simp); (try omega)) ?_)
    · have hok2' : okB s2 m = false := by simpa using hok2
      clear h hok2
      go_enter Try.func20, Try.ntmps20
      go_wp2_with fail
      refine (implBitsOk_any s _ _ hs b1 b2).mono ?_
      rintro e wa ⟨rfl, Ba⟩
      obtain ⟨Ca, Fa, La⟩ := bcell3 Ba
      have ya := Ba.size; (try simp at ya)
      have za : w.heap.size + 1 < wa.heap.size := by omega
      have za2 : w.heap.size < wa.heap.size := by omega
      have za3 : w.heap.size + 1 + 1 < wa.heap.size := by omega
      go_wp2_with fail
      refine (implBitsOk_any s2 _ _ hs2 c1 c2).mono ?_
      rintro e wb ⟨rfl, Bb⟩
      obtain ⟨Cb, Fb, Lb⟩ := bcell3 Bb
      have yb := Bb.size; (try simp at yb)
      have zb : w.heap.size + 1 + 1 < wb.heap.size := by omega
      have zb1 : w.heap.size + 1 < wb.heap.size := by omega
      have zb2 : w.heap.size < wb.heap.size := by omega
      go_wp2
      refine bodyPost_ret (v := .tuple #[.agg #[.string ⟨#[]⟩, .int .i64 0], .bool false]) (by simp [results, Try.results20, go_sem, Ca, Cb, za3, zb]) rfl ⟨rfl, ?_⟩
      repeat (first | exact Below.refl _ _ | assumption | refine Below.alloc ?_ (by (try simp); (try omega)) _ | refine Below.setCell ?_ (by (try simp); (try omega)) _ | refine Below.drew ?_ | refine bel_then (by assumption) (by (try simp); (try omega)) ?_ | refine only_then (by assumption) (by (try simp); (try omega)) (by (try simp); (try omega)) ?_ | refine bel_thenB (by assumption) (by (try simp); (try omega)) ?_)
  · have hok' : okB s n = false := by simpa using hok
    clear h hok
    go_enter Try.func20, Try.ntmps20
    go_wp2_with fail
    refine (implBitsOk_any s _ _ hs b1 b2).mono ?_
    rintro e wa ⟨rfl, Ba⟩
    obtain ⟨Ca, Fa, La⟩ := bcell3 Ba
    have ya := Ba.size; (try simp at ya)
    go_wp2
    refine bodyPost_ret (v := .tuple #[.agg #[.string ⟨#[]⟩, .int .i64 0], .bool false]) (by simp [results, Try.results20, go_sem, Ca]) rfl ⟨rfl, ?_⟩
    repeat (first | exact Below.refl _ _ | assumption | refine Below.alloc ?_ (by (try simp); (try omega)) _ | refine Below.setCell ?_ (by (try simp); (try omega)) _ | refine Below.drew ?_ | refine bel_then (by assumption) (by (try simp); (try omega)) ?_ | refine only_then (by assumption) (by (try simp); (try omega)) (by (try simp); (try omega)) ?_ | refine bel_thenB (by assumption) (by (try simp); (try omega)) ?_)

set_option maxHeartbeats 1000000 in
theorem implJoin_yes (s : ByteArray) (n : Nat) (s2 : ByteArray) (m : Nat) (w : World) (hs : s.size ≤ maxLen) (hs2 : s2.size ≤ maxLen) (hok : okB s n = true) (hok2 : okB s2 m = true) (hr : n + m ≤ 400000) :
    Calls Try.prog 20 #[.agg #[.string s, .int .i64 n], .agg #[.string s2, .int .i64 m]] w fun e w' =>
      ∃ D, Packs D (row s 0 n ++ row s2 0 m) ∧ e = .returned (.tuple #[.agg #[.string (strOf D), .int .i64 ((n + m : Nat) : Int)], .bool true]) ∧ Below w.heap.size w w' := by
  have hroom := okB_room hok
  have hroom2 := okB_room hok2
  have hfit : ¬ ((400000 : Int) - n < m) := by omega
  go_enter Try.func20, Try.ntmps20
  go_wp2_with fail
  refine (implBitsOk_any s n _ hs (by omega) (by omega)).mono ?_
  rintro e wa ⟨rfl, Ba⟩
  obtain ⟨Ca, Fa, La⟩ := bcell3 Ba
  have ya := Ba.size; (try simp at ya)
  have za : w.heap.size + 1 < wa.heap.size := by omega
  have za2 : w.heap.size < wa.heap.size := by omega
  go_wp2_with fail
  refine (implBitsOk_any s2 m _ hs2 (by omega) (by omega)).mono ?_
  rintro e wb ⟨rfl, Bb⟩
  obtain ⟨Cb, Fb, Lb⟩ := bcell3 Bb
  have yb := Bb.size; (try simp at yb)
  have zb : w.heap.size + 1 < wb.heap.size := by omega
  have zb2 : w.heap.size < wb.heap.size := by omega
  go_wp2_with fail
  refine (writerOf_any s n _ hok).mono ?_
  rintro e wc ⟨g, rfl, hW, hg, Bc⟩
  have yc := Bc.size
  have yg := hW.lt
  obtain ⟨Cc, Fc, Lc⟩ := bcell3 Bc
  have zc : w.heap.size + 1 < wc.heap.size := by omega
  have zc2 : w.heap.size < wc.heap.size := by omega
  go_wp2_with fail
  refine (join_any g wb.heap.size _ s2 m _ hW hg (by omega) hok2 (by rw [row_len]; omega)).mono ?_
  rintro e wd ⟨rfl, hW2, Bd, _⟩
  have yd := Bd.size
  go_wp2_with fail
  refine (bits_any g _ _ _ hW2).mono ?_
  rintro e we ⟨D, hD, rfl, Be⟩
  have ye := Be.size
  have hlen : (row s 0 n ++ row s2 0 m).length = n + m := by rw [List.length_append, row_len, row_len]
  have hR := (((((Has.freshAt (by simp) 24 #[.string ⟨#[]⟩, .int .i64 0] : Has (((w.alloc (.cells #[.string s, .int .i64 n] 24)).alloc (.cells #[.string s2, .int .i64 m] 24)).alloc _) (w.heap.size + 1 + 1) _ _).below Ba (by (try simp); (try omega))).below Bb (by omega)).below Bc (by omega)).below Bd (by omega)).below Be (by omega)
  have e0 := hR.cell 0
  have e1 := hR.cell 1
  have g0 := hR.free 0
  have g1 := hR.free 1
  simp at e0 e1
  rw [hlen]
  clear hR hW hW2 Ca Fa La Cb Fb Lb Cc Fc Lc
  go_wp2
  refine bodyPost_ret (v := .tuple #[.agg #[.string (strOf D), .int .i64 ((n + m : Nat) : Int)], .bool true]) (by simp [results, Try.results20, go_sem, e0, e1, g0, g1]) rfl ⟨D, hD, rfl, ?_⟩
  repeat (first | exact Below.refl _ _ | assumption | refine Below.alloc ?_ (by (try simp); (try omega)) _ | refine Below.setCell ?_ (by (try simp); (try omega)) _ | refine Below.drew ?_ | refine bel_then (by assumption) (by (try simp); (try omega)) ?_ | refine only_then (by assumption) (by (try simp); (try omega)) (by (try simp); (try omega)) ?_ | refine bel_thenB (by assumption) (by (try simp); (try omega)) ?_)
end Go.Proofs.Ytbfkbiembbbbpaa
