/- Chapter 7: PutOrder (the model). -/
import Derived.Test.YtabhbijohjemiaaC7C
namespace Go.Proofs.Ytabhbijohjemiaa
set_option linter.unusedVariables false
set_option linter.unusedSimpArgs false
open Go.RowKit

theorem specPutOrder_yes (s : ByteArray) (w : World) (hs : s.size ≤ 1048576) (hok : ordOk (bytesOf s) = true) :
    Calls Try.prog 39 #[.string s] w fun e w' => ∃ D, Packs D (putO (usedL (bytesOf s)) (bytesOf s)) ∧ e = .returned (.tuple #[.agg #[.string (strOf D), .int .i64 ((putO (usedL (bytesOf s)) (bytesOf s)).length : Int)], .bool true]) ∧ Below w.heap.size w w' := by
  have bb : Below w.heap.size w (w.alloc (.cells #[.string ⟨#[]⟩, .int .i64 0] 25)) := (Below.refl _ _).alloc (Nat.le_refl _) _
  have hR := Has.fresh w 25 #[.string ⟨#[]⟩, .int .i64 0]
  have K0 := hidden (fun W => specOrderOk_any s W hs)
  rw [hok] at K0
  have K1 := hidden (fun W => l7order_any s W hok)
  have hle : (putO (usedL (bytesOf s)) (bytesOf s)).length ≤ 2048 := by
    have h1 := putO_len (usedL (bytesOf s)) (bytesOf s) (usedTo_len _ _)
    have h2 := nodup_256 (byt_bytesOf s) ((ordOk_iff _).1 hok).2
    omega
  have K2 := hidden (fun (W : World) v base h => l1close_own (putO (usedL (bytesOf s)) (bytesOf s)) (putO_lt _ _) v base W (by omega) h)
  obtain ⟨P, hP⟩ : ∃ P, putO (usedL (bytesOf s)) (bytesOf s) = P := ⟨_, rfl⟩
  rw [hP] at K1 K2 ⊢
  clear hP hle
  go_enter Try.func39, Try.ntmps39
  go_wp2_with fail
  refine (K0.out _).mono ?_
  rintro e w2 ⟨rfl, b2⟩
  replace bb := bel_then b2 bb.size bb
  replace hR := hR.below b2 hR.lt
  have hs2 := bb.size
  clear b2
  go_wp2_with fail
  refine (K1.out _).mono ?_
  rintro e w3 ⟨v, rfl, hown, b3⟩
  replace bb := bel_then b3 hs2 bb
  replace hR := hR.below b3 hR.lt
  have hs3 := bb.size
  clear b3
  go_wp2_with fail
  refine (K2.out _ _ _ hown).mono ?_
  rintro e w4 ⟨D, hD, rfl, b4⟩
  replace bb := bel_then b4 hs3 bb
  replace hR := hR.below b4 hR.lt
  have e0 := hR.cell 0
  have e1 := hR.cell 1
  have g0 := hR.free 0
  have g1 := hR.free 1
  simp at e0 e1
  have hs4 := bb.size
  clear b4 hown hR
  go_wp2
  refine bodyPost_ret (v := .tuple #[.agg #[.string (strOf D), .int .i64 (P.length : Int)], .bool true]) (by simp [results, Try.results39, go_sem, e0, e1, g0, g1]) rfl ⟨D, hD, rfl, ?_⟩
  repeat (first | exact Below.refl _ _ | assumption | refine Below.alloc ?_ (by (try simp); (try omega)) _ | refine Below.setCell ?_ (by (try simp); (try omega)) _ | refine Below.drew ?_ | refine bel_then (by assumption) (by (try simp); (try omega)) ?_)
theorem specPutOrder_no (s : ByteArray) (w : World) (hs : s.size ≤ 1048576) (hok : ordOk (bytesOf s) = false) :
    Calls Try.prog 39 #[.string s] w fun e w' => e = .returned (.tuple #[.agg #[.string ⟨#[]⟩, .int .i64 0], .bool false]) ∧ Below w.heap.size w w' := by
  have bb : Below w.heap.size w (w.alloc (.cells #[.string ⟨#[]⟩, .int .i64 0] 25)) := (Below.refl _ _).alloc (Nat.le_refl _) _
  have hR := Has.fresh w 25 #[.string ⟨#[]⟩, .int .i64 0]
  have K0 := hidden (fun W => specOrderOk_any s W hs)
  rw [hok] at K0
  go_enter Try.func39, Try.ntmps39
  go_wp2_with fail
  refine (K0.out _).mono ?_
  rintro e w2 ⟨rfl, b2⟩
  replace bb := bel_then b2 bb.size bb
  replace hR := hR.below b2 hR.lt
  have hs2 := bb.size
  have e0 := hR.cell 0
  have e1 := hR.cell 1
  have g0 := hR.free 0
  have g1 := hR.free 1
  simp at e0 e1
  clear b2 hR
  go_wp2
  refine bodyPost_ret (v := .tuple #[.agg #[.string ⟨#[]⟩, .int .i64 0], .bool false]) (by simp [results, Try.results39, go_sem, e0, e1, g0, g1]) rfl ⟨rfl, ?_⟩
  repeat (first | exact Below.refl _ _ | assumption | refine Below.alloc ?_ (by (try simp); (try omega)) _ | refine Below.setCell ?_ (by (try simp); (try omega)) _ | refine Below.drew ?_ | refine bel_then (by assumption) (by (try simp); (try omega)) ?_)
end Go.Proofs.Ytabhbijohjemiaa
