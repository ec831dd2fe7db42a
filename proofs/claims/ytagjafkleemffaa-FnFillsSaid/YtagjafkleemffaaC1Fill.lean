/- Chapter 1: Fill and BitsOf. -/
import Derived.Test.YtagjafkleemffaaC1IJoin
import Derived.Test.YtagjafkleemffaaC1SPutNo
import Derived.Test.YtagjafkleemffaaC1IPutNo
import Derived.Deep.RegionWith
namespace Go.Proofs.Ytagjafkleemffaa
set_option linter.unusedVariables false
set_option linter.unusedSimpArgs false
open Go.RowKit

theorem l1fill_any (l : List Nat) (v : Value) (base : Nat) (w : World) (hl : l.length ≤ 400000) (hbase : base ≤ w.heap.size) (hown0 : w.ownsRow base 5 1 v l.length (u8s l)) :
    Calls Try.prog 63 #[v] w fun e w' =>
      ∃ v', e = .returned v' ∧ w'.ownsRow base 5 1 v' (l.length + upN l.length) (u8s (l ++ List.replicate (upN l.length) 0)) ∧ Below base w w' := by
  obtain ⟨i0, hi, hz0, hz1, hz2⟩ := info_parts Try.info5
  have hu := upN_lt l.length
  go_enter Try.func63, Try.ntmps63
  go_wp2
  go_loopg [0] (upN l.length) (fun gk t wr => ∃ k, Hid (k + gk = upN l.length) ∧ k ≤ 7 ∧ wr.ownsRow base 5 1 t (l.length + k) (u8s (l ++ List.replicate k 0)) ∧ Below base w wr)
  case atStart => exact ⟨0, hidden (by omega), by omega, by simpa using hown0, Below.refl _ _⟩
  case round =>
    obtain ⟨k, Hk, hk7, hown, hbl⟩ := hrel
    by_cases h8 : (l.length + k) % 8 = 0
    · have hgk : Hid (k = upN l.length) := hidden (by have := Hk.out; unfold upN at *; omega)
      rcases hown.2 with ⟨hv, h0⟩ | ⟨gd, cp, cur, hv, _⟩
      · subst hv
        go_wp2
        go_ret
        rw [hgk.out] at hown
        exact ⟨_, rfl, hown, hbl⟩
      · subst hv
        have ht : ((((l.length + k : Nat) : Int) % 8) != 0) = false := by simp; omega
        have H8 := hidden h8
        clear h8
        go_wp2
        go_ret
        rw [hgk.out] at hown
        rw [hgk.out]
        exact ⟨_, rfl, hown, hbl⟩
    · have ht : ((((l.length + k : Nat) : Int) % 8) != 0) = true := by simp; omega
      have hg0 : Hid (k + 1 + (gk - 1) = upN l.length ∧ 0 < gk) := hidden (by have := Hk.out; unfold upN at *; omega)
      have hk6 : k + 1 ≤ 7 := by have := hg0.out; omega
      obtain ⟨gd, cp, hv⟩ : ∃ gd cp, u0 = .slice (some ⟨gd, 0, none⟩) (l.length + k) cp := by
        rcases hown.2 with ⟨_, h0⟩ | ⟨gd, cp, cur, hv, _⟩
        · omega
        · exact ⟨gd, cp, hv⟩
      subst hv
      have hbs := hbl.size
      go_wp2_with (at_builtin; refine wpList_append_own _ rfl _ _ 22 rfl base 5 i0 (.int .u8 0) 1 1 Try.underlying22 hi hz0 hz1 hz2 rfl (by decide) _ _ _ rfl (hown.alloc _) ⟨wr.heap.size, 0, none⟩ 1 1 [.int .u8 0] rfl rfl ?c1 ?c2 ?c3 ?c4 ?c5 ?_)
      case c1 => exact cell_one_new _ _ _
      case c2 => exact fun x hx => by simp at hx; subst hx; rfl
      case c3 => unfold maxLen; omega
      case c4 => omega
      case c5 => simp; omega
      intro v' w3 hown' hgrow _
      have hbl3 : Below base w w3 := (hbl.alloc (by omega) _).grown hgrow (by simp; omega) (fun g hg => (hown.lt g hg).1)
      rw [show u8s (l ++ List.replicate k 0) ++ [.int .u8 0] = u8s (l ++ List.replicate (k + 1) 0) by rw [List.replicate_succ', ← List.append_assoc]; simp [u8s], Nat.add_assoc] at hown'
      clear hown hbl hgrow
      go_wp2
      go_roundg (gk - 1)
      case rel => exact ⟨k + 1, hidden hg0.out.1, hk6, hown', hbl3⟩
      case measure => have := hg0.out.2; omega

theorem nbits_zero (k : Nat) : nbits 0 k = List.replicate k 0 := by
  apply List.ext_getElem (by simp [nbits])
  intro j h1 h2
  simp [nbits]

set_option maxHeartbeats 1000000 in
theorem specFill_yes (s : ByteArray) (n : Nat) (w : World) (hs : s.size ≤ maxLen) (hok : okB s n = true) :
    Calls Try.prog 37 #[.agg #[.string s, .int .i64 n]] w fun e w' =>
      ∃ D, Packs D (row s 0 n ++ nbits 0 (upN n)) ∧ e = .returned (.agg #[.string (strOf D), .int .i64 ((n + upN n : Nat) : Int)]) ∧ Below w.heap.size w w' := by
  have hroom := okB_room hok
  have hu := upN_lt n
  go_enter Try.func37, Try.ntmps37
  go_wp2_with fail
  refine (specBitsOk_any s n _ hs (by omega) (by omega)).mono ?_
  rintro e wa ⟨rfl, Ba⟩
  obtain ⟨Ca, Fa, La⟩ := bcell3 Ba
  have ya := Ba.size; (try simp at ya)
  go_wp2_with fail
  refine (l1open_any s n _ (by omega) (by omega) (by omega)).mono ?_
  rintro e wb ⟨v0, rfl, hown, Bb, lb⟩
  have yb := Bb.size
  have hf := l1fill_any (row s 0 n) v0 (wa.heap.size + 1) wb (by rw [row_len]; omega) (by omega) (by rw [row_len]; exact hown)
  rw [row_len] at hf
  go_wp2_with fail
  refine hf.mono ?_
  rintro e wc ⟨v1, rfl, hown1, Bc⟩
  have yc := Bc.size
  rw [← nbits_zero] at hown1
  have hlen : (row s 0 n ++ nbits 0 (upN n)).length = n + upN n := by rw [List.length_append, row_len, nbits_len]
  have hbits : ∀ b ∈ row s 0 n ++ nbits 0 (upN n), b < 2 := by
    intro b hb
    rcases List.mem_append.1 hb with h | h
    · exact row_bits _ _ _ _ h
    · exact nbits_lt _ _ _ h
  have hc1 := (l1close_own _ hbits v1 _ wc (by rw [hlen]; omega) (by rw [hlen]; exact hown1))
  rw [hlen] at hc1
  clear hown hown1 hlen hbits hf
  go_wp2_with fail
  refine hc1.mono ?_
  rintro e wd ⟨D, hD, rfl, Bd⟩
  have yd := Bd.size
  have hR := ((((Has.freshAt (by simp) 24 #[.string ⟨#[]⟩, .int .i64 0] : Has ((w.alloc (.cells #[.string s, .int .i64 n] 24)).alloc _) (w.heap.size + 1) _ _).below Ba (by (try simp); (try omega))).below Bb (by omega)).below Bc (by omega)).below Bd (by omega)
  have e0 := hR.cell 0
  have e1 := hR.cell 1
  have g0 := hR.free 0
  have g1 := hR.free 1
  simp at e0 e1
  clear hc1 hR Ca Fa La
  go_wp2
  refine bodyPost_ret (v := .agg #[.string (strOf D), .int .i64 ((n + upN n : Nat) : Int)]) (by simp [results, Try.results37, go_sem, e0, e1, g0, g1]) rfl ⟨D, hD, rfl, ?_⟩
  repeat (first | exact Below.refl _ _ | assumption | refine Below.alloc ?_ (by (try simp); (try omega)) _ | refine Below.setCell ?_ (by (try simp); (try omega)) _ | refine Below.drew ?_ | refine bel_then (by assumption) (by (try simp); (try omega)) ?_ | refine only_then (by assumption) (by (try simp); (try omega)) (by (try simp); (try omega)) ?_ | refine bel_thenB (by assumption) (by (try simp); (try omega)) ?_)
theorem specFill_no (s : ByteArray) (n : Int) (w : World) (hs : s.size ≤ maxLen) (b1 : -9223372036854775808 ≤ n) (b2 : n ≤ 9223372036854775807) (hok : okB s n = false) :
    Calls Try.prog 37 #[.agg #[.string s, .int .i64 n]] w fun e w' => e = .returned (.agg #[.string ⟨#[]⟩, .int .i64 0]) ∧ Below w.heap.size w w' := by
  go_enter Try.func37, Try.ntmps37
  go_wp2_with fail
  refine (specBitsOk_any s n _ hs b1 b2).mono ?_
  rintro e wa ⟨rfl, Ba⟩
  obtain ⟨Ca, Fa, La⟩ := bcell3 Ba
  have ya := Ba.size; (try simp at ya)
  go_wp2
  refine bodyPost_ret (v := .agg #[.string ⟨#[]⟩, .int .i64 0]) (by simp [results, Try.results37, go_sem, Ca]) rfl ⟨rfl, ?_⟩
  repeat (first | exact Below.refl _ _ | assumption | refine Below.alloc ?_ (by (try simp); (try omega)) _ | refine Below.setCell ?_ (by (try simp); (try omega)) _ | refine Below.drew ?_ | refine bel_then (by assumption) (by (try simp); (try omega)) ?_ | refine only_then (by assumption) (by (try simp); (try omega)) (by (try simp); (try omega)) ?_ | refine bel_thenB (by assumption) (by (try simp); (try omega)) ?_)

theorem okB_whole (s : ByteArray) (h : s.size ≤ 50000) : okB s ((8 * s.size : Nat) : Int) = true := by
  rw [okB_nat]; exact ⟨by omega, by omega, fun k h1 h2 => by omega⟩
theorem whole_packs {s : ByteArray} {D : List Nat} (h : s.size ≤ 50000) (hD : Packs D (row ⟨#[]⟩ 0 0 ++ row s 0 (8 * s.size))) : strOf D = s := by
  have := hD.unique (by simpa [row] using bitsOk_packs (okB_whole s h))
  rw [this, strOf_bytesOf]
set_option maxHeartbeats 1000000 in
theorem implBitsOf_yes (s : ByteArray) (w : World) (hs : s.size ≤ 50000) :
    Calls Try.prog 29 #[.string s] w fun e w' => e = .returned (.tuple #[.agg #[.string s, .int .i64 ((8 * s.size : Nat) : Int)], .bool true]) ∧ Below w.heap.size w w' := by
  have hj := fun W => implJoin_yes ⟨#[]⟩ 0 s (8 * s.size) W (Nat.zero_le _) (by unfold maxLen; omega) (by decide) (okB_whole s hs) (by omega)
  go_enter Try.func29, Try.ntmps29
  go_wp2_with fail
  have q1 : (((8 * s.size : Nat)) : Int) = 8 * (s.size : Int) := by omega
  simp only [q1] at hj
  refine (hj _).mono ?_
  rintro e wa ⟨D, hD, rfl, Ba⟩
  have ya := Ba.size; (try simp at ya)
  have hR := ((Has.fresh w 24 #[.string ⟨#[]⟩, .int .i64 0]).below Ba (by (try simp); (try omega)))
  have e0 := hR.cell 0
  have e1 := hR.cell 1
  have g0 := hR.free 0
  have g1 := hR.free 1
  simp at e0 e1
  rw [whole_packs hs hD, Nat.zero_add]
  clear hR hj
  go_wp2
  refine bodyPost_ret (v := .tuple #[.agg #[.string s, .int .i64 ((8 * s.size : Nat) : Int)], .bool true]) (by simp [results, Try.results29, go_sem, e0, e1, g0, g1]) rfl ⟨rfl, ?_⟩
  repeat (first | exact Below.refl _ _ | assumption | refine Below.alloc ?_ (by (try simp); (try omega)) _ | refine Below.setCell ?_ (by (try simp); (try omega)) _ | refine Below.drew ?_ | refine bel_then (by assumption) (by (try simp); (try omega)) ?_ | refine only_then (by assumption) (by (try simp); (try omega)) (by (try simp); (try omega)) ?_ | refine bel_thenB (by assumption) (by (try simp); (try omega)) ?_)
set_option maxHeartbeats 1000000 in
theorem implBitsOf_no (s : ByteArray) (w : World) (hs : 50000 < s.size) (hs2 : s.size ≤ 1048576) :
    Calls Try.prog 29 #[.string s] w fun e w' => e = .returned (.tuple #[.agg #[.string ⟨#[]⟩, .int .i64 0], .bool false]) ∧ Below w.heap.size w w' := by
  have hj := fun W => implJoin_no ⟨#[]⟩ 0 s (8 * s.size : Nat) W (Nat.zero_le _) (by unfold maxLen; omega) (by omega) (by omega) (by omega) (by omega) (fun h => by have := h.2.2; omega)
  go_enter Try.func29, Try.ntmps29
  go_wp2_with fail
  have q1 : (((8 * s.size : Nat)) : Int) = 8 * (s.size : Int) := by omega
  simp only [q1] at hj
  refine (hj _).mono ?_
  rintro e wa ⟨rfl, Ba⟩
  have ya := Ba.size; (try simp at ya)
  have hR := ((Has.fresh w 24 #[.string ⟨#[]⟩, .int .i64 0]).below Ba (by (try simp); (try omega)))
  have e0 := hR.cell 0
  have e1 := hR.cell 1
  have g0 := hR.free 0
  have g1 := hR.free 1
  simp at e0 e1
  clear hR hj
  go_wp2
  refine bodyPost_ret (v := .tuple #[.agg #[.string ⟨#[]⟩, .int .i64 0], .bool false]) (by simp [results, Try.results29, go_sem, e0, e1, g0, g1]) rfl ⟨rfl, ?_⟩
  repeat (first | exact Below.refl _ _ | assumption | refine Below.alloc ?_ (by (try simp); (try omega)) _ | refine Below.setCell ?_ (by (try simp); (try omega)) _ | refine Below.drew ?_ | refine bel_then (by assumption) (by (try simp); (try omega)) ?_ | refine only_then (by assumption) (by (try simp); (try omega)) (by (try simp); (try omega)) ?_ | refine bel_thenB (by assumption) (by (try simp); (try omega)) ?_)
end Go.Proofs.Ytagjafkleemffaa
