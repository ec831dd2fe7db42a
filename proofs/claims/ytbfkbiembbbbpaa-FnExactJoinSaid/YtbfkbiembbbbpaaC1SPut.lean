/- Chapter 1: Put of the model. -/
import Derived.Test.YtbfkbiembbbbpaaC1Close
namespace Go.Proofs.Ytbfkbiembbbbpaa
set_option linter.unusedVariables false
set_option linter.unusedSimpArgs false
open Go.RowKit

theorem okB_room {s : ByteArray} {n : Nat} (h : okB s n = true) : n ≤ 400000 ∧ n ≤ 8 * s.size ∧ s.size ≤ 50000 := by
  rw [okB_nat] at h; omega

theorem own_below {w w' : World} {base : Nat} {e : TypeId} {size : Nat} {v : Value} {n : Nat} {xs : List Value} (h : w.ownsRow base e size v n xs) (hb : Below w.heap.size w w') : w'.ownsRow base e size v n xs :=
  h.kept (row := none) ⟨hb.os, hb.tape, hb.output, hb.size, fun i hi _ => hb.block i hi⟩ (by cases hv : v.ownBlock <;> simp)

set_option maxHeartbeats 1000000 in
theorem specPut_yes (s : ByteArray) (n v k : Nat) (w : World) (hs : s.size ≤ maxLen) (hok : okB s n = true) (hk : k ≤ 32) (hv : v < 2 ^ k) (hr : n + k ≤ 400000) :
    Calls Try.prog 15 #[.agg #[.string s, .int .i64 n], .int .i64 v, .int .i64 k] w fun e w' =>
      ∃ D, Packs D (row s 0 n ++ nbits v k) ∧ e = .returned (.tuple #[.agg #[.string (strOf D), .int .i64 ((n + k : Nat) : Int)], .bool true]) ∧ Below w.heap.size w w' := by
  obtain ⟨i0, hi, hz0, hz1, hz2⟩ := info_parts Try.info5
  have hroom := okB_room hok
  have hv2 : v < 2 ^ 32 := Nat.lt_of_lt_of_le hv (Nat.pow_le_pow_right (by omega) hk)
  have hge : ¬ (wrap64 (2 ^ k) ≤ (v : Int)) := by
    have h32 : 2 ^ k ≤ 2 ^ 32 := Nat.pow_le_pow_right (by omega) hk
    have e : ((2 : Int) ^ k) = ((2 ^ k : Nat) : Int) := by simp
    rw [e, wrap64_n _ (by omega)]; omega
  go_enter Try.func15, Try.ntmps15
  go_wp2_with fail
  refine (specBitsOk_any s n _ hs (by omega) (by omega)).mono ?_
  rintro e wa ⟨rfl, Ba⟩
  obtain ⟨Ca, Fa, La⟩ := bcell3 Ba
  have ya := Ba.size; (try simp at ya)
  go_wp2_with fail
  refine (l1open_any s n _ (by omega) (by omega) (by omega)).mono ?_
  rintro e wb ⟨v0, rfl, hown, Bb, lb⟩
  obtain ⟨Cb, Fb, Lb⟩ := bcell3 Bb
  have yb := Bb.size
  go_wp2_with fail
  refine (l1num_any v k _ hk hv2).mono ?_
  rintro e wc ⟨rfl, hown2, Bc⟩
  obtain ⟨Cc, Fc, Lc⟩ := bcell3 Bc
  have yc := Bc.size
  have hown3 := own_below hown Bc
  go_wp2_with (at_builtin; refine wpList_append_own _ rfl _ _ 22 rfl (wa.heap.size + 1) 5 i0 (.int .u8 0) 1 1 Try.underlying22 hi hz0 hz1 hz2 rfl (by decide) _ _ _ rfl hown3 ⟨wb.heap.size, 0, none⟩ k k (u8s (nbits v k)) rfl ?c0 ?c1 ?c2 ?c3 ?c4 ?c5 ?_)
  case c0 => rw [u8s_len, nbits_len, Nat.mul_one]
  case c1 => exact fun j u hu => hown2.cells (g := wb.heap.size) rfl j u hu
  case c2 => exact u8s_one _
  case c3 => unfold maxLen; omega
  case c4 => omega
  case c5 => omega
  intro v1 wd hown4 hgrow _
  rw [← u8s_append] at hown4
  have Bd : Below (wa.heap.size + 1) wc wd := (Below.refl _ _).grown hgrow (by omega) (fun g hg => (hown3.lt g hg).1)
  have yd := Bd.size
  have hlen : (row s 0 n ++ nbits v k).length = n + k := by rw [List.length_append, row_len, nbits_len]
  have hbits : ∀ b ∈ row s 0 n ++ nbits v k, b < 2 := by
    intro b hb
    rcases List.mem_append.1 hb with h | h
    · exact row_bits _ _ _ _ h
    · exact nbits_lt _ _ _ h
  have hR := ((((Has.freshAt (by simp) 24 #[.string ⟨#[]⟩, .int .i64 0] : Has ((w.alloc (.cells #[.string s, .int .i64 n] 24)).alloc _) (w.heap.size + 1) _ _).below Ba (by (try simp); (try omega))).below Bb (by omega)).below Bc (by omega)).below Bd (by omega)
  have hc1 := (l1close_own _ hbits v1 _ wd (by rw [hlen]; omega) (by rw [hlen]; exact hown4))
  rw [hlen] at hc1
  clear hown hown2 hown3 hown4 hgrow hlen hbits
  go_wp2_with fail
  refine hc1.mono ?_
  rintro e we ⟨D, hD, rfl, Be⟩
  have hRe := hR.below Be (by omega)
  have e0 := hRe.cell 0
  have e1 := hRe.cell 1
  have g0 := hRe.free 0
  have g1 := hRe.free 1
  simp at e0 e1
  clear hc1 hR hRe Ca Fa La Cb Fb Lb Cc Fc Lc
  go_wp2
  refine bodyPost_ret (v := .tuple #[.agg #[.string (strOf D), .int .i64 ((n + k : Nat) : Int)], .bool true]) (by simp [results, Try.results15, go_sem, e0, e1, g0, g1]) rfl ⟨D, hD, rfl, ?_⟩
  repeat (first | exact Below.refl _ _ | assumption | refine Below.alloc ?_ (by (try simp); (try omega)) _ | refine Below.setCell ?_ (by (try simp); (try omega)) _ | refine Below.drew ?_ | refine bel_then (by assumption) (by (try simp); (try omega)) ?_ | refine only_then (by assumption) (by (try simp); (try omega)) (by (try simp); (try omega)) ?_ | refine bel_thenB (by assumption) (by (try simp); (try omega)) ?_)
end Go.Proofs.Ytbfkbiembbbbpaa
