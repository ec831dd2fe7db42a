/- Chapter 1: bits one by one (the model). -/
import Derived.Test.YtbfkbiembbbbpaaC1Get
import Derived.Test.YtbfkbiembbbbpaaStr
import Derived.Maps.AppendAt
namespace Go.Proofs.Ytbfkbiembbbbpaa
set_option linter.unusedVariables false
set_option linter.unusedSimpArgs false
open Go.RowKit

theorem Try.info5 : (Try.prog.info? 5).map (fun i => (i.zero, i.size, i.bytes)) = some (some (.int .u8 0), 1, 1) := by kernel_rfl
set_option maxHeartbeats 1000000 in
theorem l1open_form (s : ByteArray) (n : Nat) (w : World) (hs : s.size ≤ 1048576) (hn : n ≤ 400000) (hl : n ≤ 8 * s.size) :
    Calls Try.prog 48 #[.agg #[.string s, .int .i64 n]] w fun e w' =>
      ∃ g c, e = .returned (.slice (some ⟨g, 0, none⟩) n c) ∧ w'.ownsRow (w.heap.size + 1) 5 1 (.slice (some ⟨g, 0, none⟩) n c) n (u8s (row s 0 n)) ∧ Below w.heap.size w w' ∧ w.heap.size < w'.heap.size := by
  obtain ⟨i0, hi, hz0, hz1, hz2⟩ := info_parts Try.info5
  go_enter Try.func48, Try.ntmps48
  go_wp2_with (at_make; refine wpList_make_own _ rfl _ _ 22 rfl (w.heap.size + 1) 5 i0 (.int .u8 0) 1 Try.underlying22 hi hz0 hz1 .i64 .i64 _ n rfl rfl rfl ?c1 ?c2 ?c3 ?_)
  case c1 => rw [hz2]; omega
  case c2 => unfold maxLen; omega
  case c3 => simp
  intro w1 hown1 hg1
  have hB1 : Has w1 w.heap.size 24 #[.string s, .int .i64 n] := (Has.fresh w _ _).grown hg1 (by simp)
  have hb1 : Below w.heap.size w w1 := ((Below.refl _ _).alloc (Nat.le_refl _) _).grown hg1 (by simp) (by simp)
  clear hg1
  go_wp2
  go_loopw [3, 4] (fun v i wr => ∃ k : Nat, k ≤ n ∧ i = .int .i64 k ∧ wr.ownsRow (w.heap.size + 1) 5 1 v k (u8s (row s 0 k)) ∧ Has wr w.heap.size 24 #[.string s, .int .i64 n] ∧ Below w.heap.size w wr ∧ Hid (v ≠ .slice none 0 0)) (fun _ i _ => n - (intOf i).toNat)
  case atStart => exact ⟨0, Nat.zero_le _, rfl, by simpa [row, u8s] using hown1, hB1, hb1, hidden (by simp)⟩
  case round =>
    obtain ⟨k, hk, rfl, hown, hB, hbl, hnn⟩ := hrel
    have c0 := hB.cell 0
    have c1 := hB.cell 1
    have hlt0 := hB.lt
    simp at c0 c1
    clear hB1 hb1 hown1
    by_cases hlt : k < n
    · go_wp2_with (first | (go_at_call 66; refine (l1one_any s k _ (by unfold maxLen; omega) (by omega)).mono ?_; rintro e w' ⟨rfl, rfl⟩) | (at_builtin; refine wpList_append_own _ rfl _ _ 22 rfl (w.heap.size + 1) 5 i0 (.int .u8 0) 1 1 Try.underlying22 hi hz0 hz1 hz2 rfl (by decide) _ _ _ rfl (hown.alloc _) ⟨wr.heap.size, 0, none⟩ 1 1 [.int .u8 (bit s k : Int)] rfl rfl ?c1 ?c2 ?c3 ?c4 ?c5 ?_))
      case c1 => exact cell_one_new _ _ _
      case c2 => exact fun x hx => by simp at hx; subst hx; rfl
      case c3 => unfold maxLen; omega
      case c4 => omega
      case c5 => simp; omega
      intro v' w3 hown' hgrow hnn'
      have HNN : Hid (v' ≠ .slice none 0 0) := hidden (by simpa using hnn')
      clear hnn'
      have hB3 := (hB.alloc (.cells #[.int .u8 (bit s k : Int)] 5)).grown hgrow (own_ne hown (by omega))
      have hbl3 : Below w.heap.size w w3 := (hbl.alloc (by omega) _).grown hgrow (by simp; omega) (fun g hg => by have := (hown.lt g hg).1; omega)
      rw [← u8s_snoc, show bit s k = bit s (0 + k) by rw [Nat.zero_add], ← row_succ] at hown'
      clear hB hbl hown c0 c1 hgrow
      go_wp2
      go_roundw
      case rel => exact ⟨k + 1, by omega, by go_num, hown', hB3, hbl3, HNN⟩
      case measure => simp [intOf]; omega
    · have hkn : k = n := by omega
      subst hkn
      go_wp2
      go_ret
      rcases hown.2 with ⟨hv, _⟩ | ⟨g, cp, cur, hv, _⟩
      · exact absurd hv hnn.out
      · rw [hv] at hown
        exact ⟨g, cp, congrArg Ending.returned hv, hown, hbl, hlt0⟩
theorem l1open_any (s : ByteArray) (n : Nat) (w : World) (hs : s.size ≤ 1048576) (hn : n ≤ 400000) (hl : n ≤ 8 * s.size) :
    Calls Try.prog 48 #[.agg #[.string s, .int .i64 n]] w fun e w' =>
      ∃ v, e = .returned v ∧ w'.ownsRow (w.heap.size + 1) 5 1 v n (u8s (row s 0 n)) ∧ Below w.heap.size w w' ∧ w.heap.size < w'.heap.size :=
  (l1open_form s n w hs hn hl).mono fun e w' ⟨g, c, he, h⟩ => ⟨_, he, h⟩
end Go.Proofs.Ytbfkbiembbbbpaa
