/- Chapter 2: the walk of the law over one turned byte. -/
import Derived.Test.YtbfkbiembbbbpaaDrCrc
import Derived.Test.YtbfkbiembbbbpaaMarks
import Derived.Test.YtbfkbiembbbbpaaRow
import Derived.Deep.RegionHeld3
import Derived.Deep.RegionWith
import Derived.Deep.DrawnRows
namespace Go.Proofs.Ytbfkbiembbbbpaa
set_option linter.unusedVariables false
set_option linter.unusedSimpArgs false
open Go.RowKit

theorem getD_lt256 (s : ByteArray) (k v : Nat) (hv : v < 256) (j : Nat) : ((bytesOf s).set k v).getD j 0 < 256 := by
  rw [List.getD_eq_getElem?_getD, List.getElem?_set]
  by_cases h : k = j
  · subst h
    by_cases hl : k < (bytesOf s).length
    · simp [hl, hv]
    · simp [hl]
  · have := bytesOf_get s j
    rw [List.getD_eq_getElem?_getD] at this
    simp only [h, if_false, this]
    exact byteAt_lt _ _
theorem turned_ne (s : ByteArray) (k v : Nat) (hk : k < s.size) (hv : v < 256) (hne : v ≠ byteAt s k) : ¬ crcN (strOf ((bytesOf s).set k v)) = crcN s := by
  intro h
  have h2 := mask_inj h
  have hl : k < (bytesOf s).length := by rw [bytesOf_len]; exact hk
  have e : (bytesOf s)[k] = byteAt s k := by rw [← bytesOf_get]; simp [List.getD_eq_getElem?_getD, hl]
  rw [bytesOf_strOf _ (getD_lt256 s k v hv)] at h2
  have e1 : (bytesOf s).set k v = (bytesOf s).take k ++ v :: (bytesOf s).drop (k + 1) := List.set_eq_take_append_cons_drop .. ▸ by simp [hl]
  have e2 : bytesOf s = (bytesOf s).take k ++ byteAt s k :: (bytesOf s).drop (k + 1) := by
    rw [← e, List.getElem_cons_drop, List.take_append_drop]
  rw [e1] at h2
  exact crcL_turned 4294967295 _ _ v (byteAt s k) (by omega) (fun b hb => bytesOf_lt s b (List.mem_of_mem_take hb)) (fun b hb => bytesOf_lt s b (List.mem_of_mem_drop hb)) hv (byteAt_lt _ _) hne (h2.trans (congrArg _ e2))
theorem xor_ne (y z : Nat) (hz : 0 < z) : ¬ y ^^^ z = y := by
  intro h
  have : y ^^^ z = y ^^^ 0 := by rw [Nat.xor_zero]; exact h
  have := xor_cancel_l this
  omega
theorem turned_byte (y q : Nat) (hy : y < 256) (hq : q ≤ 255) : bits BinOp.xor IntKind.u8 (y : Int) (IntKind.u8.wrap (IntKind.i64.wrap (1 + (q : Int).tmod 255))) = ((y ^^^ (1 + q % 255) : Nat) : Int) := by
  have e1 : (q : Int).tmod 255 = ((q % 255 : Nat) : Int) := by rw [Int.tmod_eq_emod_of_nonneg (by omega)]; omega
  have e2 : (1 : Int) + ((q % 255 : Nat) : Int) = ((1 + q % 255 : Nat) : Int) := by omega
  have e3 : IntKind.u8.wrap ((1 + q % 255 : Nat) : Int) = ((1 + q % 255 : Nat) : Int) := by rw [IntKind.wrap_u8']; omega
  rw [e1, e2, wrap_i64_n _ (by omega), e3]
  exact u8_xor_nat y (1 + q % 255) hy (by omega)
attribute [local go_sem ↓] Go.wp_at_zero Go.wp_at_succ
set_option maxRecDepth 100000 in
set_option maxHeartbeats 1000000 in
theorem walk_FnTurned (w : World) (a0 : Option Addr) (len0 cap0 : Nat) (z0 : List Int) (w0 : IsRow .u8 w a0 len0 cap0 z0) :
    Calls Try.prog 7 #[.slice a0 len0 cap0] w fun e w' => e = .returned (.bool true) ∧ Below w.heap.size w w' := by
  have hcode := Code.ofRow w0
  clear w0
  go_enter Try.func7, Try.ntmps7
  go_wp2_with fail
  refine (drawCrc_any _ _ _ _ _ hcode).mono ?_
  rintro e wa ⟨s, rfl, hs, Ba⟩
  by_cases h0 : s.size = 0
  · have h0' : ((s.size : Int) == 0) = true := by rw [beq_iff_eq]; omega
    go_wp2_with (go_at_call 26; refine (marks_any _).mono ?_; rintro e w1 ⟨rfl, B1⟩)
    go_ret
    exact ⟨rfl, Ba.trans (B1.mono Ba.size)⟩
  · have h0' : ((s.size : Int) == 0) = false := by rw [beq_eq_false_iff_ne]; omega
    have hcv := fun W : World => run_bytes_of_string (P := Try.prog) W 9 22 5 s Try.underlying9 Try.underlying22 Try.underlying5
    have hrow := Row.ofString wa 5 s (by unfold maxLen; omega)
    generalize hc : grownCap wa s.size 0 5 = c at hrow
    have hcode1 := hcode.below (Ba.alloc Ba.size (.cells (bytesRow s c) 5 ((bytesRow s c).size, (bytesRow s c).size + 1))).drew
    have bb := (Ba.alloc Ba.size (.cells (bytesRow s c) 5 ((bytesRow s c).size, (bytesRow s c).size + 1))).drew
    replace hrow := hrow.drew
    have hs0 : 0 < s.size := by omega
    clear h0 hcode
    go_wp2_with fail
    refine (at_any _ _ _ _ 1 _ _ hcode1 ⟨by omega, by omega⟩).mono ?_
    rintro e wx ⟨x, rfl, hx0, hx1, rfl⟩
    clear hcv
    have hm := below_lemma x s.size hx0 (by omega)
    obtain ⟨k, hk⟩ : ∃ k : Nat, x % (s.size : Int) = k := ⟨(x % (s.size : Int)).toNat, by omega⟩
    rw [hk] at hm
    have hks : k < s.size := by omega
    have ck := hrow.cell k _ (u8s_get (bytesOf s) k (by rw [bytesOf_len]; exact hks))
    rw [bytesOf_get] at ck
    have hge := grownCap_ge wa s.size 0 5
    have fk := hrow.free k (by omega)
    obtain ⟨y, hy⟩ : ∃ y, byteAt s k = y := ⟨_, rfl⟩
    have hy256 := byteAt_lt s k
    rw [hy] at ck hy256
    obtain ⟨W1, hW1⟩ : ∃ W1, (wa.alloc (.cells (bytesRow s c) 5 ((bytesRow s c).size, (bytesRow s c).size + 1))).drew = W1 := ⟨_, rfl⟩
    have hl1 : wa.heap.size < W1.heap.size := by rw [← hW1]; simp
    rw [hW1] at ck fk hrow hcode1 bb ⊢
    have hk0 := hm.1
    have hk1 := hm.2
    clear hW1 hc hm hge
    go_wp2
    go_region_with (first | (go_at_call 23; (first | (refine (at_any _ _ _ _ 2 _ W1.drew hcode1 ⟨by omega, by omega⟩).mono ?_) | (refine (at_any _ _ _ _ 2 _ W1.drew.drew hcode1 ⟨by omega, by omega⟩).mono ?_)); rintro e wx ⟨x2, rfl, hx20, hx21, rfl⟩))
    all_goals
      obtain ⟨q, rfl⟩ : ∃ q : Nat, x2 = q := ⟨x2.toNat, by omega⟩
      have hV := turned_byte y q hy256 (by omega)
      obtain ⟨v, hv⟩ : ∃ v, y ^^^ (1 + q % 255) = v := ⟨_, rfl⟩
      have hv256 : v < 256 := by rw [← hv]; exact Nat.xor_lt_two_pow (n := 8) hy256 (by omega)
      have hvy : ¬ v = y := by rw [← hv]; exact xor_ne y _ (by omega)
      rw [hv] at hV
      rw [hV]
      have hrow2 := (hrow.store k (.int .u8 (v : Int))).drew
      rw [← u8s_set] at hrow2
      have hcv := run_string_row (P := Try.prog) (src := 22) (dst := 9) Try.underlying22 Try.underlying5 Try.underlying9 hrow2
      have bb2 := (bb.setCell (p := ⟨wa.heap.size, k, none⟩) Ba.size (.int .u8 (v : Int))).drew
      have hne := turned_ne s k v hks hv256 (by rw [hy]; exact hvy)
      have hsz : (strOf ((bytesOf s).set k v)).size ≤ maxLen := by rw [strOf_size, List.length_set, bytesOf_len]; unfold maxLen; omega
      have hsz2 : s.size ≤ maxLen := by unfold maxLen; omega
      generalize strOf ((bytesOf s).set k v) = t at hcv hne hsz
      generalize (W1.setCell ⟨wa.heap.size, k, none⟩ (.int .u8 (v : Int))).drew = W2 at hcv bb2 ⊢
      obtain ⟨p1, hp1⟩ : ∃ p1, crcN t = p1 := ⟨_, rfl⟩
      obtain ⟨p2, hp2⟩ : ∃ p2, crcN s = p2 := ⟨_, rfl⟩
      rw [hp1, hp2] at hne
      have hne2 : ((p1 : Int) != (p2 : Int)) = true := by simp; omega
      have P1 := hidden hp1
      have P2 := hidden hp2
      clear hp1 hp2 hV hv hrow2 hrow hcode1 ck fk hy bb Ba h0' hx0 hx1 hx20 hx21
      go_wp2_with (first | (go_at_call 32; first | ((with_reducible refine (implCrc_any t _ hsz).mono ?_); rintro e w1 ⟨rfl, B1⟩; rw [P1.out]; replace bb2 := bb2.trans (B1.mono bb2.size)) | ((with_reducible refine (implCrc_any s _ hsz2).mono ?_); rintro e w1 ⟨rfl, B1⟩; rw [P2.out]; replace bb2 := bb2.trans (B1.mono bb2.size))) | (go_at_call 33; refine (specCrc_any s _ hsz2).mono ?_; rintro e w5 ⟨rfl, rfl⟩; rw [P2.out]) | (go_at_call 26; refine (marks_any _).mono ?_; rintro e w1 ⟨rfl, B1⟩; replace bb2 := bb2.trans (B1.mono bb2.size)))
      go_ret
      exact ⟨rfl, bb2⟩
end Go.Proofs.Ytbfkbiembbbbpaa
