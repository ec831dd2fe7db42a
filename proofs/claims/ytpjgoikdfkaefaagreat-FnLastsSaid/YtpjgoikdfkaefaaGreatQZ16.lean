/- Merged: Dr6. -/
import Derived.Test.YtpjgoikdfkaefaaGreatQZ13
import Derived.Test.YtpjgoikdfkaefaaGreatQZ12
import Derived.Deep.DeepCutAuto
import Derived.Deep.RegionWith
import Derived.Deep.RegionHeld3
import Derived.Deep.DrawnRows
namespace Go.Proofs.YtpjgoikdfkaefaaGreat
set_option linter.unusedVariables false
set_option linter.unusedSimpArgs false
open Go.RowKit

theorem row_one (w1 : World) (y : Nat) : (convert 22 9 (.slice (some ⟨w1.heap.size, 0, none⟩) 1 1)).run Tryz.prog (w1.alloc (.cells #[.int .u8 (y : Int)] 5)) = .ok (.string (strOf [y])) (w1.alloc (.cells #[.int .u8 (y : Int)] 5)) :=
  run_string_own (P := Tryz.prog) (base := 0) (D := [y]) Tryz.underlying22 Tryz.underlying5 Tryz.underlying9 (World.ownsRow_lit w1 #[.int .u8 (y : Int)] 1 (Nat.zero_le _) (by unfold maxLen; omega) rfl) rfl
attribute [local go_sem ↓] Go.wp_at_zero Go.wp_at_succ
set_option maxRecDepth 100000 in
set_option maxHeartbeats 4000000 in
theorem l1bend_any (g B : Nat) (s : ByteArray) (w : World) (hc : Cur w g B) (hs : s.size ≤ 100000) :
    Calls Tryz.prog 22 #[.pointer (some ⟨g, 0, none⟩), .string s] w fun e w' => ∃ t : ByteArray, e = .returned (.string t) ∧ t.size ≤ s.size + 1 ∧ Cur w' g B ∧ Only g w w' := by
  have hgl := hc.lt
  go_enter Tryz.func22, Tryz.ntmps22
  go_wp2_with fail
  refine (l1Below_any g B _ _ hc (by omega)).mono ?_
  rintro e wa ⟨r, rfl, hr0, hr1, _, ha, Oa⟩
  have hrs : r ≤ s.size := by have := hr1 (by omega); omega
  obtain ⟨p, rfl⟩ : ∃ p : Nat, r = p := ⟨r.toNat, by omega⟩
  have hps : p ≤ s.size := by omega
  clear hr0 hr1 hrs
  go_wp2_with fail
  refine (l1Below_any g B _ _ ha (by omega)).mono ?_
  rintro e wb ⟨k, rfl, hk0, hk1, _, hb, Ob⟩
  have hk3 : k ≤ 3 := by have := hk1 (by omega); omega
  have OB := Oa.trans_ Ob
  have hgb := hb.lt
  clear hk1 Oa Ob ha
  have hk : k = 0 ∨ k = 1 ∨ k = 2 ∨ k = 3 := by omega
  clear hk0 hk3
  have hp0 : (0 : Int) ≤ (p : Int) := by omega
  have hp1 : (p : Int) ≤ (s.size : Int) := by omega
  rcases hk with rfl | rfl | rfl | rfl
  · go_wp2
    go_region_with (go_at_call 39; refine (l1Byte_any g B wb.drew hb.drew).mono ?_; rintro e w1 ⟨x, rfl, hx0, hx1, hc1, hO⟩; obtain ⟨y, rfl⟩ : ∃ y : Nat, x = y := ⟨x.toNat, by omega⟩; have hy : (y : Int) % 256 = y := (by omega); have hw : IntKind.u8.wrap (y : Int) = (y : Int) := (by rw [IntKind.wrap_u8']; exact hy); have hs1 : (strOf [y]).size = 1 := strOf_size [y]; have hq := row_one w1 y)
    all_goals
      go_wp2
      go_ret
      refine ⟨_, rfl, ?_, hc1.alloc _, ?_⟩
      · simp [ByteArray.size_append, ByteArray.size_extract, strOf_size]; omega
      · exact ⟨((OB.drew.trans_ hO).alloc _).os, ((OB.drew.trans_ hO).alloc _).tape, ((OB.drew.trans_ hO).alloc _).output, ((OB.drew.trans_ hO).alloc _).size, ((OB.drew.trans_ hO).alloc _).block⟩
  · go_wp2
    go_ret
    refine ⟨_, rfl, ?_, hb, OB⟩
    simp [ByteArray.size_extract]; omega
  · by_cases hlt : p < s.size
    · have hp2 : (p : Int) + 1 ≤ (s.size : Int) := by omega
      go_wp2
      go_quiet (fail)
      go_wp2
      go_ret
      refine ⟨_, rfl, ?_, hb.drewN _, OB.drewN _⟩
      simp [ByteArray.size_append, ByteArray.size_extract]; omega
    · go_wp2
      go_ret
      refine ⟨_, rfl, ?_, hb, OB⟩
      rw [ByteArray.size_append]; show s.size + 1 ≤ _; omega
  · by_cases hlt : p < s.size
    · have hcv := fun W : World => run_bytes_of_string (P := Tryz.prog) W 9 22 5 s Tryz.underlying9 Tryz.underlying22 Tryz.underlying5
      have hrow := Row.ofString wb 5 s (by unfold maxLen; omega)
      have hge := grownCap_ge wb s.size 0 5
      have cp := hrow.cell p (.int .u8 (byteAt s p : Int)) (by rw [u8s_get _ _ (by rw [bytesOf_len]; exact hlt), bytesOf_get])
      have fp := hrow.free p (by omega)
      have hlb := byteAt_lt s p
      have hbX := hb.alloc (.cells (bytesRow s (grownCap wb s.size 0 5)) 5 ((bytesRow s (grownCap wb s.size 0 5)).size, (bytesRow s (grownCap wb s.size 0 5)).size + 1))
      have OX := OB.alloc (.cells (bytesRow s (grownCap wb s.size 0 5)) 5 ((bytesRow s (grownCap wb s.size 0 5)).size, (bytesRow s (grownCap wb s.size 0 5)).size + 1))
      have hpI : 0 ≤ (p : Int) ∧ (p : Int) < (s.size : Int) := by omega
      have hsz : wb.heap.size ≠ g := by omega
      obtain ⟨z, hz⟩ : ∃ z : Nat, z = byteAt s p := ⟨_, rfl⟩
      rw [← hz] at cp hlb
      go_wp2
      clear hcv hz
      generalize hO' : (Obj.cells (bytesRow s (grownCap wb s.size 0 5)) 5 ((bytesRow s (grownCap wb s.size 0 5)).size, (bytesRow s (grownCap wb s.size 0 5)).size + 1)) = O at *
      clear hO'
      generalize hcap : grownCap wb s.size 0 5 = cap at *
      clear hcap
      go_region_with (go_at_call 21; refine (l1Below_any g B _ _ hbX.drew.drew (by omega)).mono ?_; rintro e w1 ⟨r, rfl, hr0, hr1, _, hc1, hO⟩; obtain ⟨q, rfl⟩ : ∃ q : Nat, r = q := ⟨r.toNat, by omega⟩; have hr7 : q < 8 := (by (have := hr1 (by omega)); omega); have cq := ((ocell hO).1 wb.heap.size p (by simp) hsz).trans cp; have fq := ((ocell hO).2 wb.heap.size p (by simp) hsz).trans fp; clear hr0 hr1)
      all_goals
        obtain ⟨x, hx⟩ : ∃ x : Nat, bits BinOp.xor IntKind.u8 (z : Int) (IntKind.u8.wrap (2 ^ q)) = (x : Int) := by
          rw [IntKind.wrap_u8']
          exact ⟨_, u8_xor _ _ (by omega) (by omega) (Int.emod_nonneg _ (by decide)) (Int.emod_lt_of_pos _ (by decide))⟩
        rw [hx]
        have row1 : Row w1 wb.heap.size 5 (.slice (some ⟨wb.heap.size, 0, none⟩) s.size cap) s.size (u8s (bytesOf s)) := hrow.keep fun k hk => by
          simp only [Value.ownBlock, Option.some.injEq] at hk
          subst hk
          exact hO.block _ (by simp) (by simpa using hsz)
        have row2 := row1.store p (.int .u8 (x : Int))
        rw [← u8s_set] at row2
        have hrun := run_string_row (P := Tryz.prog) (src := 22) (dst := 9) Tryz.underlying22 Tryz.underlying5 Tryz.underlying9 row2
        have hcf := hc1.store (p := ⟨wb.heap.size, p, none⟩) (by simp; omega) (.int .u8 (x : Int))
        have hOf := (OX.drew.drew.trans_ hO).store (p := ⟨wb.heap.size, p, none⟩) (.inr (by have := OB.size; simp; omega)) (.int .u8 (x : Int))
        clear hx row1 row2 hrow cp fp cq fq
        go_wp2
        go_ret
        refine ⟨_, rfl, ?_, hcf, hOf⟩
        rw [strOf_size, List.length_set, bytesOf_len]; omega
    · go_wp2
      go_ret
      refine ⟨_, rfl, ?_, hb, OB⟩
      rw [ByteArray.size_append]; show s.size + 1 ≤ _; omega
end Go.Proofs.YtpjgoikdfkaefaaGreat
