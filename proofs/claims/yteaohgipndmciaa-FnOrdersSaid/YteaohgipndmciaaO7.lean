/- Merged: Dr6, Dr7C, Dr7D. -/
import Derived.Test.YteaohgipndmciaaO4
import Derived.Test.YteaohgipndmciaaO5
import Derived.Test.YteaohgipndmciaaO3
import Derived.Test.YteaohgipndmciaaO2
import Derived.Deep.DeepCutAuto
import Derived.Deep.RegionWith
import Derived.Deep.RegionHeld3
import Derived.Deep.DrawnRows
namespace Go.Proofs.Yteaohgipndmciaa
set_option linter.unusedVariables false
set_option linter.unusedSimpArgs false
open Go.RowKit

theorem row_one (w1 : World) (y : Nat) : (convert 22 9 (.slice (some ⟨w1.heap.size, 0, none⟩) 1 1)).run Try.prog (w1.alloc (.cells #[.int .u8 (y : Int)] 5)) = .ok (.string (strOf [y])) (w1.alloc (.cells #[.int .u8 (y : Int)] 5)) :=
  run_string_own (P := Try.prog) (base := 0) (D := [y]) Try.underlying22 Try.underlying5 Try.underlying9 (World.ownsRow_lit w1 #[.int .u8 (y : Int)] 1 (Nat.zero_le _) (by unfold maxLen; omega) rfl) rfl
attribute [local go_sem ↓] Go.wp_at_zero Go.wp_at_succ
set_option maxRecDepth 100000 in
set_option maxHeartbeats 4000000 in
theorem l1bend_any (g B : Nat) (s : ByteArray) (w : World) (hc : Cur w g B) (hs : s.size ≤ 100000) :
    Calls Try.prog 55 #[.pointer (some ⟨g, 0, none⟩), .string s] w fun e w' => ∃ t : ByteArray, e = .returned (.string t) ∧ t.size ≤ s.size + 1 ∧ Cur w' g B ∧ Only g w w' := by
  have hgl := hc.lt
  go_enter Try.func55, Try.ntmps55
  go_wp2_with fail
  refine (l1Below_any g B _ _ hc (by omega)).mono ?_
  rintro e wa ⟨r, rfl, hr0, hr1, _, ha, Oa⟩
  have hrs : r ≤ s.size := by have := hr1 (by omega); omega
  obtain ⟨p, rfl⟩ : ∃ p : Nat, r = p := ⟨r.toNat, by omega⟩
  have hps : p ≤ s.size := by omega
  clear hr0 hr1 hrs
  go_wp2_with fail
  refine (l1Below_any g B _ _ ha (by omega)).mono ?_
  rintro e wb ⟨k, rfl, hk0, hk1, _, hb, Ob⟩
  have hk3 : k ≤ 3 := by have := hk1 (by omega); omega
  have OB := Oa.trans_ Ob
  have hgb := hb.lt
  clear hk1 Oa Ob ha
  have hk : k = 0 ∨ k = 1 ∨ k = 2 ∨ k = 3 := by omega
  clear hk0 hk3
  have hp0 : (0 : Int) ≤ (p : Int) := by omega
  have hp1 : (p : Int) ≤ (s.size : Int) := by omega
  rcases hk with rfl | rfl | rfl | rfl
  · go_wp2
    go_region_with (go_at_call 94; refine (l1Byte_any g B wb.drew hb.drew).mono ?_; rintro e w1 ⟨x, rfl, hx0, hx1, hc1, hO⟩; obtain ⟨y, rfl⟩ : ∃ y : Nat, x = y := ⟨x.toNat, by omega⟩; have hy : (y : Int) % 256 = y := (by omega); have hw : IntKind.u8.wrap (y : Int) = (y : Int) := (by rw [IntKind.wrap_u8']; exact hy); have hs1 : (strOf [y]).size = 1 := strOf_size [y]; have hq := row_one w1 y)
    all_goals
      go_wp2
      go_ret
      refine ⟨_, rfl, ?_, hc1.alloc _, ?_⟩
      · simp [ByteArray.size_append, ByteArray.size_extract, strOf_size]; omega
      · exact ⟨((OB.drew.trans_ hO).alloc _).os, ((OB.drew.trans_ hO).alloc _).tape, ((OB.drew.trans_ hO).alloc _).output, ((OB.drew.trans_ hO).alloc _).size, ((OB.drew.trans_ hO).alloc _).block⟩
  · go_wp2
    go_ret
    refine ⟨_, rfl, ?_, hb, OB⟩
    simp [ByteArray.size_extract]; omega
  · by_cases hlt : p < s.size
    · have hp2 : (p : Int) + 1 ≤ (s.size : Int) := by omega
      go_wp2
      go_quiet (fail)
      go_wp2
      go_ret
      refine ⟨_, rfl, ?_, hb.drewN _, OB.drewN _⟩
      simp [ByteArray.size_append, ByteArray.size_extract]; omega
    · go_wp2
      go_ret
      refine ⟨_, rfl, ?_, hb, OB⟩
      rw [ByteArray.size_append]; show s.size + 1 ≤ _; omega
  · by_cases hlt : p < s.size
    · have hcv := fun W : World => run_bytes_of_string (P := Try.prog) W 9 22 5 s Try.underlying9 Try.underlying22 Try.underlying5
      have hrow := Row.ofString wb 5 s (by unfold maxLen; omega)
      have hge := grownCap_ge wb s.size 0 5
      have cp := hrow.cell p (.int .u8 (byteAt s p : Int)) (by rw [u8s_get _ _ (by rw [bytesOf_len]; exact hlt), bytesOf_get])
      have fp := hrow.free p (by omega)
      have hlb := byteAt_lt s p
      have hbX := hb.alloc (.cells (bytesRow s (grownCap wb s.size 0 5)) 5 ((bytesRow s (grownCap wb s.size 0 5)).size, (bytesRow s (grownCap wb s.size 0 5)).size + 1))
      have OX := OB.alloc (.cells (bytesRow s (grownCap wb s.size 0 5)) 5 ((bytesRow s (grownCap wb s.size 0 5)).size, (bytesRow s (grownCap wb s.size 0 5)).size + 1))
      have hpI : 0 ≤ (p : Int) ∧ (p : Int) < (s.size : Int) := by omega
      have hsz : wb.heap.size ≠ g := by omega
      obtain ⟨z, hz⟩ : ∃ z : Nat, z = byteAt s p := ⟨_, rfl⟩
      rw [← hz] at cp hlb
      go_wp2
      clear hcv hz
      generalize hO' : (Obj.cells (bytesRow s (grownCap wb s.size 0 5)) 5 ((bytesRow s (grownCap wb s.size 0 5)).size, (bytesRow s (grownCap wb s.size 0 5)).size + 1)) = O at *
      clear hO'
      generalize hcap : grownCap wb s.size 0 5 = cap at *
      clear hcap
      go_region_with (go_at_call 83; refine (l1Below_any g B _ _ hbX.drew.drew (by omega)).mono ?_; rintro e w1 ⟨r, rfl, hr0, hr1, _, hc1, hO⟩; obtain ⟨q, rfl⟩ : ∃ q : Nat, r = q := ⟨r.toNat, by omega⟩; have hr7 : q < 8 := (by (have := hr1 (by omega)); omega); have cq := ((ocell hO).1 wb.heap.size p (by simp) hsz).trans cp; have fq := ((ocell hO).2 wb.heap.size p (by simp) hsz).trans fp; clear hr0 hr1)
      all_goals
        obtain ⟨x, hx⟩ : ∃ x : Nat, bits BinOp.xor IntKind.u8 (z : Int) (IntKind.u8.wrap (2 ^ q)) = (x : Int) := by
          rw [IntKind.wrap_u8']
          exact ⟨_, u8_xor _ _ (by omega) (by omega) (Int.emod_nonneg _ (by decide)) (Int.emod_lt_of_pos _ (by decide))⟩
        rw [hx]
        have row1 : Row w1 wb.heap.size 5 (.slice (some ⟨wb.heap.size, 0, none⟩) s.size cap) s.size (u8s (bytesOf s)) := hrow.keep fun k hk => by
          simp only [Value.ownBlock, Option.some.injEq] at hk
          subst hk
          exact hO.block _ (by simp) (by simpa using hsz)
        have row2 := row1.store p (.int .u8 (x : Int))
        rw [← u8s_set] at row2
        have hrun := run_string_row (P := Try.prog) (src := 22) (dst := 9) Try.underlying22 Try.underlying5 Try.underlying9 row2
        have hcf := hc1.store (p := ⟨wb.heap.size, p, none⟩) (by simp; omega) (.int .u8 (x : Int))
        have hOf := (OX.drew.drew.trans_ hO).store (p := ⟨wb.heap.size, p, none⟩) (.inr (by have := OB.size; simp; omega)) (.int .u8 (x : Int))
        clear hx row1 row2 hrow cp fp cq fq
        go_wp2
        go_ret
        refine ⟨_, rfl, ?_, hcf, hOf⟩
        rw [strOf_size, List.length_set, bytesOf_len]; omega
    · go_wp2
      go_ret
      refine ⟨_, rfl, ?_, hb, OB⟩
      rw [ByteArray.size_append]; show s.size + 1 ≤ _; omega
end Go.Proofs.Yteaohgipndmciaa
namespace Go.Proofs.Yteaohgipndmciaa
set_option linter.unusedVariables false
set_option linter.unusedSimpArgs false
open Go.RowKit

theorem usedL_len (l : List Nat) : (usedL l).length ≤ 256 := by
  unfold usedL usedTo
  exact Nat.le_trans (List.length_filter_le _ _) (by simp)

set_option maxHeartbeats 1000000 in
set_option maxRecDepth 100000 in
theorem drawPutUsed_any (a : Option Addr) (len cap : Nat) (zs : List Int) (w : World) (hcode : Code w w.heap.size a len cap zs) :
    Calls Try.prog 14 #[.slice a len cap] w fun e w' => ∃ s : ByteArray, e = .returned (.string s) ∧ s.size ≤ 257 ∧ Below w.heap.size w w' := by
  have hl := hcode.1
  have K := hidden (fun (s : ByteArray) (W : World) (hs : s.size ≤ 1048576) => specUsed_any s W hs)
  have KL := hidden (fun (s : ByteArray) => usedL_len (bytesOf s))
  go_enter Try.func14, Try.ntmps14
  go_wp2_with fail
  refine (l1New_any _ _ _ _ _ hcode).mono ?_
  rintro e w1 ⟨g, rfl, hc1, b1⟩
  have hg := hc1.1
  go_wp2_with (go_at_call 53; refine (l1Size_any _ _ _ _ _ (by omega) (by omega) (by omega)).mono ?_; rintro e w2 ⟨m, rfl, m1, m2, rfl⟩)
  go_wp2_with fail
  refine (l7text_any g _ m _ hc1 (by omega) (by omega)).mono ?_
  rintro e w3 ⟨t, rfl, ht, hc3, O3⟩
  have B3 := only_then O3 hg b1.size b1
  clear O3 hc1 b1
  go_wp2_with fail
  refine (K.out t _ (by omega)).mono ?_
  rintro e w4 ⟨rfl, b4⟩
  have hc4 := hc3.below b4 hc3.lt
  have B4 := B3.trans (b4.mono B3.size)
  have ht2 : (strOf (usedL (bytesOf t))).size ≤ 256 := by rw [strOf_size]; exact KL.out t
  generalize strOf (usedL (bytesOf t)) = u at ht2 ⊢
  clear b4 B3 hc3
  go_wp2_with fail
  refine (l1Once_any g _ 5 _ hc4 (by omega)).mono ?_
  rintro e w5 ⟨b, rfl, hc5, O5⟩
  have B5 := only_then O5 hg B4.size B4
  clear O5 hc4 B4
  cases b with
  | true =>
    go_wp2_with fail
    refine (l1bend_any g _ u _ hc5 (by omega)).mono ?_
    rintro e w6 ⟨x, rfl, hx, hc6, O6⟩
    have B6 := only_then O6 hg B5.size B5
    go_wp2
    go_ret
    exact ⟨x, rfl, by omega, B6⟩
  | false =>
    go_wp2
    go_ret
    exact ⟨u, rfl, by omega, B5⟩
end Go.Proofs.Yteaohgipndmciaa
namespace Go.Proofs.Yteaohgipndmciaa
set_option linter.unusedVariables false
set_option linter.unusedSimpArgs false
open Go.RowKit

theorem only_bel7 {g : Nat} {a b c : World} (h : Only g a b) (k : Below b.heap.size b c) : Only g a c :=
  ⟨k.os.trans h.os, k.tape.trans h.tape, k.output.trans h.output, Nat.le_trans h.size k.size, fun i hi hne => (k.block i (Nat.lt_of_lt_of_le hi h.size)).trans (h.block i hi hne)⟩

set_option maxHeartbeats 1000000 in
set_option maxRecDepth 100000 in
theorem l7orderOf_any (g B : Nat) (s : ByteArray) (w : World) (hc : Cur w g B) (hs : s.size ≤ 1000) :
    Calls Try.prog 81 #[.pointer (some ⟨g, 0, none⟩), .string s] w fun e w' => ∃ o : ByteArray, e = .returned (.string o) ∧ o.size ≤ 256 ∧ Cur w' g B ∧ Only g w w' := by
  have hgl := hc.lt
  have K := hidden (fun (W : World) => specUsed_any s W (by omega))
  have KB := hidden (fun (W : World) => specByCount_any s W (by omega))
  have KL := hidden (usedL_len (bytesOf s))
  have KR := hidden (fun R (h : Ranked (bytesOf s) R) => ranked_len (byt_bytesOf s) h)
  go_enter Try.func81, Try.ntmps81
  go_wp2_with fail
  refine (l1Below_any g B _ _ hc (by omega)).mono ?_
  rintro e wb ⟨k, rfl, hk0, hk1, _, hb, OB⟩
  clear hk1
  by_cases e0 : k = 0
  · subst e0
    go_wp2_with fail
    refine (KB.out _).mono ?_
    rintro e wc ⟨R, hR, rfl, hcc⟩
    have hl := KR.out R hR
    have hl2 := KL.out
    go_wp2
    go_ret
    exact ⟨_, rfl, by rw [strOf_size]; omega, hb.below hcc hb.lt, only_bel7 OB hcc⟩
  by_cases e1 : k = 1
  · subst e1
    go_wp2_with fail
    refine (K.out _).mono ?_
    rintro e wc ⟨rfl, hcc⟩
    have hl2 := KL.out
    go_wp2
    go_ret
    exact ⟨_, rfl, by rw [strOf_size]; omega, hb.below hcc hb.lt, only_bel7 OB hcc⟩
  go_wp2_with fail
  refine (K.out _).mono ?_
  rintro e wc ⟨rfl, hcc⟩
  have hU : (strOf (usedL (bytesOf s))).size ≤ 256 := by rw [strOf_size]; exact KL.out
  generalize strOf (usedL (bytesOf s)) = U0 at hU ⊢
  have hC := hb.below hcc hb.lt
  have hO := only_bel7 OB hcc
  clear hcc hb OB KL K KB KR
  go_wp2
  go_loopw [5, 6] (fun u o wr => ∃ U O : ByteArray, u = .string U ∧ o = .string O ∧ U.size + O.size ≤ 256 ∧ Cur wr g B ∧ Only g w wr) (fun u _ _ => match u with | .string S => S.size | _ => 0)
  case atStart => exact ⟨_, _, rfl, rfl, hU, hC, hO⟩
  case round =>
    clear hC hO
    obtain ⟨U, O, rfl, rfl, hUO, hC, hO⟩ := hrel
    by_cases hlt : (0 : Int) < U.size
    · go_wp2_with fail
      refine (l1Below_any g B _ _ hC (by omega)).mono ?_
      rintro e wd ⟨r, rfl, hr0, hr1, _, hd, Od⟩
      have hr := hr1 (by omega)
      obtain ⟨q, rfl⟩ : ∃ q : Nat, r = q := ⟨r.toNat, by omega⟩
      have OD := hO.trans_ Od
      have hq : q < U.size := by omega
      have hq1 : q + 1 ≤ U.size := by omega
      clear hr1 Od hC hO
      obtain ⟨X, hX, hsl⟩ : ∃ X : ByteArray, X.size = 1 ∧ ∀ W : World, (Instr.slice 9 (.string U) (some (.int .i64 (q : Int))) (some (.int .i64 ((q : Int) + 1))) none).run Try.prog W = .ok (.string X) W :=
        ⟨U.extract (q : Int).toNat ((q : Int) + 1).toNat, by simp only [ByteArray.size_extract]; omega, fun W => run_slice_string (P := Try.prog) W 9 U .i64 .i64 (q : Int) ((q : Int) + 1) Try.underlying9 (by omega) (by omega) (by omega)⟩
      go_wp2
      go_region
      go_wp2
      go_roundw
      case rel => exact ⟨_, _, rfl, rfl, by simp only [ByteArray.size_append, ByteArray.size_extract]; omega, hd.drew, OD.drew⟩
      case measure => simp only [ByteArray.size_append, ByteArray.size_extract]; omega
    · go_wp2
      go_ret
      exact ⟨_, rfl, by omega, hC, hO⟩

set_option maxHeartbeats 1000000 in
set_option maxRecDepth 100000 in
theorem drawOrderOk_any (a : Option Addr) (len cap : Nat) (zs : List Int) (w : World) (hcode : Code w w.heap.size a len cap zs) :
    Calls Try.prog 69 #[.slice a len cap] w fun e w' => ∃ s : ByteArray, e = .returned (.string s) ∧ s.size ≤ 257 ∧ Below w.heap.size w w' := by
  go_enter Try.func69, Try.ntmps69
  go_wp2_with fail
  refine (l1New_any _ _ _ _ _ hcode).mono ?_
  rintro e w1 ⟨g, rfl, hc1, b1⟩
  have hg := hc1.1
  go_wp2_with fail
  refine (l7text_any g _ 20 _ hc1 (by omega) (by omega)).mono ?_
  rintro e w3 ⟨t, rfl, ht, hc3, O3⟩
  have B3 := only_then O3 hg b1.size b1
  clear O3 hc1 b1
  go_wp2_with fail
  refine (l7orderOf_any g _ t _ hc3 (by omega)).mono ?_
  rintro e w4 ⟨u, rfl, hu, hc4, O4⟩
  have B4 := only_then O4 hg B3.size B3
  clear B3 hc3 O4
  go_wp2_with fail
  refine (l1Once_any g _ 3 _ hc4 (by omega)).mono ?_
  rintro e w5 ⟨b, rfl, hc5, O5⟩
  have B5 := only_then O5 hg B4.size B4
  clear O5 hc4 B4
  cases b with
  | true =>
    go_wp2_with fail
    refine (l1of_any g _ 1 _ _ hc5 (by omega) (by decide) (by decide)).mono ?_
    rintro e w6 ⟨x, rfl, hx, hc6, O6⟩
    have B6 := only_then O6 hg B5.size B5
    go_wp2
    go_ret
    exact ⟨_, rfl, by rw [ByteArray.size_append, hx]; have : (1 : Int).toNat = 1 := rfl; omega, B6⟩
  | false =>
    go_wp2
    go_ret
    exact ⟨u, rfl, by omega, B5⟩

set_option maxHeartbeats 1000000 in
set_option maxRecDepth 100000 in
theorem drawPutOrder_any (a : Option Addr) (len cap : Nat) (zs : List Int) (w : World) (hcode : Code w w.heap.size a len cap zs) :
    Calls Try.prog 20 #[.slice a len cap] w fun e w' => ∃ s : ByteArray, e = .returned (.string s) ∧ s.size ≤ 257 ∧ Below w.heap.size w w' := by
  go_enter Try.func20, Try.ntmps20
  go_wp2_with fail
  refine (drawOrderOk_any _ _ _ _ _ hcode).mono ?_
  rintro e w1 ⟨s, rfl, hs, b1⟩
  go_wp2
  go_ret
  exact ⟨s, rfl, hs, b1⟩

set_option maxHeartbeats 1000000 in
set_option maxRecDepth 100000 in
theorem drawUsed_any (a : Option Addr) (len cap : Nat) (zs : List Int) (w : World) (hcode : Code w w.heap.size a len cap zs) :
    Calls Try.prog 74 #[.slice a len cap] w fun e w' => ∃ s : ByteArray, e = .returned (.string s) ∧ s.size ≤ 60 ∧ Below w.heap.size w w' := by
  have hl := hcode.1
  go_enter Try.func74, Try.ntmps74
  go_wp2_with fail
  refine (l1New_any _ _ _ _ _ hcode).mono ?_
  rintro e w1 ⟨g, rfl, hc1, b1⟩
  have hg := hc1.1
  go_wp2_with (go_at_call 53; refine (l1Size_any _ _ _ _ _ (by omega) (by omega) (by omega)).mono ?_; rintro e w2 ⟨m, rfl, m1, m2, rfl⟩)
  go_wp2_with fail
  refine (l7text_any g _ m _ hc1 (by omega) (by omega)).mono ?_
  rintro e w3 ⟨t, rfl, ht, hc3, O3⟩
  have B3 := only_then O3 hg b1.size b1
  go_wp2
  go_ret
  exact ⟨t, rfl, by omega, B3⟩

set_option maxHeartbeats 1000000 in
set_option maxRecDepth 100000 in
theorem drawByCount_any (a : Option Addr) (len cap : Nat) (zs : List Int) (w : World) (hcode : Code w w.heap.size a len cap zs) :
    Calls Try.prog 23 #[.slice a len cap] w fun e w' => ∃ s : ByteArray, e = .returned (.string s) ∧ s.size ≤ 60 ∧ Below w.heap.size w w' := by
  go_enter Try.func23, Try.ntmps23
  go_wp2_with fail
  refine (drawUsed_any _ _ _ _ _ hcode).mono ?_
  rintro e w1 ⟨s, rfl, hs, b1⟩
  go_wp2
  go_ret
  exact ⟨s, rfl, hs, b1⟩

set_option maxHeartbeats 1000000 in
set_option maxRecDepth 100000 in
theorem drawToRanks_any (a : Option Addr) (len cap : Nat) (zs : List Int) (w : World) (hcode : Code w w.heap.size a len cap zs) :
    Calls Try.prog 28 #[.slice a len cap] w fun e w' => ∃ s o : ByteArray, e = .returned (.tuple #[.string s, .string o]) ∧ s.size ≤ 1000 ∧ o.size ≤ 257 ∧ Below w.heap.size w w' := by
  have hl := hcode.1
  go_enter Try.func28, Try.ntmps28
  go_wp2_with fail
  refine (l1New_any _ _ _ _ _ hcode).mono ?_
  rintro e w1 ⟨g, rfl, hc1, b1⟩
  have hg := hc1.1
  go_wp2_with (go_at_call 53; refine (l1Size_any _ _ _ _ _ (by omega) (by omega) (by omega)).mono ?_; rintro e w2 ⟨m, rfl, m1, m2, rfl⟩)
  go_wp2_with fail
  refine (l7text_any g _ m _ hc1 (by omega) (by omega)).mono ?_
  rintro e w3 ⟨t, rfl, ht, hc3, O3⟩
  have B3 := only_then O3 hg b1.size b1
  have ht2 : t.size ≤ 60 := by omega
  clear O3 hc1 b1 ht
  go_wp2_with fail
  refine (l7orderOf_any g _ t _ hc3 (by omega)).mono ?_
  rintro e w4 ⟨u, rfl, hu, hc4, O4⟩
  have B4 := only_then O4 hg B3.size B3
  clear B3 hc3 O4
  go_wp2_with fail
  refine (l1Once_any g _ 6 _ hc4 (by omega)).mono ?_
  rintro e w5 ⟨b, rfl, hc5, O5⟩
  have B5 := only_then O5 hg B4.size B4
  clear O5 hc4 B4
  cases b with
  | true =>
    go_wp2_with fail
    refine (l1bend_any g _ u _ hc5 (by omega)).mono ?_
    rintro e w6 ⟨x, rfl, hx, hc6, O6⟩
    have B6 := only_then O6 hg B5.size B5
    clear O6 hc5 B5
    go_wp2_with fail
    refine (l1Once_any g _ 25 _ hc6 (by omega)).mono ?_
    rintro e w7 ⟨b, rfl, hc7, O7⟩
    have B7 := only_then O7 hg B6.size B6
    clear O7 hc6 B6
    cases b with
    | true =>
      go_wp2_with fail
      refine (l1Below_any g _ 2 _ hc7 (by omega)).mono ?_
      rintro e w8 ⟨p, rfl, p0, p1, _, hc8, O8⟩
      have p2 := p1 (by omega)
      have B8 := only_then O8 hg B7.size B7
      clear O8 hc7 B7 p1
      go_wp2_with fail
      refine (l1of_any g _ _ _ _ hc8 (by omega) (by decide) (by decide)).mono ?_
      rintro e w9 ⟨y, rfl, hy, hc9, O9⟩
      have B9 := only_then O9 hg B8.size B8
      have hy2 : y.size ≤ 1000 := by omega
      clear hy
      go_wp2
      refine bodyPost_ret (v := .tuple #[.string y, .string ⟨#[98, 97]⟩]) (by simp [results, Try.results28, go_sem]) rfl ⟨y, _, rfl, hy2, by decide, B9⟩
    | false =>
      go_wp2
      refine bodyPost_ret (v := .tuple #[.string t, .string x]) (by simp [results, Try.results28, go_sem]) rfl ⟨t, x, rfl, by omega, by omega, B7⟩
  | false =>
    go_wp2_with fail
    refine (l1Once_any g _ 25 _ hc5 (by omega)).mono ?_
    rintro e w7 ⟨b, rfl, hc7, O7⟩
    have B7 := only_then O7 hg B5.size B5
    clear O7 hc5 B5
    cases b with
    | true =>
      go_wp2_with fail
      refine (l1Below_any g _ 2 _ hc7 (by omega)).mono ?_
      rintro e w8 ⟨p, rfl, p0, p1, _, hc8, O8⟩
      have p2 := p1 (by omega)
      have B8 := only_then O8 hg B7.size B7
      clear O8 hc7 B7 p1
      go_wp2_with fail
      refine (l1of_any g _ _ _ _ hc8 (by omega) (by decide) (by decide)).mono ?_
      rintro e w9 ⟨y, rfl, hy, hc9, O9⟩
      have B9 := only_then O9 hg B8.size B8
      have hy2 : y.size ≤ 1000 := by omega
      clear hy
      go_wp2
      refine bodyPost_ret (v := .tuple #[.string y, .string ⟨#[98, 97]⟩]) (by simp [results, Try.results28, go_sem]) rfl ⟨y, _, rfl, hy2, by decide, B9⟩
    | false =>
      go_wp2
      refine bodyPost_ret (v := .tuple #[.string t, .string u]) (by simp [results, Try.results28, go_sem]) rfl ⟨t, u, rfl, by omega, by omega, B7⟩
end Go.Proofs.Yteaohgipndmciaa
