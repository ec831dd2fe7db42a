/- Merged: DrPick, Dr2, Dr7A, Dr7B, Dr10. -/
import Derived.Test.YtpjgoikdfkaefaaGreatQZ5
import Derived.Test.YtpjgoikdfkaefaaGreatQZ8
import Derived.WalkLawsBesides
namespace Go.Proofs.YtpjgoikdfkaefaaGreat
set_option linter.unusedVariables false
set_option linter.unusedSimpArgs false
open Go.RowKit

theorem own_only {w w' : World} {base g : Nat} {e : TypeId} {size : Nat} {v : Value} {n : Nat} {xs : List Value} (h : w.ownsRow base e size v n xs) (ho : Only g w w') (hg : g < base) : w'.ownsRow base e size v n xs :=
  h.kept (row := some g) ho (.inr (own_ne h hg).symm)
theorem Cur.grown {w w' : World} {g B : Nat} {row : Option Nat} (h : Cur w g B) (hg : w.grownBy w' row) (hr : ∀ k, row = some k → g < k) : Cur w' g B := by
  have hl := h.lt
  refine h.below (B' := g + 1) ⟨hg.os, hg.tape, hg.output, hg.size, fun i hi => hg.block i (by omega) (fun e => by have := hr i e.symm; omega)⟩ (by omega)
theorem Cur.alloc {w : World} {g B : Nat} (h : Cur w g B) (o : Obj) : Cur (w.alloc o) g B := h.below (B' := w.heap.size) ((Below.refl _ _).alloc (Nat.le_refl _) o) h.lt
theorem Cur.store {w : World} {g B : Nat} (h : Cur w g B) {p : Addr} (hp : g < p.block) (u : Value) : Cur (w.setCell p u) g B := h.below (B' := g + 1) ((Below.refl _ _).setCell hp u) (by omega)
theorem Cur.drew {w : World} {g B : Nat} (h : Cur w g B) : Cur w.drew g B := h
theorem Cur.drewN {w : World} {g B : Nat} (h : Cur w g B) (n : Nat) : Cur (w.drewN n) g B := h

end Go.Proofs.YtpjgoikdfkaefaaGreat
namespace Go.Proofs.YtpjgoikdfkaefaaGreat
set_option linter.unusedVariables false
set_option linter.unusedSimpArgs false
open Go.RowKit

theorem run_string_nil (w : World) : (convert 22 9 (.slice none 0 0)).run Tryz.prog w = .ok (.string ⟨#[]⟩) w := by
  rw [run_convert_bytes_string w _ _ _ _ _ _ Tryz.underlying22 Tryz.underlying5 Tryz.underlying9]
  rfl
set_option maxHeartbeats 1000000 in
set_option maxRecDepth 100000 in
theorem l1wild_any (g B : Nat) (n : Int) (w : World) (hc : Cur w g B) (hn : n ≤ 1048576) :
    Calls Tryz.prog 49 #[.pointer (some ⟨g, 0, none⟩), .int .i64 n] w fun e w' => ∃ s : ByteArray, e = .returned (.string s) ∧ s.size ≤ n.toNat ∧ Cur w' g B ∧ Only g w w' := by
  have hgl := hc.lt
  obtain ⟨i0, hi, hz0, hz1, hz2⟩ := info_parts Tryz.info5
  go_enter Tryz.func49, Tryz.ntmps49
  go_wp2
  go_loopw [5, 6] (fun v i wr => ∃ (k : Nat) (D : List Nat), k ≤ n.toNat ∧ i = .int .i64 k ∧ Hid (D.length = k) ∧ wr.ownsRow w.heap.size 5 1 v k (u8s D) ∧ Cur wr g B ∧ Only g w wr) (fun _ i _ => n.toNat - (intOf i).toNat)
  case atStart => exact ⟨0, [], Nat.zero_le _, rfl, hidden rfl, World.ownsRow_nil _ _ _ _, hc, Only.refl _ _⟩
  case round =>
    obtain ⟨k, D, hk, rfl, HD, hown, hcr, hO⟩ := hrel
    by_cases hlt : (k : Int) < n
    · have hsz := hO.size
      go_wp2_with fail
      refine (l1Byte_any g B _ hcr).mono ?_
      rintro e w1 ⟨x, rfl, hx0, hx1, hc1, hO1⟩
      obtain ⟨y, rfl⟩ : ∃ y : Nat, x = y := ⟨x.toNat, by omega⟩
      have hown1 := own_only hown hO1 (by omega)
      have hs1 := hO1.size
      have hy : (y : Int) % 256 = y := by omega
      go_wp2_with (at_builtin; refine wpList_append_own _ rfl _ _ 22 rfl w.heap.size 5 i0 (.int .u8 0) 1 1 Tryz.underlying22 hi hz0 hz1 hz2 rfl (by decide) _ _ _ rfl (hown1.alloc _) ⟨w1.heap.size, 0, none⟩ 1 1 [.int .u8 (y : Int)] rfl rfl ?c1 ?c2 ?c3 ?c4 ?c5 ?_)
      case c1 => exact cell_one_new _ _ _
      case c2 => exact fun x hx => by simp at hx; subst hx; rfl
      case c3 => unfold maxLen; omega
      case c4 => omega
      case c5 => simp; omega
      intro v' w3 hown' hgrow _
      have hr : ∀ q, Value.ownBlock (_ : Value) = some q → w.heap.size ≤ q := fun q hq => (hown.lt q hq).1
      have hO3 : Only g w w3 := ((hO.trans_ hO1).alloc _).grownNew hgrow hr
      have hc3 : Cur w3 g B := (hc1.alloc _).grown hgrow (fun q hq => by have := hr q hq; omega)
      rw [← u8s_snoc] at hown'
      clear hown hown1 hcr hO hO1 hc1 hgrow hr
      go_wp2
      go_roundw
      case rel => exact ⟨k + 1, D ++ [y], by omega, by go_num, hidden (by simp [HD.out]), hown', hc3, hO3⟩
      case measure => simp [intOf]; omega
    · rcases hown.2 with ⟨hv, h0⟩ | ⟨gd, cp, cur, hv, _⟩
      · subst hv
        have hrun := run_string_nil
        go_wp2
        go_ret
        exact ⟨_, rfl, Nat.zero_le _, hcr, hO⟩
      · subst hv
        have hrun := run_string_own (P := Tryz.prog) (src := 22) (dst := 9) Tryz.underlying22 Tryz.underlying5 Tryz.underlying9 hown HD.out
        go_wp2
        go_ret
        exact ⟨_, rfl, by rw [strOf_size, HD.out]; omega, hcr, hO⟩
end Go.Proofs.YtpjgoikdfkaefaaGreat
namespace Go.Proofs.YtpjgoikdfkaefaaGreat
set_option linter.unusedVariables false
set_option linter.unusedSimpArgs false
open Go.RowKit

set_option maxHeartbeats 1000000 in
set_option maxRecDepth 100000 in
theorem l1of_any (g B : Nat) (n : Int) (S : ByteArray) (w : World) (hc : Cur w g B) (hn : n ≤ 1048576) (hS0 : 0 < S.size) (hS1 : S.size ≤ 1000) :
    Calls Tryz.prog 37 #[.pointer (some ⟨g, 0, none⟩), .int .i64 n, .string S] w fun e w' => ∃ s : ByteArray, e = .returned (.string s) ∧ s.size = n.toNat ∧ Cur w' g B ∧ Only g w w' := by
  have hgl := hc.lt
  obtain ⟨i0, hi, hz0, hz1, hz2⟩ := info_parts Tryz.info5
  go_enter Tryz.func37, Tryz.ntmps37
  go_wp2
  go_loopw [7, 8] (fun v i wr => ∃ (k : Nat) (D : List Nat), k ≤ n.toNat ∧ i = .int .i64 k ∧ Hid (D.length = k) ∧ wr.ownsRow w.heap.size 5 1 v k (u8s D) ∧ Cur wr g B ∧ Only g w wr) (fun _ i _ => n.toNat - (intOf i).toNat)
  case atStart => exact ⟨0, [], Nat.zero_le _, rfl, hidden rfl, World.ownsRow_nil _ _ _ _, hc, Only.refl _ _⟩
  case round =>
    obtain ⟨k, D, hk, rfl, HD, hown, hcr, hO⟩ := hrel
    by_cases hlt : (k : Int) < n
    · have hsz := hO.size
      go_wp2_with fail
      refine (l1Below_any g B _ _ hcr (by omega)).mono ?_
      rintro e w1 ⟨r, rfl, hr0, hr1, _, hc1, hO1⟩
      obtain ⟨q, rfl⟩ : ∃ q : Nat, r = q := ⟨r.toNat, by omega⟩
      have hq : q < S.size := by have := hr1 (by omega); omega
      have hown1 := own_only hown hO1 (by omega)
      have hs1 := hO1.size
      go_wp2_with (at_builtin; refine wpList_append_own _ rfl _ _ 22 rfl w.heap.size 5 i0 (.int .u8 0) 1 1 Tryz.underlying22 hi hz0 hz1 hz2 rfl (by decide) _ _ _ rfl (hown1.alloc _) ⟨w1.heap.size, 0, none⟩ 1 1 [.int .u8 (S[q].toNat : Int)] rfl rfl ?c1 ?c2 ?c3 ?c4 ?c5 ?_)
      case c1 => exact cell_one_new _ _ _
      case c2 => exact fun x hx => by simp at hx; subst hx; rfl
      case c3 => unfold maxLen; omega
      case c4 => omega
      case c5 => simp; omega
      intro v' w3 hown' hgrow _
      have hr : ∀ q, Value.ownBlock (_ : Value) = some q → w.heap.size ≤ q := fun q hq => (hown.lt q hq).1
      have hO3 : Only g w w3 := ((hO.trans_ hO1).alloc _).grownNew hgrow hr
      have hc3 : Cur w3 g B := (hc1.alloc _).grown hgrow (fun q hq => by have := hr q hq; omega)
      rw [← u8s_snoc] at hown'
      clear hown hown1 hcr hO hO1 hc1 hgrow hr
      go_wp2
      go_roundw
      case rel => exact ⟨k + 1, D ++ [S[q].toNat], by omega, by go_num, hidden (by simp [HD.out]), hown', hc3, hO3⟩
      case measure => simp [intOf]; omega
    · rcases hown.2 with ⟨hv, h0⟩ | ⟨gd, cp, cur, hv, _⟩
      · subst hv
        have hrun := run_string_nil
        go_wp2
        go_ret
        refine ⟨_, rfl, ?_, hcr, hO⟩
        have := HD.out
        show 0 = _
        omega
      · subst hv
        have hrun := run_string_own (P := Tryz.prog) (src := 22) (dst := 9) Tryz.underlying22 Tryz.underlying5 Tryz.underlying9 hown HD.out
        go_wp2
        go_ret
        exact ⟨_, rfl, by rw [strOf_size, HD.out]; omega, hcr, hO⟩
end Go.Proofs.YtpjgoikdfkaefaaGreat
namespace Go.Proofs.YtpjgoikdfkaefaaGreat
set_option linter.unusedVariables false
set_option linter.unusedSimpArgs false
open Go.RowKit

set_option maxHeartbeats 1000000 in
set_option maxRecDepth 100000 in
theorem l7text_any (g B : Nat) (m : Int) (w : World) (hc : Cur w g B) (h0 : 0 ≤ m) (hm : m ≤ 1000) :
    Calls Tryz.prog 35 #[.pointer (some ⟨g, 0, none⟩), .int .i64 m] w fun e w' => ∃ s : ByteArray, e = .returned (.string s) ∧ s.size ≤ m.toNat ∧ Cur w' g B ∧ Only g w w' := by
  have hgl := hc.lt
  go_enter Tryz.func35, Tryz.ntmps35
  go_wp2_with fail
  refine (l1Below_any g B _ _ hc (by omega)).mono ?_
  rintro e wa ⟨n, rfl, hn0, hn1, _, ha, Oa⟩
  have hnm : n ≤ m := by have := hn1 (by omega); omega
  clear hn1
  go_wp2_with fail
  refine (l1Below_any g B _ _ ha (by omega)).mono ?_
  rintro e wb ⟨k, rfl, hk0, hk1, _, hb, Ob⟩
  have hk5 : k ≤ 5 := by have := hk1 (by omega); omega
  have OB := Oa.trans_ Ob
  clear hk1 Ob Oa ha
  by_cases e0 : k = 0
  · subst e0
    go_wp2_with fail
    refine (l1wild_any g B _ _ hb (by omega)).mono ?_
    rintro e wc ⟨s, rfl, hs, hcc, Oc⟩
    go_wp2
    go_ret
    exact ⟨s, rfl, by omega, hcc, OB.trans_ Oc⟩
  by_cases e1 : k = 1
  · subst e1
    go_wp2_with fail
    refine (l1Below_any g B _ _ hb (by omega)).mono ?_
    rintro e wc ⟨p, rfl, hp0, hp1, _, hcc, Oc⟩
    have hp3 : p ≤ 3 := by have := hp1 (by omega); omega
    clear hp1
    go_wp2_with fail
    refine (l1of_any g B _ _ _ hcc (by omega) (by decide) (by decide)).mono ?_
    rintro e wd ⟨W, rfl, hW, hd, Od⟩
    have OD := (OB.trans_ Oc).trans_ Od
    have hW1 : 1 ≤ W.size := by omega
    have hW4 : W.size ≤ 4 := by omega
    clear hW OB Oc Od hcc hb
    go_wp2
    go_loopw [7] (fun v wr => ∃ S : ByteArray, v = .string S ∧ S.size ≤ n.toNat + 4 ∧ Cur wr g B ∧ Only g w wr) (fun v _ => n.toNat + 4 - (match v with | .string S => S.size | _ => 0))
    case atStart => exact ⟨_, rfl, Nat.zero_le _, hd, OD⟩
    case round =>
      obtain ⟨S, rfl, hS, hd, OD⟩ := hrel
      by_cases hlt : (S.size : Int) < n
      · go_wp2
        go_roundw
        case rel => exact ⟨_, rfl, by simp [ByteArray.size_append]; omega, hd, OD⟩
        case measure => simp [ByteArray.size_append]; omega
      · go_wp2
        go_ret
        exact ⟨_, rfl, by simp [ByteArray.size_extract]; omega, hd, OD⟩
  by_cases e2 : k = 2
  · subst e2
    go_wp2_with fail
    refine (l1of_any g B _ _ _ hb (by omega) (by decide) (by decide)).mono ?_
    rintro e wc ⟨s, rfl, hs, hcc, Oc⟩
    go_wp2
    go_ret
    exact ⟨s, rfl, by omega, hcc, OB.trans_ Oc⟩
  by_cases e3 : k = 3
  · subst e3
    go_wp2_with fail
    refine (l1of_any g B _ _ _ hb (by omega) (by decide) (by decide)).mono ?_
    rintro e wc ⟨s, rfl, hs, hcc, Oc⟩
    go_wp2
    go_ret
    exact ⟨s, rfl, by omega, hcc, OB.trans_ Oc⟩
  go_wp2_with fail
  refine (l1of_any g B _ _ _ hb (by omega) (by decide) (by decide)).mono ?_
  rintro e wc ⟨s, rfl, hs, hcc, Oc⟩
  go_wp2
  go_ret
  exact ⟨s, rfl, by omega, hcc, OB.trans_ Oc⟩
end Go.Proofs.YtpjgoikdfkaefaaGreat
namespace Go.Proofs.YtpjgoikdfkaefaaGreat
set_option linter.unusedVariables false
set_option linter.unusedSimpArgs false
open Go.RowKit

set_option maxHeartbeats 1000000 in
set_option maxRecDepth 100000 in
theorem l10text_any (g B : Nat) (m : Int) (w : World) (hc : Cur w g B) (h0 : 0 ≤ m) (hm : m ≤ 1000) :
    Calls Tryz.prog 18 #[.pointer (some ⟨g, 0, none⟩), .int .i64 m] w fun e w' => ∃ s : ByteArray, e = .returned (.string s) ∧ s.size ≤ 1000 ∧ Cur w' g B ∧ Only g w w' := by
  have hgl := hc.lt
  go_enter Tryz.func18, Tryz.ntmps18
  go_wp2_with fail
  refine (l7text_any g B _ _ hc (by omega) (by omega)).mono ?_
  rintro e wa ⟨s, rfl, hs, ha, Oa⟩
  go_wp2_with fail
  refine (l1Once_any g B 30 _ ha (by omega)).mono ?_
  rintro e wb ⟨b, rfl, hb, Ob⟩
  have OB := Oa.trans_ Ob
  clear Ob Oa ha
  cases b with
  | true =>
    go_wp2_with fail
    refine (l1Below_any g B 2 _ hb (by omega)).mono ?_
    rintro e wc ⟨p, rfl, hp0, hp1, _, hcc, Oc⟩
    have hp3 : p ≤ 1 := by have := hp1 (by omega); omega
    clear hp1
    go_wp2_with fail
    refine (l1of_any g B _ _ _ hcc (by omega) (by decide) (by decide)).mono ?_
    rintro e wd ⟨W, rfl, hW, hd, Od⟩
    go_wp2
    go_ret
    exact ⟨W, rfl, by omega, hd, (OB.trans_ Oc).trans_ Od⟩
  | false =>
    go_wp2
    go_ret
    exact ⟨s, rfl, by omega, hb, OB⟩

set_option maxHeartbeats 1000000 in
set_option maxRecDepth 100000 in
theorem drawRotations_any (a : Option Addr) (len cap : Nat) (zs : List Int) (w : World) (hcode : Code w w.heap.size a len cap zs) :
    Calls Tryz.prog 12 #[.slice a len cap] w fun e w' => ∃ s : ByteArray, e = .returned (.string s) ∧ s.size ≤ 1000 ∧ Below w.heap.size w w' := by
  have hl := hcode.1
  go_enter Tryz.func12, Tryz.ntmps12
  go_wp2_with fail
  refine (l1New_any _ _ _ _ _ hcode).mono ?_
  rintro e w1 ⟨g, rfl, hc1, b1⟩
  have hg := hc1.1
  go_wp2_with (go_at_call 19; refine (l1Size_any _ _ _ _ _ (by omega) (by omega) (by omega)).mono ?_; rintro e w2 ⟨m, rfl, m1, m2, rfl⟩)
  go_wp2_with fail
  refine (l10text_any g _ m _ hc1 (by omega) (by omega)).mono ?_
  rintro e w3 ⟨t, rfl, ht, hc3, O3⟩
  have B3 := only_then O3 hg b1.size b1
  go_wp2
  go_ret
  exact ⟨t, rfl, by omega, B3⟩
set_option maxRecDepth 100000 in
theorem drawLast_any (a : Option Addr) (len cap : Nat) (zs : List Int) (w : World) (hcode : Code w w.heap.size a len cap zs) :
    Calls Tryz.prog 4 #[.slice a len cap] w fun e w' => ∃ s : ByteArray, e = .returned (.string s) ∧ s.size ≤ 1000 ∧ Below w.heap.size w w' := by
  go_enter Tryz.func4, Tryz.ntmps4
  go_wp2_with fail
  refine (drawRotations_any _ _ _ _ _ hcode).mono ?_
  rintro e w1 ⟨s, rfl, hs, b1⟩
  go_wp2
  go_ret
  exact ⟨s, rfl, hs, b1⟩
end Go.Proofs.YtpjgoikdfkaefaaGreat
