/- Texts of one reach, one behind the other: C5G, C5H, C6G, C6H, I5J, I5G, I5N. What each is about stands in its theorems. -/
import Derived.Test.YtpngomjkapccdaaDoorG4
import Derived.Test.YtpngomjkapccdaaDoorG1
import Derived.Test.YtpngomjkapccdaaDoorG3
import Derived.Deep.LoopGhost
import Derived.Maps.AppendAt
import Derived.OwnWalk
import Derived.ChangeAlike
import Derived.RegionTactic
import Derived.ScopeJumps
import Derived.WalkMore
namespace Go.Proofs.YtpngomjkapccdaaDoor
set_option linter.unusedVariables false
set_option linter.unusedSimpArgs false
open Go.RowKit

theorem num_row_one5 (s : ByteArray) (a : Nat) : num (row s a 1) = bit s a := by simp [row, num]
/-- What reading n lengths answers, the reader being in block b. -/
def L5Post (s : ByteArray) (at0 n b : Nat) (T : TypeId) (w : World) (e : Ending) (w' : World) : Prop :=
  ((∃ (xs : List Nat) (c : Nat) (v : Value), reads5 s at0 n xs c ∧ e = .returned v ∧ w'.ownsRow w.heap.size 3 1 v n (natsL xs) ∧ Has w' b T #[.string s, .int .i64 (c : Int)]) ∨
   ((¬ ∃ (xs : List Nat) (c : Nat), reads5 s at0 n xs c) ∧ e = .returned (.slice none 0 0))) ∧ Only b w w'
theorem l5post_no {s : ByteArray} {at0 n b : Nat} {T : TypeId} {w w' : World} (h : ¬ ∃ (xs : List Nat) (c : Nat), reads5 s at0 n xs c) (ho : Only b w w') : L5Post s at0 n b T w (.returned (.slice none 0 0)) w' := ⟨.inr ⟨h, rfl⟩, ho⟩
end Go.Proofs.YtpngomjkapccdaaDoor
namespace Go.Proofs.YtpngomjkapccdaaDoor
set_option linter.unusedVariables false
set_option linter.unusedSimpArgs false
open Go.RowKit

/-- What GetLens answers. -/
def GL5 (s : ByteArray) (at0 n : Nat) (w : World) (e : Ending) (w' : World) : Prop :=
  ((∃ (xs : List Nat) (c : Nat) (v : Value), reads5 s at0 n xs c ∧ e = .returned (.tuple #[v, .agg #[.string s, .int .i64 (c : Int)], .bool true]) ∧ w'.ownsRow w.heap.size 3 1 v n (natsL xs)) ∨
   ((¬ ∃ (xs : List Nat) (c : Nat), reads5 s at0 n xs c) ∧ e = .returned (.tuple #[.slice none 0 0, .agg #[.string ⟨#[]⟩, .int .i64 0], .bool false]))) ∧ Below w.heap.size w w'
end Go.Proofs.YtpngomjkapccdaaDoor
namespace Go.Proofs.YtpngomjkapccdaaDoor
set_option linter.unusedVariables false
set_option linter.unusedSimpArgs false
open Go.RowKit

theorem gam_ge {s : ByteArray} {a k j n : Nat} (h : Gam s a j n) (hz : ∀ i, i < k → bit s (a + i) = 0) : k ≤ j := by
  rcases Nat.lt_or_ge j k with hl | hl
  · have := hz j hl
    have := h.2.2.2.1
    omega
  · exact hl
/-- What reading a number answers, the reader being in block b. -/
def L6Post (s : ByteArray) (at0 b : Nat) (T : TypeId) (w : World) (e : Ending) (w' : World) : Prop :=
  ((∃ k n : Nat, Gam s at0 k n ∧ e = .returned (.int .i64 n) ∧ Has w' b T #[.string s, .int .i64 ((at0 + (2 * k + 1) : Nat) : Int)]) ∨
   ((∀ k n, ¬ Gam s at0 k n) ∧ e = .returned (.int .i64 0))) ∧ Only b w w'
theorem l6post_no {s : ByteArray} {at0 b : Nat} {T : TypeId} {w w' : World} (h : ∀ k n, ¬ Gam s at0 k n) (ho : Only b w w') : L6Post s at0 b T w (.returned (.int .i64 0)) w' := ⟨.inr ⟨h, rfl⟩, ho⟩
/-- Where the reader stands, and what was read last. -/
def L6At (s : ByteArray) (at0 b : Nat) (T : TypeId) (k : Nat) (x : Int) (w : World) : Prop :=
  (at0 + k + 1 ≤ 8 * s.size ∧ x = (bit s (at0 + k) : Int) ∧ Has w b T #[.string s, .int .i64 ((at0 + k + 1 : Nat) : Int)]) ∨ (8 * s.size < at0 + k + 1 ∧ x = -1 ∧ ∃ c : Int, Has w b T #[.string s, .int .i64 c])
theorem l6bit (s : ByteArray) (at0 k b : Nat) (T : TypeId) (w : World) (hs : s.size ≤ 1048576) (ha : at0 + k ≤ 8 * s.size) (hb : Has w b T #[.string s, .int .i64 ((at0 + k : Nat) : Int)]) :
    Calls Tryd.prog 40 #[.pointer (some ⟨b, 0, none⟩), .int .i64 1] w fun e w' => ∃ x : Int, e = .returned (.int .i64 x) ∧ L6At s at0 b T k x w' ∧ Only b w w' := by
  by_cases h : at0 + k + 1 ≤ 8 * s.size
  · have h1 := l1get_yes s (at0 + k) 1 b T w hs (by omega) h hb
    refine h1.mono ?_
    rintro e w' ⟨rfl, hB, hO⟩
    exact ⟨_, rfl, .inl ⟨h, by simp [row, num], hB⟩, hO⟩
  · have h1 := l1get_none s (at0 + k) 1 b T w hs (by omega) ha (by omega) hb
    refine h1.mono ?_
    rintro e w' ⟨rfl, q, rfl⟩
    exact ⟨_, rfl, .inr ⟨by omega, rfl, _, hb.drewN q⟩, (Only.refl _ _).drewN q⟩
set_option maxHeartbeats 4000000 in
set_option maxRecDepth 100000 in
theorem l6get_any (s : ByteArray) (at0 b : Nat) (T : TypeId) (w : World) (hs : s.size ≤ 1048576) (ha : at0 ≤ 8 * s.size) (hb : Has w b T #[.string s, .int .i64 at0]) :
    Calls Tryd.prog 30 #[.pointer (some ⟨b, 0, none⟩)] w (L6Post s at0 b T w) := by
  have hbl := hb.lt
  have K1 := hidden (fun (W : World) (k : Nat) (h : at0 + k ≤ 8 * s.size) (hB : Has W b T #[.string s, .int .i64 ((at0 + k : Nat) : Int)]) => l6bit s at0 k b T W hs h hB)
  have c0 := hb.cell 0
  have c1 := hb.cell 1
  simp at c0 c1
  have HB := hidden hb
  have K0 := hidden (K1.out w 0 (by omega) hb)
  clear hb
  go_enter Tryd.func30, Tryd.ntmps30
  go_wp2_with fail
  refine K0.out.mono ?_
  rintro e w1 ⟨x, rfl, hA, hO⟩
  clear c0 c1
  go_wp2
  go_loopg [4, 5] 21 (fun g sk sx wr => ∃ (k : Nat) (x : Int), Hid (k + g = 21) ∧ k ≤ 20 ∧ sk = .int .i64 k ∧ sx = .int .i64 x ∧ Hid (∀ i, i < k → bit s (at0 + i) = 0) ∧ L6At s at0 b T k x wr ∧ Only b w wr)
  case atStart => exact ⟨0, x, hidden rfl, by omega, rfl, rfl, hidden (fun i hi => by omega), hA, hO⟩
  case round =>
    obtain ⟨k, x, HG, hk, rfl, rfl, HZ, hA, hO⟩ := hrel
    rcases hA with ⟨hroom, hx, hB⟩ | ⟨hroom, rfl, c, hB⟩
    · have hb2 := bit_lt s (at0 + k)
      by_cases hb0 : bit s (at0 + k) = 0
      · rw [hb0] at hx
        subst hx
        have HZ2 : Hid (∀ i, i < k + 1 → bit s (at0 + i) = 0) := hidden (fun i hi => by
          rcases Nat.lt_or_ge i k with h | h
          · exact HZ.out i h
          · obtain rfl : i = k := by omega
            exact hb0)
        by_cases hk20 : k < 20
        · have hkI : (k : Int) < 20 := by omega
          have K2 := hidden (K1.out wr (k + 1) (by omega) (by rw [← Nat.add_assoc]; exact hB))
          clear hb0 hb2 hB hroom
          go_wp2_with fail
          refine K2.out.mono ?_
          rintro e w2 ⟨x2, rfl, hA2, hO2⟩
          have hO3 : Only b w w2 := World.grownBy.trans hO hO2
          clear hO hO2 K2
          go_wp2
          go_roundg (gk - 1)
          case measure => have := HG.out; omega
          case rel => exact ⟨k + 1, x2, hidden (by have := HG.out; omega), by omega, by go_num, rfl, HZ2, hA2, hO3⟩
        · have hkI : ¬ (k : Int) < 20 := by omega
          have HNX : Hid (∀ j n, ¬ Gam s at0 j n) := hidden (fun j n h => by have := gam_ge h HZ2.out; have := h.1; omega)
          clear hb0 hb2 hroom
          have r0 := hB.cell 0
          have r1 := hB.cell 1
          have f1 := hB.free 1
          simp at r0 r1
          go_wp2
          go_ret
          exact l6post_no HNX.out (hO.store (.inl rfl) _)
      · have hb1 : bit s (at0 + k) = 1 := by omega
        rw [hb1] at hx
        subst hx
        by_cases hk20 : k < 20
        · have hkI : (k : Int) < 20 := by omega
          have HON := hidden (fun j n (h : Gam s at0 j n) => gam_zeros h HZ.out hb1)
          by_cases hr2 : at0 + k + 1 + k ≤ 8 * s.size
          · have K2 := hidden (l1get_yes s (at0 + k + 1) k b T wr hs (by omega) hr2 hB)
            have HGM : Hid (Gam s at0 k (2 ^ k + num (row s (at0 + k + 1) k))) := hidden ⟨by omega, by omega, (num_zero_bits k).2 HZ.out, hb1, rfl⟩
            have hv := num_row_lt s (at0 + k + 1) k
            have hp20 : 2 ^ k ≤ 2 ^ 20 := Nat.pow_le_pow_right (by omega) (by omega)
            obtain ⟨v, hvv⟩ : ∃ v, num (row s (at0 + k + 1) k) = v := ⟨_, rfl⟩
            obtain ⟨p, hp⟩ : ∃ p, 2 ^ k = p := ⟨_, rfl⟩
            have hwd : Value.int .i64 (wrap64 (2 ^ k)) = Value.int .i64 (p : Int) := by
              rw [show ((2 : Int) ^ k) = ((2 ^ k : Nat) : Int) by simp, hp, wrap64_n _ (by omega)]
            rw [hvv] at K2 HGM hv
            rw [hp] at HGM hv hp20
            have hv0 : ¬ (v : Int) < 0 := by omega
            clear hvv hp hb0 hb1 hb2 hB hroom
            go_wp2_with fail
            refine K2.out.mono ?_
            rintro e w2 ⟨rfl, hB2, hO2⟩
            have hO3 : Only b w w2 := World.grownBy.trans hO hO2
            clear hO hO2 K2
            go_wp2
            go_ret
            refine ⟨.inl ⟨k, p + v, HGM.out, ?_, ?_⟩, hO3⟩
            · go_num
            · rw [show at0 + (2 * k + 1) = at0 + k + 1 + k by omega]; exact hB2
          · have HNX : Hid (∀ j n, ¬ Gam s at0 j n) := hidden (fun j n h => by
              have e := HON.out j n h
              have := gam_row h
              subst e; omega)
            have K2 := hidden (l1get_none s (at0 + k + 1) k b T wr hs (by omega) hroom (by omega) hB)
            have HBX := hidden hB
            clear hb0 hb1 hb2 hB hr2 HON
            go_wp2_with fail
            refine K2.out.mono ?_
            rintro e w2 ⟨rfl, q, rfl⟩
            have hB3 := HBX.out.drewN q
            have hO3 := hO.drewN q
            have r0 := hB3.cell 0
            have r1 := hB3.cell 1
            have f1 := hB3.free 1
            simp at r0 r1
            go_wp2
            go_ret
            exact l6post_no HNX.out (hO3.store (.inl rfl) _)
        · have hkI : ¬ (k : Int) < 20 := by omega
          have HNX : Hid (∀ j n, ¬ Gam s at0 j n) := hidden (fun j n h => by have := gam_ge h HZ.out; have := h.1; omega)
          clear hb0 hb1 hb2 hroom
          have r0 := hB.cell 0
          have r1 := hB.cell 1
          have f1 := hB.free 1
          simp at r0 r1
          go_wp2
          go_ret
          exact l6post_no HNX.out (hO.store (.inl rfl) _)
    · have HNX : Hid (∀ j n, ¬ Gam s at0 j n) := hidden (fun j n h => by have := gam_ge h HZ.out; have := h.2.1; omega)
      clear hroom
      have r0 := hB.cell 0
      have r1 := hB.cell 1
      have f1 := hB.free 1
      simp at r0 r1
      go_wp2
      go_ret
      exact l6post_no HNX.out (hO.store (.inl rfl) _)
end Go.Proofs.YtpngomjkapccdaaDoor
namespace Go.Proofs.YtpngomjkapccdaaDoor
set_option linter.unusedVariables false
set_option linter.unusedSimpArgs false
open Go.RowKit

/-- What GetGamma answers. -/
def GG6 (s : ByteArray) (at0 : Nat) (w : World) (e : Ending) (w' : World) : Prop :=
  ((∃ k n : Nat, Gam s at0 k n ∧ e = .returned (.tuple #[.int .i64 n, .agg #[.string s, .int .i64 ((at0 + (2 * k + 1) : Nat) : Int)], .bool true])) ∨
   ((∀ k n, ¬ Gam s at0 k n) ∧ e = .returned (.tuple #[.int .i64 0, .agg #[.string ⟨#[]⟩, .int .i64 0], .bool false]))) ∧ Below w.heap.size w w'
set_option maxHeartbeats 2000000 in
set_option maxRecDepth 100000 in
theorem specGetGamma_any (s : ByteArray) (at0 : Nat) (w : World) (hs : s.size ≤ 1048576) (ha : at0 ≤ 8 * s.size) :
    Calls Tryd.prog 13 #[.agg #[.string s, .int .i64 at0]] w (GG6 s at0 w) := by
  have K2 := hidden (fun (W : World) (h : Has W w.heap.size 33 #[.string s, .int .i64 (at0 : Int)]) => l6get_any s at0 w.heap.size 33 W hs ha h)
  have hR := (Has.fresh w 33 #[.string s, .int .i64 at0]).alloc (.cells #[.string ⟨#[]⟩, .int .i64 0] 33)
  have bb : Below w.heap.size w ((w.alloc (.cells #[.string s, .int .i64 at0] 33)).alloc (.cells #[.string ⟨#[]⟩, .int .i64 0] 33)) := ((Below.refl _ _).alloc (Nat.le_refl _) _).alloc (by simp) _
  have hS := Has.freshAt (w := w.alloc (.cells #[.string s, .int .i64 at0] 33)) (g := w.heap.size + 1) (by simp) 33 #[.string ⟨#[]⟩, .int .i64 0]
  go_enter Tryd.func13, Tryd.ntmps13
  go_wp2_with fail
  refine (specRdOk_yes s at0 _ hs ha).mono ?_
  rintro e w2 ⟨rfl, b2⟩
  replace bb := bel_then b2 bb.size bb
  replace hR := hR.below b2 hR.lt
  replace hS := hS.below b2 hS.lt
  have hs2 := bb.size
  have hRl := hR.lt
  have hSl := hS.lt
  clear b2
  go_wp2_with fail
  refine (K2.out _ hR).mono ?_
  rintro e w3 ⟨hcase, hO⟩
  have hS3 := hO.has hS (by omega)
  have bb3 : Below w.heap.size w w3 := only_then hO (Nat.le_refl _) hs2 bb
  have hs3 := bb3.size
  have hSl3 := hS3.lt
  have e0 := hS3.cell 0
  have e1 := hS3.cell 1
  have g0 := hS3.free 0
  have g1 := hS3.free 1
  simp at e0 e1
  clear hR hS hO bb K2
  rcases hcase with ⟨k, n, hg, rfl, hR3⟩ | ⟨hno, rfl⟩
  · have HR := hidden hg
    have hn1 := (gam_range hg).2.2.1
    obtain ⟨c, hc⟩ : ∃ c, at0 + (2 * k + 1) = c := ⟨_, rfl⟩
    rw [hc] at hR3
    have HCC := hidden hc
    have d0 := hR3.cell 0
    have d1 := hR3.cell 1
    simp at d0 d1
    have hnz : ((n : Int) == 0) = false := by rw [beq_eq_false_iff_ne]; omega
    clear hg hR3 hc
    go_wp2
    (try go_region)
    all_goals (try go_wp2)
    all_goals
      refine bodyPost_ret (v := .tuple #[.int .i64 n, .agg #[.string s, .int .i64 (c : Int)], .bool true]) (by simp [results, Tryd.results13, go_sem, d0, d1, e0, e1, g0, g1]) rfl ⟨.inl ⟨k, n, HR.out, by rw [HCC.out]⟩, ?_⟩
      repeat (first | exact Below.refl _ _ | assumption | refine Below.alloc ?_ (by (try simp); (try omega)) _ | refine Below.setCell ?_ (by (try simp); (try omega)) _ | refine Below.drew ?_ | refine bel_then (by assumption) (by (try simp); (try omega)) ?_)
  · have HNO := hidden hno
    clear hno
    go_wp2
    refine bodyPost_ret (v := .tuple #[.int .i64 0, .agg #[.string ⟨#[]⟩, .int .i64 0], .bool false]) (by simp [results, Tryd.results13, go_sem, e0, e1, g0, g1]) rfl ⟨.inr ⟨HNO.out, rfl⟩, ?_⟩
    repeat (first | exact Below.refl _ _ | assumption | refine Below.alloc ?_ (by (try simp); (try omega)) _ | refine Below.setCell ?_ (by (try simp); (try omega)) _ | refine Below.drew ?_ | refine bel_then (by assumption) (by (try simp); (try omega)) ?_)
set_option maxHeartbeats 2000000 in
set_option maxRecDepth 100000 in
theorem specGetGamma_no (s : ByteArray) (at0 : Int) (w : World) (hs : s.size ≤ 1048576) (b1 : -9223372036854775808 ≤ at0) (b2 : at0 ≤ 9223372036854775807) (h : ¬ (0 ≤ at0 ∧ at0 ≤ 8 * s.size)) :
    Calls Tryd.prog 13 #[.agg #[.string s, .int .i64 at0]] w fun e w' => e = .returned (.tuple #[.int .i64 0, .agg #[.string ⟨#[]⟩, .int .i64 0], .bool false]) ∧ Below w.heap.size w w' := by
  have bb : Below w.heap.size w ((w.alloc (.cells #[.string s, .int .i64 at0] 33)).alloc (.cells #[.string ⟨#[]⟩, .int .i64 0] 33)) := ((Below.refl _ _).alloc (Nat.le_refl _) _).alloc (by simp) _
  have hS := Has.freshAt (w := w.alloc (.cells #[.string s, .int .i64 at0] 33)) (g := w.heap.size + 1) (by simp) 33 #[.string ⟨#[]⟩, .int .i64 0]
  have HX := hidden h
  clear h
  go_enter Tryd.func13, Tryd.ntmps13
  go_wp2_with fail
  refine (specRdOk_no s at0 _ hs b1 b2 HX.out).mono ?_
  rintro e w2 ⟨rfl, b2⟩
  replace bb := bel_then b2 bb.size bb
  replace hS := hS.below b2 hS.lt
  have hs2 := bb.size
  have e0 := hS.cell 0
  have e1 := hS.cell 1
  have g0 := hS.free 0
  have g1 := hS.free 1
  simp at e0 e1
  clear b2 hS
  go_wp2
  refine bodyPost_ret (v := .tuple #[.int .i64 0, .agg #[.string ⟨#[]⟩, .int .i64 0], .bool false]) (by simp [results, Tryd.results13, go_sem, e0, e1, g0, g1]) rfl ⟨rfl, ?_⟩
  repeat (first | exact Below.refl _ _ | assumption | refine Below.alloc ?_ (by (try simp); (try omega)) _ | refine Below.setCell ?_ (by (try simp); (try omega)) _ | refine Below.drew ?_ | refine bel_then (by assumption) (by (try simp); (try omega)) ?_)
end Go.Proofs.YtpngomjkapccdaaDoor
namespace Go.Proofs.YtpngomjkapccdaaDoor
set_option linter.unusedVariables false
set_option linter.unusedSimpArgs false
open Go.RowKit

/-- As Q; by a goto: what is asked of the label. -/
def jumps (J : Nat → Act → World → Prop) (Q : Exit → Act → World → Prop) : Exit → Act → World → Prop
  | .goto l, a, w => J l a w
  | e, a, w => Q e a w
/-- At a smaller number. -/
def lower (J : Nat → Nat → Act → World → Prop) (g l : Nat) (a : Act) (w : World) : Prop := ∃ g', g' < g ∧ J g' l a w
/-- At some number. -/
def someGas (J : Nat → Nat → Act → World → Prop) (l : Nat) (a : Act) (w : World) : Prop := ∃ g, J g l a w
theorem lower_mk {J : Nat → Nat → Act → World → Prop} {g l : Nat} {a : Act} {w : World} (k : Nat) (h : k < g) (hj : J k l a w) : lower J g l a w := ⟨k, h, hj⟩
theorem jumps_mono {J J' : Nat → Act → World → Prop} {Q : Exit → Act → World → Prop} (h : ∀ l a w, J l a w → J' l a w) : ∀ e a w, jumps J Q e a w → jumps J' Q e a w := by
  intro e a w
  cases e <;> first | exact h _ _ _ | exact id
theorem jumps_low {J : Nat → Nat → Act → World → Prop} {Q : Exit → Act → World → Prop} {g g' : Nat} (h : g ≤ g') : ∀ e a w, jumps (lower J g) Q e a w → jumps (lower J g') Q e a w :=
  jumps_mono fun _ _ _ ⟨k, hk, hj⟩ => ⟨k, Nat.lt_of_lt_of_le hk h, hj⟩
theorem jumps_some {J : Nat → Nat → Act → World → Prop} {Q : Exit → Act → World → Prop} {g : Nat} : ∀ e a w, jumps (lower J g) Q e a w → jumps (someGas J) Q e a w :=
  jumps_mono fun _ _ _ ⟨k, _, hj⟩ => ⟨k, hj⟩

section
variable {P : Program} {a : Act} {w : World} {Q : Exit → Act → World → Prop}
/-- A scope in which the run jumps to any of its labels: what holds at each jump bears a number, which every stretch from a label to the next jump lowers. -/
theorem wp_scope_many {c : _root_.Go.Code} (J : Nat → Nat → Act → World → Prop) (first : c.wp P (jumps (someGas J) Q) a w)
    (pass : ∀ g l a w, J g l a w → ∃ rest, findLabel c l = some rest ∧ rest.wp P (jumps (lower J g) Q) a w) : (_root_.Go.Code.scope c).wp P Q a w := by
  intro b k cs
  have key : ∀ n l a w, J n l a w → ∃ rest, findLabel c l = some rest ∧ ∃ e a' w', Q e a' w' ∧ Arrives P (lone (b.at a (.code rest :: .inScope c :: k)) cs w) b k cs e a' w' := by
    intro n
    induction n using Nat.strongRecOn with
    | _ n ih =>
      intro l a w hJ
      obtain ⟨rest, hf, hp⟩ := pass n l a w hJ
      refine ⟨rest, hf, ?_⟩
      obtain ⟨e, a₁, w₁, hq, harr⟩ := hp b (.inScope c :: k) cs
      cases e with
      | normal => exact ⟨.normal, a₁, w₁, hq, Steps.trans harr (.one step_inScope)⟩
      | exit id => exact ⟨.exit id, a₁, w₁, hq, fun k' hk => harr k' (by simp [exitTo, hk])⟩
      | goto l' =>
        obtain ⟨m, hlt, hJ'⟩ := hq
        obtain ⟨rest', hf', e₂, a₂, w₂, hq₂, harr₂⟩ := ih m hlt l' a₁ w₁ hJ'
        exact ⟨e₂, a₂, w₂, hq₂, .of_steps (harr _ (by simp [gotoIn, hf'])) harr₂⟩
      | ret => exact ⟨_, a₁, w₁, hq, harr⟩
      | panic ch => exact ⟨_, a₁, w₁, hq, harr⟩
      | outgrown => exact ⟨_, a₁, w₁, hq, harr⟩
  obtain ⟨e, a₁, w₁, hq, harr⟩ := first b (.inScope c :: k) cs
  cases e with
  | normal => exact ⟨.normal, a₁, w₁, hq, .head step_scope (Steps.trans harr (.one step_inScope))⟩
  | exit id => exact ⟨.exit id, a₁, w₁, hq, fun k' hk => .head step_scope (harr k' (by simp [exitTo, hk]))⟩
  | goto l' =>
    obtain ⟨m, hJ'⟩ := hq
    obtain ⟨rest', hf', e₂, a₂, w₂, hq₂, harr₂⟩ := key m l' a₁ w₁ hJ'
    exact ⟨e₂, a₂, w₂, hq₂, .of_steps (.head step_scope (harr _ (by simp [gotoIn, hf']))) harr₂⟩
  | ret => exact ⟨_, a₁, w₁, hq, .of_steps (.one step_scope) harr⟩
  | panic ch => exact ⟨_, a₁, w₁, hq, .of_steps (.one step_scope) harr⟩
  | outgrown => exact ⟨_, a₁, w₁, hq, .of_steps (.one step_scope) harr⟩
/-- From label l on: whatever is asked behind it, out of what holds at the jumps. -/
def Walks (P : Program) (J : Nat → Nat → Act → World → Prop) (Q : Exit → Act → World → Prop) (r : _root_.Go.Code) (l : Nat) : Prop :=
  ∀ g a w, J g l a w → ∀ Qx : Exit → Act → World → Prop, (∀ e a' w', jumps (lower J g) Q e a' w' → Qx e a' w') → r.wp P Qx a w
/-- Four labels; what lies behind one may be used where the run falls into it. -/
theorem wp_scope4 {c r0 r1 r2 r3 : _root_.Go.Code} (J : Nat → Nat → Act → World → Prop) (f0 : findLabel c 0 = some (_root_.Go.Code.skip.seq r0)) (f1 : findLabel c 1 = some (_root_.Go.Code.skip.seq r1)) (f2 : findLabel c 2 = some (_root_.Go.Code.skip.seq r2)) (f3 : findLabel c 3 = some (_root_.Go.Code.skip.seq r3))
    (h0 : Walks P J Q r0 0) (h2 : Walks P J Q r2 2) (h3 : Hid (Walks P J Q r0 0) → Walks P J Q r3 3) (h1 : Hid (Walks P J Q r2 2) → Walks P J Q r1 1)
    (hf : Hid (Walks P J Q r1 1) → ∀ Qx : Exit → Act → World → Prop, (∀ e a' w', jumps (someGas J) Q e a' w' → Qx e a' w') → c.wp P Qx a w)
    (hJ : ∀ g l a w, J g l a w → l = 0 ∨ l = 1 ∨ l = 2 ∨ l = 3) : (_root_.Go.Code.scope c).wp P Q a w := by
  refine wp_scope_many J (hf (h1 h2) _ fun _ _ _ h => h) fun g l a w hj => ?_
  rcases hJ g l a w hj with rfl | rfl | rfl | rfl
  · exact ⟨_, f0, wp_seq (wp_skip (h0 g a w hj _ fun _ _ _ h => h))⟩
  · exact ⟨_, f1, wp_seq (wp_skip (h1 h2 g a w hj _ fun _ _ _ h => h))⟩
  · exact ⟨_, f2, wp_seq (wp_skip (h2 g a w hj _ fun _ _ _ h => h))⟩
  · exact ⟨_, f3, wp_seq (wp_skip (h3 h0 g a w hj _ fun _ _ _ h => h))⟩
theorem to_jump {J : Nat → Nat → Act → World → Prop} {g l : Nat} {Qx : Exit → Act → World → Prop} (h : ∀ e a' w', jumps (lower J g) Q e a' w' → Qx e a' w') (k : Nat) (hk : k < g) (hj : J k l a w) : Qx (.goto l) a w := h _ _ _ ⟨k, hk, hj⟩
theorem to_ret {J : Nat → Act → World → Prop} {Qx : Exit → Act → World → Prop} (h : ∀ e a' w', jumps J Q e a' w' → Qx e a' w') (hj : Q .ret a w) : Qx .ret a w := h _ _ _ hj
theorem to_fall {J : Nat → Nat → Act → World → Prop} {g l : Nat} {r : _root_.Go.Code} {Qx : Exit → Act → World → Prop} (h : ∀ e a' w', jumps (lower J g) Q e a' w' → Qx e a' w') (H : Hid (Walks P J Q r l)) (k : Nat) (hk : k ≤ g) (hj : J k l a w) : r.wp P Qx a w :=
  H k a w hj Qx fun e a' w' hq => h e a' w' (jumps_low hk e a' w' hq)
theorem to_fall_first {J : Nat → Nat → Act → World → Prop} {l : Nat} {r : _root_.Go.Code} {Qx : Exit → Act → World → Prop} (h : ∀ e a' w', jumps (someGas J) Q e a' w' → Qx e a' w') (H : Hid (Walks P J Q r l)) (k : Nat) (hj : J k l a w) : r.wp P Qx a w :=
  H k a w hj Qx fun e a' w' hq => h e a' w' (jumps_some e a' w' hq)
end

/-- No lengths can be read. -/
def No5 (s : ByteArray) (at0 n : Nat) : Prop := ¬ ∃ (xs : List Nat) (c : Nat), reads5 s at0 n xs c
/-- The lengths xs are read; of the next one's steps those up to bit c, which have led to y. -/
def Mid5 (s : ByteArray) (at0 : Nat) (xs : List Nat) (c y : Nat) : Prop :=
  ∃ c0, StpL s (at0 + 5) (num (row s at0 5)) xs c0 ∧ ∀ x d, Stp s c0 (lastN (num (row s at0 5)) xs) x d ↔ Stp s c y x d
theorem Mid5.no {s : ByteArray} {at0 c y n : Nat} {xs : List Nat} (h : Mid5 s at0 xs c y) (hn : xs.length < n) (hno : ∀ x d, ¬ Stp s c y x d) : No5 s at0 n := by
  obtain ⟨c0, h1, h2⟩ := h
  have h3 := stpL_stop h1 hn (fun x d hx => hno x d ((h2 x d).1 hx))
  rintro ⟨ys, d, h4, h5, _⟩
  exact h3 ⟨ys, d, h4, h5.2⟩
theorem Mid5.low {s : ByteArray} {at0 c y n : Nat} {xs : List Nat} (h : Mid5 s at0 xs c y) (hn : xs.length < n) (hy : ¬ (1 ≤ y ∧ y ≤ 20)) : No5 s at0 n :=
  h.no hn fun x d hx => hy (stp_range hx)
theorem Mid5.room {s : ByteArray} {at0 c y n : Nat} {xs : List Nat} (h : Mid5 s at0 xs c y) (hn : xs.length < n) (hc : ¬ c + 1 ≤ 8 * s.size) : No5 s at0 n :=
  h.no hn fun x d hx => hc (stp_room hx)
theorem Mid5.room2 {s : ByteArray} {at0 c y n : Nat} {xs : List Nat} (h : Mid5 s at0 xs c y) (hn : xs.length < n) (hb : bit s c = 1) (hc : ¬ c + 2 ≤ 8 * s.size) : No5 s at0 n :=
  h.no hn fun x d hx => hc (stp_room2 hx hb)
theorem Mid5.up {s : ByteArray} {at0 c y : Nat} {xs : List Nat} (h : Mid5 s at0 xs c y) (hy : 1 ≤ y ∧ y ≤ 20) (hc : c + 2 ≤ 8 * s.size) (hb : bit s c = 1) (hb2 : bit s (c + 1) = 0) : Mid5 s at0 xs (c + 2) (y + 1) := by
  obtain ⟨c0, h1, h2⟩ := h
  exact ⟨c0, h1, fun x d => (h2 x d).trans (stp_up hy hc hb hb2)⟩
theorem Mid5.down {s : ByteArray} {at0 c y : Nat} {xs : List Nat} (h : Mid5 s at0 xs c y) (hy : 1 ≤ y ∧ y ≤ 20) (hc : c + 2 ≤ 8 * s.size) (hb : bit s c = 1) (hb2 : bit s (c + 1) = 1) : Mid5 s at0 xs (c + 2) (y - 1) := by
  obtain ⟨c0, h1, h2⟩ := h
  exact ⟨c0, h1, fun x d => (h2 x d).trans (stp_down hy hc hb hb2)⟩
theorem Mid5.stop {s : ByteArray} {at0 c y : Nat} {xs : List Nat} (h : Mid5 s at0 xs c y) (hy : 1 ≤ y ∧ y ≤ 20) (hc : c + 1 ≤ 8 * s.size) (hb : bit s c = 0) : StpL s (at0 + 5) (num (row s at0 5)) (xs ++ [y]) (c + 1) := by
  obtain ⟨c0, h1, h2⟩ := h
  exact h1.snoc ((h2 _ _).2 (.stop c y hy hc hb))
theorem Mid5.next {s : ByteArray} {at0 c y : Nat} {xs : List Nat} (h : StpL s (at0 + 5) (num (row s at0 5)) (xs ++ [y]) c) : Mid5 s at0 (xs ++ [y]) c y :=
  ⟨c, h, fun x d => by rw [lastN_snoc]⟩
theorem Mid5.first (s : ByteArray) (at0 : Nat) : Mid5 s at0 [] (at0 + 5) (num (row s at0 5)) := ⟨at0 + 5, .nil _ _, fun x d => Iff.rfl⟩

/-- What stays the same at every jump: the block of the answer's reader. -/
def Base5 (w w' : World) : Prop := Has w' (w.heap.size + 1) 33 #[.string ⟨#[]⟩, .int .i64 0] ∧ Below w.heap.size w w'
/-- The reader's block, the row read so far. -/
def Held5 (s : ByteArray) (w : World) (xs : List Nat) (c : Nat) (vl : Value) (w' : World) : Prop :=
  w'.ownsRow (w.heap.size + 2) 3 1 vl xs.length (natsL xs) ∧ Has w' w.heap.size 33 #[.string s, .int .i64 (c : Int)]
/-- What holds where the run jumps, by label: 0: nothing can be read; 1: the length has changed, or nothing is left; 2: the length is in its range; 3: its steps are over. -/
def Jump5 (s : ByteArray) (at0 n : Nat) (w : World) (gk : Nat) : Nat → Value → Value → Value → World → Prop
  | 0, _, _, _, w' => Base5 w w' ∧ No5 s at0 n
  | 1, vl, vx, vk, w' => Base5 w w' ∧ ((vk = .bool false ∧ gk = 1 ∧ No5 s at0 n) ∨
      (vk = .bool true ∧ ∃ (c y : Nat) (xs : List Nat), Mid5 s at0 xs c y ∧ xs.length < n ∧ y ≤ 31 ∧ c ≤ 8 * s.size ∧ gk = 3 * (8 * s.size - c) + 1 ∧ vx = .int .i64 y ∧ Held5 s w xs c vl w'))
  | 2, vl, vx, vk, w' => Base5 w w' ∧ ∃ (c y : Nat) (xs : List Nat), Mid5 s at0 xs c y ∧ xs.length < n ∧ (1 ≤ y ∧ y ≤ 20) ∧ c ≤ 8 * s.size ∧ gk = 3 * (8 * s.size - c) + 1 ∧ vx = .int .i64 y ∧ Held5 s w xs c vl w'
  | 3, vl, vx, vk, w' => Base5 w w' ∧ ∃ (c y : Nat) (xs : List Nat), StpL s (at0 + 5) (num (row s at0 5)) (xs ++ [y]) c ∧ xs.length < n ∧ (1 ≤ y ∧ y ≤ 20) ∧ c ≤ 8 * s.size ∧ gk = 3 * (8 * s.size - c) + 2 ∧ vx = .int .i64 y ∧ Held5 s w xs c vl w'
  | _, _, _, _, _ => False
theorem Held5.call {s : ByteArray} {w wr w2 : World} {xs : List Nat} {c : Nat} {vl : Value} (h : Held5 s w xs c vl wr) (b2 : Below wr.heap.size wr w2) : Held5 s w xs c vl w2 :=
  ⟨own_bel h.1 b2, h.2.below b2 h.2.lt⟩
theorem Base5.call {w wr w2 : World} (h : Base5 w wr) (b2 : Below wr.heap.size wr w2) : Base5 w w2 :=
  ⟨h.1.below b2 h.1.lt, bel_then b2 h.2.size h.2⟩
theorem Held5.put {s : ByteArray} {w wr : World} {xs : List Nat} {c : Nat} {vl : Value} (h : Held5 s w xs c vl wr) (d : Nat) :
    Held5 s w xs d vl ((wr.setCell ⟨w.heap.size, 0, none⟩ (.string s)).setCell ⟨w.heap.size, 1, none⟩ (.int .i64 (d : Int))) := by
  have h2 := (h.2.store 0 (.string s)).store 1 (.int .i64 (d : Int))
  simp at h2
  exact ⟨own_away (own_away h.1 (by simp) _) (by simp) _, h2⟩
theorem Base5.put {w wr : World} (h : Base5 w wr) (u v : Value) : Base5 w ((wr.setCell ⟨w.heap.size, 0, none⟩ u).setCell ⟨w.heap.size, 1, none⟩ v) :=
  ⟨(h.1.storeAway (by simp) _).storeAway (by simp) _, (h.2.setCell (Nat.le_refl _) _).setCell (Nat.le_refl _) _⟩
theorem Held5.cells {s : ByteArray} {w wr : World} {xs : List Nat} {c : Nat} {vl : Value} (h : Held5 s w xs c vl wr) :
    wr.cell? ⟨w.heap.size, 0, none⟩ = some (.string s) ∧ wr.cell? ⟨w.heap.size, 1, none⟩ = some (.int .i64 (c : Int)) ∧ wr.frozen? ⟨w.heap.size, 0, none⟩ = false ∧ wr.frozen? ⟨w.heap.size, 1, none⟩ = false := by
  have e0 := h.2.cell 0
  have e1 := h.2.cell 1
  simp at e0 e1
  exact ⟨e0, e1, h.2.free 0, h.2.free 1⟩
theorem Base5.cells {w wr : World} (h : Base5 w wr) :
    wr.cell? ⟨w.heap.size + 1, 0, none⟩ = some (.string ⟨#[]⟩) ∧ wr.cell? ⟨w.heap.size + 1, 1, none⟩ = some (.int .i64 0) ∧ wr.frozen? ⟨w.heap.size + 1, 0, none⟩ = false ∧ wr.frozen? ⟨w.heap.size + 1, 1, none⟩ = false := by
  have e0 := h.1.cell 0
  have e1 := h.1.cell 1
  simp at e0 e1
  exact ⟨e0, e1, h.1.free 0, h.1.free 1⟩
theorem stpL_room {s : ByteArray} {a now c : Nat} {zs : List Nat} (h : StpL s a now zs c) (hz : 0 < zs.length) : a + 1 ≤ 8 * s.size := by
  cases h with
  | nil => simp at hz
  | cons => exact stp_room (by assumption)
theorem end5_yes {s : ByteArray} {at0 n c : Nat} {zs : List Nat} (h : StpL s (at0 + 5) (num (row s at0 5)) zs c) (hl : zs.length = n) (hn : 1 ≤ n) (hok : lOk (iL zs) = true) : reads5 s at0 n zs c :=
  ⟨hl, ⟨by have := stpL_room h (by omega); omega, h⟩, hok⟩
theorem end5_no {s : ByteArray} {at0 n c : Nat} {zs : List Nat} (h : StpL s (at0 + 5) (num (row s at0 5)) zs c) (hl : zs.length = n) (hok : lOk (iL zs) = false) : No5 s at0 n := by
  rintro ⟨ys, d, h1, h2, h3⟩
  have e := (h.one h2.2 (by omega)).1
  subst e
  rw [hok] at h3; exact absurd h3 (by decide)
theorem stpL_ints {s : ByteArray} {a now c : Nat} {zs : List Nat} (h : StpL s a now zs c) : ∀ x ∈ iL zs, -9223372036854775808 ≤ x ∧ x ≤ 9223372036854775807 := fun x hx => by
  simp only [iL, List.mem_map] at hx
  obtain ⟨q, hq, rfl⟩ := hx
  have := h.range q hq
  omega
theorem Held5.mk1 {s : ByteArray} {w wr : World} {xs : List Nat} {c y : Nat} {vl : Value} (h1 : wr.ownsRow (w.heap.size + 2) 3 1 vl (xs.length + 1) (natsL xs ++ [.int .i64 (y : Int)])) (h2 : Has wr w.heap.size 33 #[.string s, .int .i64 (c : Int)]) : Held5 s w (xs ++ [y]) c vl wr := by
  refine ⟨?_, h2⟩
  rw [List.length_append, natsL_append]; exact h1
theorem Held5.form {s : ByteArray} {w wr : World} {xs : List Nat} {c : Nat} {vl : Value} (h : Held5 s w xs c vl wr) (hx : 0 < xs.length) : ∃ g cap, vl = .slice (some ⟨g, 0, none⟩) xs.length cap := Joins.ownsRow_form h.1 hx
theorem Held5.ints {s : ByteArray} {w wr : World} {xs : List Nat} {c a now d n cap : Nat} {g : Option Addr} (h : Held5 s w xs c (.slice g n cap) wr) (hl : xs.length = n) (hn : n ≤ 260) (hs : StpL s a now xs d) : Ints wr wr.heap.size g (iL xs) := by
  have h1 := h.1
  rw [hl, ← show intsV (iL xs) = natsL xs by simp [iL, intsV, natsL]] at h1
  exact (Ints.ofOwn (zs := iL xs) h1 (by omega) (stpL_ints hs)).2
end Go.Proofs.YtpngomjkapccdaaDoor
namespace Go.Proofs.YtpngomjkapccdaaDoor
set_option linter.unusedVariables false
set_option linter.unusedSimpArgs false
open Go.RowKit

end Go.Proofs.YtpngomjkapccdaaDoor
namespace Go.Proofs.YtpngomjkapccdaaDoor
set_option linter.unusedVariables false
set_option linter.unusedSimpArgs false
open Go.RowKit

/-- What holds at the two labels that the run can reach. -/
def JumpNo (w : World) (gk : Nat) : Nat → Value → World → Prop
  | 0, _, w' => Base5 w w'
  | 1, vk, w' => Base5 w w' ∧ vk = .bool false ∧ gk = 1
  | _, _, _ => False

/-- Nothing is read. -/
def GLNo (w : World) (e : Ending) (w' : World) : Prop := e = .returned (.tuple #[.slice none 0 0, .agg #[.string ⟨#[]⟩, .int .i64 0], .bool false]) ∧ Below w.heap.size w w'

end Go.Proofs.YtpngomjkapccdaaDoor
