/- Merged: ExA, WExGroups, ExB. -/
import Derived.Test.YtaaahmfkdiogkaaQM4
import Derived.Test.YtaaahmfkdiogkaaQM5
import Derived.Deep.RegionHeld3
import Derived.Deep.Cut
import Derived.Deep.DeepCutAuto
namespace Go.Proofs.Ytaaahmfkdiogkaa
set_option linter.unusedVariables false
set_option linter.unusedSimpArgs false
open Go.RowKit Go.ChangeShapes Go.WideShapes Go.ChangeAt

theorem Ints.ofRowE {w : World} {a : Option Addr} {len cap : Nat} {zs : List Int} (h : IsRow .i64 w a len cap zs) (hle : len ≤ 1048576) : ∃ ys : List Int, ys.length = len ∧ Ints w w.heap.size a ys := by
  rcases h with ⟨rfl, rfl, rfl, rfl⟩ | ⟨x, rfl, hl, hm, hz, hc, hwz⟩
  · exact ⟨[], rfl, by simp, by simp, fun h => by simp at h⟩
  · have hlen : (zs.take len).length = len := by rw [List.length_take]; omega
    refine ⟨zs.take len, hlen, by rw [hlen]; omega, fun n hn => ?_, fun h0 => ?_⟩
    · exact bounds_i64 (hwz n (List.mem_of_mem_take hn))
    · have h1 := hc 0 (by omega)
      obtain ⟨b, off, spot⟩ := x
      have hspot : spot = none := by simpa [Addr.add] using World.cell?_spot h1
      subst hspot
      refine ⟨b, off, rfl, ?_, fun i hi => ?_⟩
      · have := cell_lt h1
        simpa [Addr.add] using this
      · rw [hlen] at hi
        have := hc i (by omega)
        have e2 : (zs.take len).getD i 0 = zs.getD i 0 := by simp [List.getD_eq_getElem?_getD, List.getElem?_take, hi]
        rw [e2]
        by_cases e : i = 0
        · subst e; simpa [Addr.add] using this
        · simpa [Addr.add, e] using this
theorem isrow_lenE {w : World} {a : Option Addr} {len cap : Nat} {zs : List Int} (h : IsRow .i64 w a len cap zs) : len ≤ maxLen := by
  rcases h with ⟨rfl, rfl, rfl, rfl⟩ | ⟨x, rfl, hl, hm, hz, hc, hwz⟩ <;> omega
/-- A row of integers of one's own is a slice of integers. -/
theorem own_ints {w : World} {base n c : Nat} {a : Option Addr} {zs : List Int} (h : w.ownsRow base 3 1 (.slice a n c) n (intsV zs)) (hr : ∀ x ∈ zs, -9223372036854775808 ≤ x ∧ x ≤ 9223372036854775807) (hn : n ≤ 1048576) : Ints w w.heap.size a zs := (Ints.ofOwn h (by omega) hr).2
theorem own_form {w : World} {base n : Nat} {v : Value} {xs : List Value} {E : TypeId} {S : Nat} (h : w.ownsRow base E S v n xs) : ∃ a c, v = .slice a n c := by
  rcases h.2 with ⟨rfl, rfl⟩ | ⟨g, cap, cur, rfl, _⟩
  · exact ⟨none, 0, rfl⟩
  · exact ⟨_, cap, rfl⟩
theorem own_blk {w w' : World} {base : Nat} {e : TypeId} {size : Nat} {v : Value} {n : Nat} {xs : List Value} (h : w.ownsRow base e size v n xs) (hb : ∀ i, i < w.heap.size → w'.heap[i]? = w.heap[i]?) : w'.ownsRow base e size v n xs := by
  refine ⟨h.1, ?_⟩
  rcases h.2 with h2 | ⟨g, cap, cur, hv, hg, hc, hr⟩
  · exact .inl h2
  · refine .inr ⟨g, cap, cur, hv, hg, ?_, hr⟩
    rw [hb g (Array.getElem?_eq_some_iff.1 hc).1]; exact hc
/-- Where a row lies. -/
def Ranged (v : Value) (lo hi : Nat) : Prop := ∀ k, v.ownBlock = some k → lo ≤ k ∧ k < hi
theorem own_ranged {w : World} {base n S : Nat} {v : Value} {xs : List Value} {E : TypeId} (h : w.ownsRow base E S v n xs) : Ranged v base w.heap.size := h.lt
theorem ranged_ne {v1 v2 : Value} {l1 h1 l2 h2 : Nat} (r1 : Ranged v1 l1 h1) (r2 : Ranged v2 l2 h2) (h : h1 ≤ l2 ∨ h2 ≤ l1) : v1.ownBlock = none ∨ v1.ownBlock ≠ v2.ownBlock := by
  cases e : v1.ownBlock with
  | none => exact .inl rfl
  | some k =>
    refine .inr fun e2 => ?_
    have a := r1 k e
    have b := r2 k e2.symm
    omega
theorem ranged_box {v : Value} {l h g : Nat} (r : Ranged v l h) (hg : g < l ∨ h ≤ g) : some g ≠ v.ownBlock := fun e => by have := r g e.symm; omega
theorem bel_grown {w W W' : World} {v : Value} {lo hi : Nat} (B : Below w.heap.size w W) (gr : W.grownBy W' v.ownBlock) (r : Ranged v lo hi) (hlo : w.heap.size ≤ lo) : Below w.heap.size w W' :=
  B.grown gr B.size (fun b hb => Nat.le_trans hlo (r b hb).1)
theorem toInt_e {n : Nat} (a : Option Addr) (cap : Nat) (zs : List Int) (w0 w : World) (hn : zs.length = n) (hz : Ints w0 w0.heap.size a zs) (B : Below w0.heap.size w0 w) (hlen : n ≤ 1048576) :
    Calls Try.prog 17 #[.slice a n cap] w fun e w' => ∃ g, e = .returned (.slice (some ⟨g, 0, none⟩) n n) ∧ w'.ownsRow w.heap.size 3 1 (.slice (some ⟨g, 0, none⟩) n n) n (intsV zs) ∧ Below w.heap.size w w' := by
  subst hn
  exact toIntS_any a cap w0.heap.size zs w (hz.below B) B.size hlen
theorem eq_e {n : Nat} (p q : Option Addr) (c c2 : Nat) (zs : List Int) (w : World) (hn : zs.length = n) (hz : Ints w w.heap.size p zs) (hy : Ints w w.heap.size q zs) :
    Calls Try.prog 20 #[.slice p n c, .slice q n c2] w fun e w' => e = .returned (.bool true) ∧ Below w.heap.size w w' := by
  subst hn
  have := eqIntS_any p q c c2 w.heap.size zs zs w hz hy
  simpa using this
theorem mark_e {n k : Nat} {v : Value} (base : Nat) (zs : List Int) (w : World) (h : w.ownsRow base 3 1 v n (intsV zs)) (hn : n ≤ 1048576) (hk : k ≤ 1000000000) (x : Int) (hx : x = (k : Int)) :
    Calls Try.prog 21 #[v, .int .i64 x] w fun e w' => e = .returned (.int .i64 (x + (n : Int))) ∧ w'.ownsRow base 3 1 v n (intsV (upFrom k n)) ∧ w.grownBy w' v.ownBlock := by
  subst hx
  refine (markIntS_any base k n _ zs w h hn hk).mono ?_
  rintro e w' ⟨rfl, h1, h2⟩
  exact ⟨by simp, h1, h2⟩
theorem held_e {n c : Nat} {a : Option Addr} (base : Nat) (w : World) (h : w.ownsRow base 3 1 (.slice a n c) n (intsV (upFrom 1 n))) (hn : n ≤ 1048576) :
    Calls Try.prog 24 #[.slice a n c, .int .i64 1] w fun e w' => e = .returned (.int .i64 (1 + (n : Int))) ∧ w = w' := by
  have hI := (Ints.ofOwn h (by omega) (fun x hx => by
    obtain ⟨j, hj, e⟩ := mem_getD hx
    rw [upFrom_len] at hj
    rw [upFrom_get 1 n j hj] at e
    omega)).2
  refine (heldIntS_any a c _ 1 n w hI hn (by omega)).mono ?_
  rintro e w' ⟨rfl, h1⟩
  exact ⟨by simp, h1.symm⟩
theorem toRd_e (s : ByteArray) (n : Int) (w : World) :
    Calls Try.prog 34 #[.agg #[.string s, .int .i64 n]] w fun e w' => e = .returned (.agg #[.string s, .int .i64 n]) ∧ Below w.heap.size w w' := by
  go_enter Try.func34, Try.ntmps34
  go_wp2
  refine bodyPost_ret (v := .agg #[.string s, .int .i64 n]) (by simp [results, Try.results34, go_sem]) rfl ⟨rfl, ?_⟩
  repeat (first | exact Below.refl _ _ | refine Below.alloc ?_ (by (try simp); (try omega)) _ | refine Below.setCell ?_ (by (try simp); (try omega)) _ | refine Below.drew ?_)
theorem szRd_ok (s : ByteArray) (n : Int) (l : Nat) (w : World) (hs : s.size ≤ l) (hl : l ≤ 1048576) :
    Calls Try.prog 32 #[.agg #[.string s, .int .i64 n], .int .i64 l] w fun e w' => e = .returned (.int .i64 ((l - s.size : Nat) : Int)) ∧ Below w.heap.size w w' := by
  have e1 : ((l - s.size : Nat) : Int) = (l : Int) - (s.size : Int) := by omega
  rw [e1]
  go_enter Try.func32, Try.ntmps32
  go_wp2
  go_ret
  exact ⟨rfl, (Below.refl _ _).alloc (Nat.le_refl _) _⟩
theorem szRd_no (s : ByteArray) (n : Int) (l : Nat) (w : World) (hs : l < s.size) (hm : s.size ≤ maxLen) (hl : l ≤ 1048576) :
    Calls Try.prog 32 #[.agg #[.string s, .int .i64 n], .int .i64 l] w fun e w' => e = .returned (.int .i64 (-1)) ∧ Below w.heap.size w w' := by
  unfold maxLen at hm
  go_enter Try.func32, Try.ntmps32
  go_wp2
  go_ret
  exact ⟨rfl, (Below.refl _ _).alloc (Nat.le_refl _) _⟩
theorem eqRd_e (s : ByteArray) (n : Int) (w : World) :
    Calls Try.prog 36 #[.agg #[.string s, .int .i64 n], .agg #[.string s, .int .i64 n]] w fun e w' => e = .returned (.bool true) ∧ Below w.heap.size w w' := by
  go_enter Try.func36, Try.ntmps36
  go_wp2
  go_ret
  refine ⟨rfl, ?_⟩
  repeat (first | exact Below.refl _ _ | refine Below.alloc ?_ (by (try simp); (try omega)) _ | refine Below.setCell ?_ (by (try simp); (try omega)) _ | refine Below.drew ?_)
theorem eqBits_e (s : ByteArray) (n : Int) (w : World) :
    Calls Try.prog 31 #[.agg #[.string s, .int .i64 n], .agg #[.string s, .int .i64 n]] w fun e w' => e = .returned (.bool true) ∧ Below w.heap.size w w' := by
  go_enter Try.func31, Try.ntmps31
  go_wp2
  go_ret
  refine ⟨rfl, ?_⟩
  repeat (first | exact Below.refl _ _ | refine Below.alloc ?_ (by (try simp); (try omega)) _ | refine Below.setCell ?_ (by (try simp); (try omega)) _ | refine Below.drew ?_)
end Go.Proofs.Ytaaahmfkdiogkaa
namespace Go.Proofs.Ytaaahmfkdiogkaa
set_option linter.unusedVariables false
set_option linter.unusedSimpArgs false
open Go.RowKit Go.ChangeShapes Go.WideShapes Go.ChangeAt

/-- For all arguments in bounds the model and the program answer the same. -/
def MeetsGroups : Prop := ∀ (a0 : Int), -9223372036854775808 ≤ a0 → a0 ≤ 9223372036854775807 → ∃ (r0 : Int), (∀ (W : World), Calls Try.prog 14 #[.int .i64 a0] W fun e w' => e = .returned (.int .i64 r0) ∧ Below W.heap.size W w') ∧ (∀ (W : World), Calls Try.prog 15 #[.int .i64 a0] W fun e w' => e = .returned (.int .i64 r0) ∧ Below W.heap.size W w')
set_option maxHeartbeats 4000000 in
set_option maxRecDepth 100000 in
theorem in_FnExactGroups (w : World) (a0 : Int) (b0 : -9223372036854775808 ≤ a0) (d0 : a0 ≤ 9223372036854775807) (r0 : Int)
    (KS : Hid (∀ (W : World), Calls Try.prog 14 #[.int .i64 a0] W fun e w' => e = .returned (.int .i64 r0) ∧ Below W.heap.size W w'))
    (KI : Hid (∀ (W : World), Calls Try.prog 15 #[.int .i64 a0] W fun e w' => e = .returned (.int .i64 r0) ∧ Below W.heap.size W w')) :
    Calls Try.prog 3 #[.int .i64 a0] w fun e w' => e = .returned (.bool true) ∧ Below w.heap.size w w' := by
  go_enter Try.func3, Try.ntmps3
  go_wp2_with fail
  refine (KS.out w  ).mono ?_
  rintro e W1 ⟨rfl, b1⟩
  have B1 : Below w.heap.size w W1 := bel_then b1 (Below.refl w.heap.size w).size (Below.refl w.heap.size w)
  have sB1 := b1.size
  clear b1
  go_wp2_with fail
  refine (KI.out W1  ).mono ?_
  rintro e W2 ⟨rfl, b2⟩
  have B2 : Below w.heap.size w W2 := bel_then b2 B1.size B1
  have sB2 := b2.size
  clear b2
  go_wp2
  go_ret
  exact ⟨rfl, B2⟩
set_option maxRecDepth 100000 in
theorem walk_FnExactGroups (hM : MeetsGroups) (w : World) (a0 : Int) (b0 : -9223372036854775808 ≤ a0) (d0 : a0 ≤ 9223372036854775807) :
    Calls Try.prog 3 #[.int .i64 a0] w fun e w' => e = .returned (.bool true) ∧ Below w.heap.size w w' := by
  obtain ⟨r0, hs, hi⟩ := hM a0 b0 d0
  exact in_FnExactGroups w a0 b0 d0 r0  (hidden hs) (hidden hi)
end Go.Proofs.Ytaaahmfkdiogkaa
namespace Go.Proofs.Ytaaahmfkdiogkaa
set_option linter.unusedVariables false
set_option linter.unusedSimpArgs false
open Go.RowKit

theorem apart_r {v0 v1 : Value} (h : ∀ k, v0.ownBlock = some k → v1.ownBlock ≠ some k) : v1.ownBlock = none ∨ v1.ownBlock ≠ v0.ownBlock := by
  cases e : v1.ownBlock with
  | none => exact .inl rfl
  | some k => exact .inr (fun e2 => h k e2.symm e)
theorem apart_l {v0 v1 : Value} (h : ∀ k, v0.ownBlock = some k → v1.ownBlock ≠ some k) : v0.ownBlock = none ∨ v0.ownBlock ≠ v1.ownBlock := by
  cases e : v0.ownBlock with
  | none => exact .inl rfl
  | some k => exact .inr (fun e2 => h k e e2.symm)
theorem heldK_e {n c k : Nat} {a : Option Addr} (base : Nat) (w : World) (h : w.ownsRow base 3 1 (.slice a n c) n (intsV (upFrom k n))) (hn : n ≤ 1048576) (hk : k ≤ 1000000000) (x : Int) (hx : x = (k : Int)) :
    Calls Try.prog 24 #[.slice a n c, .int .i64 x] w fun e w' => e = .returned (.int .i64 (x + (n : Int))) ∧ w = w' := by
  subst hx
  have hI := (Ints.ofOwn h (by omega) (fun x hx => by
    obtain ⟨j, hj, e⟩ := mem_getD hx
    rw [upFrom_len] at hj
    rw [upFrom_get k n j hj] at e
    omega)).2
  refine (heldIntS_any a c _ k n w hI hn hk).mono ?_
  rintro e w' ⟨rfl, h1⟩
  exact ⟨by simp, h1.symm⟩
end Go.Proofs.Ytaaahmfkdiogkaa
