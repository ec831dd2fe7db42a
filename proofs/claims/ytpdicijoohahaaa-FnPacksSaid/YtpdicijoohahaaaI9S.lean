/- Chapter 9, the program: runs; what a round of a loop over it keeps. -/
import Derived.Test.YtpdicijoohahaaaI9R
namespace Go.Proofs.Ytpdicijoohahaaa
set_option linter.unusedVariables false
set_option linter.unusedSimpArgs false
open Go.RowKit Go.Shelf
attribute [local go_sem] Oper.semAt_some

theorem runs_any (a : Option Addr) (len cap : Nat) (bd : Int) (w : World) :
    Calls Try.prog 46 #[.slice a len cap, .int .i64 bd] w fun e w' => e = .returned (.func (.func 58) #[] #[.pointer (some ⟨w.heap.size, 0, none⟩), .pointer (some ⟨w.heap.size + 1, 0, none⟩)]) ∧ (w.alloc (.cells #[.slice a len cap] 22)).alloc (.cells #[.int .i64 bd] 3) = w' := by
  go_enter Try.func46, Try.ntmps46
  go_wp2
  go_ret
  exact ⟨rfl, rfl⟩
set_option maxHeartbeats 2000000 in
set_option maxRecDepth 100000 in
theorem runs1_zero (n : Nat) (l Bl Bb cap : Nat) (a : Option Addr) (J : List (Chk9 0) → World → Prop) (W : World) (hBl : W.cell? ⟨Bl, 0, none⟩ = some (.slice a 0 cap)) (h0 : J [] W) :
    CallsIn Fence.wide n Try.prog 58 #[.func (.yield l) #[] #[], .pointer (some ⟨Bl, 0, none⟩), .pointer (some ⟨Bb, 0, none⟩)] W fun e W' => (∃ v, e = .returned v) ∧ J [] W' := by
  refine callsIn_of_wp Try.func58 rfl trivial ?_ rfl
  simp only [Try.ntmps58, List.size_toArray, List.length_cons, List.length_nil, Nat.reduceAdd, Nat.reduceSub, Array.replicate_succ, Array.replicate_zero, List.push_toArray, List.append_toArray, List.nil_append, List.cons_append]
  gi_wp2
  gi_loopw [4, 5] (fun si _ wr => si = .int .i64 0 ∧ wr.cell? ⟨Bl, 0, none⟩ = some (.slice a 0 cap) ∧ J [] wr) (fun _ _ _ => 0)
  case atStart => exact ⟨rfl, hBl, h0⟩
  case round =>
    obtain ⟨rfl, cl, hJ⟩ := hrel
    gi_wp2
    go_end0
    exact ⟨⟨_, rfl⟩, hJ⟩
/-- The runs come one by one: all, or the first of them. -/
theorem runs_stops (n : Nat) (hn : 2 ≤ n) (Bl Bb n₀ b off len cap : Nat) (a : Option Addr) (bd : Int) (z : List Int) (hz : z.length = len) (hl6 : len ≤ 1048576) (hcap : len ≤ cap) (w : World) (h1 : Bl < w.heap.size) (h2 : Bb < w.heap.size) (h3 : n₀ ≤ w.heap.size)
    (hBl : w.cell? ⟨Bl, 0, none⟩ = some (.slice a len cap)) (hBb : w.cell? ⟨Bb, 0, none⟩ = some (.int .i64 bd)) (hr : ∀ x ∈ z, -9223372036854775808 ≤ x ∧ x ≤ 9223372036854775807)
    (hI : 0 < len → a = some ⟨b, off, none⟩ ∧ b < n₀ ∧ ∀ j, j < len → w.cell? ⟨b, off + j, none⟩ = some (.int .i64 (z.getD j 0))) :
    SeqStopsK Fence.wide n Try.prog 58 #[.pointer (some ⟨Bl, 0, none⟩), .pointer (some ⟨Bb, 0, none⟩)] (fun x : Chk9 len => #[.slice (some ⟨b, off + x.1.1, none⟩) x.1.2 (cap - x.1.1)]) (keepR n₀ Bl Bb)
      (fun ys => ys.map Subtype.val = chR bd z 0) (fun pre => pre.map Subtype.val <+: chR bd z 0) len w := fun l J Jx W hW hJ _ hY h0 => by
  have c1 := (hW.cell (p := ⟨Bl, 0, none⟩) h1).trans hBl
  have c2 := (hW.cell (p := ⟨Bb, 0, none⟩) h2).trans hBb
  rcases Nat.eq_zero_or_pos len with rfl | hp
  · refine (runs1_zero n l Bl Bb cap a J W c1 h0).mono fun e W' ⟨he, hj⟩ => ⟨he, .inl ⟨[], ?_, hj⟩⟩
    rw [chR_end (by omega)]; rfl
  · obtain ⟨rfl, hb, hc⟩ := hI hp
    exact runs1_any n hn l Bl Bb n₀ b off len cap bd z hz hl6 hcap hb J Jx hY W hJ c1 c2 hr (fun j hj => (hW.cell (p := ⟨b, off + j, none⟩) (by simp; omega)).trans (hc j hj)) h0

/-- What a round keeps: all below n₁ but B; whatever is no cells. -/
structure Rnd9 (n₁ B : Nat) (W W' : World) : Prop where
  os : W'.os = W.os
  tape : W'.tape = W.tape
  output : W'.output = W.output
  size : W.heap.size ≤ W'.heap.size
  block : ∀ i, i < n₁ → i ≠ B → W'.heap[i]? = W.heap[i]?
  others : KeepsOthers W W'
theorem Rnd9.refl (n₁ B : Nat) (W : World) : Rnd9 n₁ B W W := ⟨rfl, rfl, rfl, Nat.le_refl _, fun _ _ _ => rfl, KeepsOthers.refl _⟩
theorem Rnd9.trans {n₁ B : Nat} {X Y Z : World} (h : Rnd9 n₁ B X Y) (k : Rnd9 n₁ B Y Z) : Rnd9 n₁ B X Z := ⟨k.os.trans h.os, k.tape.trans h.tape, k.output.trans h.output, Nat.le_trans h.size k.size, fun i hi hB => (k.block i hi hB).trans (h.block i hi hB), h.others.trans k.others⟩
theorem Rnd9.drew {n₁ B : Nat} {X Y : World} (h : Rnd9 n₁ B X Y) : Rnd9 n₁ B X Y.drew := ⟨h.os, h.tape, h.output, h.size, h.block, h.others.trans (KeepsOthers.drew _)⟩
theorem others_drewN (W : World) (n : Nat) : KeepsOthers W (W.drewN n) := ⟨Nat.le_refl _, fun _ _ h _ => h⟩
theorem Rnd9.drewN {n₁ B : Nat} {X Y : World} (h : Rnd9 n₁ B X Y) (n : Nat) : Rnd9 n₁ B X (Y.drewN n) := ⟨h.os, h.tape, h.output, h.size, h.block, h.others.trans (others_drewN _ _)⟩
theorem Rnd9.alloc {n₁ B : Nat} {X Y : World} (h : Rnd9 n₁ B X Y) (hn : n₁ ≤ X.heap.size) (o : Obj) : Rnd9 n₁ B X (Y.alloc o) := by
  refine h.trans ⟨rfl, rfl, rfl, by simp, fun i hi _ => Below.heap_alloc Y o i ?_, KeepsOthers.alloc _ _⟩
  have := h.size; omega
theorem Rnd9.below {n₁ B : Nat} {X Y Z : World} (h : Rnd9 n₁ B X Y) (hn : n₁ ≤ X.heap.size) (k : Below Y.heap.size Y Z) : Rnd9 n₁ B X Z := by
  refine h.trans ⟨k.os, k.tape, k.output, k.size, fun i hi _ => k.block i ?_, ⟨k.size, fun i o hi _ => (k.block i (Array.getElem?_eq_some_iff.1 hi).1).trans hi⟩⟩
  have := h.size; omega
theorem Rnd9.append {n₁ B : Nat} {X Y Z : World} {base n : Nat} {e : TypeId} {v : Value} {xs : List Value} (h : Rnd9 n₁ B X Y) (hn : n₁ ≤ X.heap.size) (hbase : n₁ ≤ base) (hown : Y.ownsRow base e 1 v n xs) (hg : Y.grownBy Z v.ownBlock) : Rnd9 n₁ B X Z := by
  refine h.trans ⟨hg.os, hg.tape, hg.output, hg.size, fun i hi _ => hg.block i ?_ ?_, KeepsOthers.of_grownBy hg fun j o ej hj => ?_⟩
  · have := h.size; omega
  · intro e; have := (hown.lt i e.symm).1; omega
  · rcases hown.2 with ⟨rfl, _⟩ | ⟨g, cap, cur, rfl, _, hgb, _⟩
    · simp [Value.ownBlock] at ej
    · obtain rfl : g = j := by simpa [Value.ownBlock] using ej
      rw [hgb] at hj; cases hj; rfl
theorem Rnd9.store {n₁ B : Nat} {X Y : World} (h : Rnd9 n₁ B X Y) {p : Addr} (hp : p.block = B) (u : Value) : Rnd9 n₁ B X (Y.setCell p u) := by
  refine h.trans ⟨rfl, rfl, rfl, by simp [World.setCell], fun i hi hB => Below.heap_setCell Y p u i (by rw [hp]; exact hB), KeepsOthers.setCell _ _ _⟩
theorem Rnd9.keepR {n₁ B n₀ Bl Bb : Nat} {X Y : World} (h : Rnd9 n₁ B X Y) (h0 : n₀ ≤ B) (hB : B < n₁) (h1 : Bl < n₁) (h2 : Bb < n₁) (h3 : Bl ≠ B) (h4 : Bb ≠ B) : keepR n₀ Bl Bb X Y := fun i hi => h.block i (by rcases hi with hi | rfl | rfl <;> omega) (by rcases hi with hi | rfl | rfl <;> omega)
theorem Rnd9.bel {n₁ B n₀ : Nat} {X Y : World} (h : Rnd9 n₁ B X Y) (h0 : n₀ ≤ B) (hB : B < n₁) : Below n₀ X Y := ⟨h.os, h.tape, h.output, h.size, fun i hi => h.block i (by omega) (by omega)⟩
/-- A box of another type than a row of one's own is not that row. -/
theorem boxed_app9 {W w1 : World} {B : Nat} {t e : TypeId} {v u : Value} {k base : Nat} {xs : List Value} (hv : Boxed W B t u) (hte : t ≠ e) (hrow : W.ownsRow base e 1 v k xs) (hgrow : W.grownBy w1 v.ownBlock) : Boxed w1 B t u := hv.kept hgrow (hv.not_row hte hrow)
theorem own_box9 {W : World} {B base n : Nat} {t e : TypeId} {u v : Value} {xs : List Value} (hv : Boxed W B t u) (hte : t ≠ e) (hown : W.ownsRow base e 1 v n xs) (x : Value) : (W.setCell ⟨B, 0, none⟩ x).ownsRow base e 1 v n xs := hown.kept (grownBy_setCell' W B x) (.inr (hv.not_row hte hown).symm)
end Go.Proofs.Ytpdicijoohahaaa
