/- Chapter 9, the program: UnpackRuns (made by gen25.py). -/
import Derived.Test.YtpdicijoohahaaaI9P
import Derived.BigQuiet
import Derived.Sort.CutIn
namespace Go.Proofs.Ytpdicijoohahaaa
set_option linter.unusedVariables false
set_option linter.unusedSimpArgs false
open Go.RowKit Go.Shelf

theorem upA_most {z : List Int} {n most : Int} (h : most < 0) : upA z n most = none := by
  cases hu : upA z n most with
  | none => rfl
  | some y => have := (upA_some hu).2.2.1; omega
theorem natsL_zero9 (m : Nat) : natsL (List.replicate m 0) = List.replicate m (.int .i64 0) := by simp [natsL]
set_option maxHeartbeats 2000000 in
set_option maxRecDepth 100000 in
theorem implUnpackRuns_no (a : Option Addr) (cap B : Nat) (z : List Int) (n most : Int) (w : World) (hz : Ints w B a z) (hB : B ≤ w.heap.size) (hl : z.length ≤ 1048576) (n1 : -9223372036854775808 ≤ n) (n2 : n ≤ 9223372036854775807) (hg : ¬ (1 ≤ n ∧ n ≤ 256 ∧ 0 ≤ most ∧ z ≠ [] ∧ z.getD (z.length - 1) 0 = n + 1)) :
    Calls Try.prog 26 #[.slice a z.length cap, .int .i64 n, .int .i64 most] w fun e w' => e = .returned (.tuple #[.slice none 0 0, .bool false]) ∧ Below w.heap.size w w' := by
  obtain ⟨W4, hW4⟩ : ∃ W4, (((w.alloc (.cells #[.int .i64 n] 3)).alloc (.cells #[.int .i64 most] 3)).alloc (.cells #[.slice none 0 0] 22)).alloc (.cells #[.bool false] 4) = W4 := ⟨_, rfl⟩
  have hb4 : Below w.heap.size w W4 := by rw [← hW4]; exact ((((Below.refl _ w).alloc (Nat.le_refl _) _).alloc (by simp) _).alloc (by simp; omega) _).alloc (by simp; omega) _
  have x4 : Has W4 w.heap.size 3 #[.int .i64 n] := by rw [← hW4]; exact (((Has.fresh w _ _).alloc _).alloc _).alloc _
  have x5 : Has W4 (w.heap.size + 1) 3 #[.int .i64 most] := by rw [← hW4]; exact ((Has.freshAt (by simp) _ _).alloc _).alloc _
  have x6 : Has W4 (w.heap.size + 1 + 1) 22 #[.slice none 0 0] := by rw [← hW4]; exact (Has.freshAt (by simp) _ _).alloc _
  have x7 : Has W4 (w.heap.size + 1 + 1 + 1) 4 #[.bool false] := by rw [← hW4]; exact Has.freshAt (by simp) _ _
  have c4 := x4.cell 0
  have c5 := x5.cell 0
  have c6 := x6.cell 0
  have c7 := x7.cell 0
  have f6 := x6.free 0
  have f7 := x7.free 0
  simp at c4 c5 c6 c7
  have hz4 := hz.below (hb4.mono hB)
  have HB4 := hidden hb4
  have hq1 : ¬ w.heap.size + 1 + 1 = w.heap.size + 1 + 1 + 1 := by omega
  clear x4 x5 x6 x7 hb4 hz
  by_cases h1 : n < 1
  · have hd1 : decide (n < 1) = true := decide_eq_true h1
    obtain ⟨k, hk⟩ : ∃ k, z.length = k := ⟨_, rfl⟩
    rw [hk] at hl ⊢
    clear hg hz4 hk
    go_enter Try.func26, Try.ntmps26
    go_wp2
    go_big_quiet (fail)
    go_wp2
    refine bodyPost_ret (v := .tuple #[.slice none 0 0, .bool false]) (by simp [results, Try.results26, go_sem, c6, c7, f6, f7]) rfl ⟨rfl, ?_⟩
    exact ((bel_drewN HB4.out nq).setCell (by simp; omega) _).setCell (by simp; omega) _
  have hd1 : decide (n < 1) = false := decide_eq_false h1
  by_cases h2 : (256 : Int) < n
  · have hd2 : decide ((256 : Int) < n) = true := decide_eq_true h2
    obtain ⟨k, hk⟩ : ∃ k, z.length = k := ⟨_, rfl⟩
    rw [hk] at hl ⊢
    clear hg hz4 hk
    go_enter Try.func26, Try.ntmps26
    go_wp2
    go_big_quiet (fail)
    go_wp2
    refine bodyPost_ret (v := .tuple #[.slice none 0 0, .bool false]) (by simp [results, Try.results26, go_sem, c6, c7, f6, f7]) rfl ⟨rfl, ?_⟩
    exact ((bel_drewN HB4.out nq).setCell (by simp; omega) _).setCell (by simp; omega) _
  have hd2 : decide ((256 : Int) < n) = false := decide_eq_false h2
  by_cases h3 : most < 0
  · have hd3 : decide (most < 0) = true := decide_eq_true h3
    obtain ⟨k, hk⟩ : ∃ k, z.length = k := ⟨_, rfl⟩
    rw [hk] at hl ⊢
    clear hg hz4 hk
    go_enter Try.func26, Try.ntmps26
    go_wp2
    go_big_quiet (fail)
    go_wp2
    refine bodyPost_ret (v := .tuple #[.slice none 0 0, .bool false]) (by simp [results, Try.results26, go_sem, c6, c7, f6, f7]) rfl ⟨rfl, ?_⟩
    exact ((bel_drewN HB4.out nq).setCell (by simp; omega) _).setCell (by simp; omega) _
  have hd3 : decide (most < 0) = false := decide_eq_false h3
  by_cases h0 : z.length = 0
  · rw [h0]
    clear hg hz4
    go_enter Try.func26, Try.ntmps26
    go_wp2
    go_big_quiet (fail)
    go_wp2
    refine bodyPost_ret (v := .tuple #[.slice none 0 0, .bool false]) (by simp [results, Try.results26, go_sem, c6, c7, f6, f7]) rfl ⟨rfl, ?_⟩
    exact ((bel_drewN HB4.out nq).setCell (by simp; omega) _).setCell (by simp; omega) _
  have hne : z.getD (z.length - 1) 0 ≠ n + 1 := fun h => hg ⟨by omega, by omega, by omega, fun e => h0 (by rw [e]; rfl), h⟩
  obtain ⟨b, off, rfl, hb, hc⟩ := hz4.2.2 (by omega)
  have cp := hc (z.length - 1) (by omega)
  obtain ⟨y, hy⟩ : ∃ y, z.getD (z.length - 1) 0 = y := ⟨_, rfl⟩
  rw [hy] at cp hne
  obtain ⟨k, hk⟩ : ∃ k, z.length = k := ⟨_, rfl⟩
  rw [hk] at cp h0 hl ⊢
  obtain ⟨p, hp⟩ : ∃ p : Nat, (k : Int) - 1 = (p : Int) := ⟨k - 1, by omega⟩
  have hp2 : k - 1 = p := by omega
  rw [hp2] at cp
  have hp3 : (p : Int) < (k : Int) := by omega
  have hpn : decide ((p : Int) < 0) = false := decide_eq_false (by omega)
  have hbn : (y != n + 1) = true := by simpa using hne
  clear hg hz4 hc hp2 hk hy
  go_enter Try.func26, Try.ntmps26
  go_wp2
  go_big_quiet (fail)
  go_wp2
  refine bodyPost_ret (v := .tuple #[.slice none 0 0, .bool false]) (by simp [results, Try.results26, go_sem, c6, c7, f6, f7]) rfl ⟨rfl, ?_⟩
  exact ((bel_drewN HB4.out nq).setCell (by simp; omega) _).setCell (by simp; omega) _
attribute [local go_sem] Oper.semAt_some
attribute [local go_sem, local simp] wide_fn9
/-- What has been unpacked when these runs have come. -/
def upN (n : Int) (z : List Int) {N : Nat} (pre : List (Chk9 N)) : List Nat := (upS n z (pre.map Subtype.val)).getD []
theorem upN_snoc {n : Int} {z : List Int} {N : Nat} {pre : List (Chk9 N)} {x : Chk9 N} {a : List Nat} (h : upS n z (pre.map Subtype.val) = some (upN n z pre)) (hx : upC n z x.1 = some a) : upS n z ((pre ++ [x]).map Subtype.val) = some (upN n z pre ++ a) ∧ upN n z (pre ++ [x]) = upN n z pre ++ a := by
  have e : upS n z ((pre ++ [x]).map Subtype.val) = some (upN n z pre ++ a) := by
    rw [List.map_append, List.map_cons, List.map_nil, upS_snoc, h, Option.bind_some, hx, Option.map_some]
  exact ⟨e, by unfold upN at e ⊢; rw [e]; rfl⟩
theorem upN_bad {n : Int} {z : List Int} {N : Nat} {pre : List (Chk9 N)} {x : Chk9 N} (hx : upC n z x.1 = none) : upS n z ((pre ++ [x]).map Subtype.val) = none := by
  rw [List.map_append, List.map_cons, List.map_nil, upS_snoc, hx]
  cases upS n z (pre.map Subtype.val) <;> rfl
/-- So the whole is bad. -/
def badN (n most : Int) (z : List Int) {N : Nat} (pre : List (Chk9 N)) : Prop := upS n z (pre.map Subtype.val) = none ∨ ∃ a, upS n z (pre.map Subtype.val) = some a ∧ ¬ ((a.length : Int) ≤ most ∧ a.length ≤ 600)
set_option maxHeartbeats 8000000 in
set_option maxRecDepth 100000 in
theorem unpackRuns_in (b off cap B N : Nat) (z : List Int) (n most : Int) (w : World) (hz : Ints w B (some ⟨b, off, none⟩) z) (hB : B ≤ w.heap.size) (hl : z.length ≤ 1048576) (hcap : z.length ≤ cap) (g1 : 1 ≤ n) (g2 : n ≤ 256) (g3 : 0 ≤ most) (m2 : most ≤ 9223372036854775807) (g4 : z ≠ []) (g5 : z.getD (z.length - 1) 0 = n + 1) (hN : z.length = N + 1) :
    CallsIn Fence.wide 6 Try.prog 26 #[.slice (some ⟨b, off, none⟩) (N + 1) cap, .int .i64 n, .int .i64 most] w fun e w' => ∃ v, e = .returned (.tuple #[v, .bool (upOk z n most)]) ∧ w'.ownsRow w.heap.size 3 1 v (upL z n most).length (intsV (upL z n most)) ∧ Below w.heap.size w w' := by
  obtain ⟨i0, hi, hz0, hz1, hz2⟩ := info_parts Try.infoInt
  obtain ⟨b', off', e, hb, hc⟩ := hz.2.2 (by omega)
  obtain ⟨rfl, rfl⟩ : b = b' ∧ off = off' := by simpa using e
  have hbw : b < w.heap.size := by omega
  have hdl : z.dropLast.length = N := by rw [List.length_dropLast]; omega
  have HG : Hid (1 ≤ n ∧ n ≤ 256 ∧ z ≠ [] ∧ z.getD (z.length - 1) 0 = n + 1) := hidden ⟨g1, g2, g4, g5⟩
  have hdc : ∀ j, j < N → w.cell? ⟨b, off + j, none⟩ = some (.int .i64 (z.dropLast.getD j 0)) := fun j hj => by
    rw [hc j (by omega), List.getD_eq_getElem?_getD, List.getD_eq_getElem?_getD, List.getElem?_dropLast, if_pos (by omega)]
  have hdr : ∀ x ∈ z.dropLast, -9223372036854775808 ≤ x ∧ x ≤ 9223372036854775807 := fun x hx => hz.2.1 x (List.dropLast_subset _ hx)
  have cp := hc (z.length - 1) (by omega)
  rw [g5, show z.length - 1 = N by omega] at cp
  obtain ⟨D, hD⟩ : ∃ D, z.dropLast = D := ⟨_, rfl⟩
  rw [hD] at hdl hdc hdr
  have HD := hidden hD
  obtain ⟨W4, hW4⟩ : ∃ W4, (((w.alloc (.cells #[.int .i64 n] 3)).alloc (.cells #[.int .i64 most] 3)).alloc (.cells #[.slice none 0 0] 22)).alloc (.cells #[.bool false] 4) = W4 := ⟨_, rfl⟩
  have hb4 : Below w.heap.size w W4 := by rw [← hW4]; exact ((((Below.refl _ w).alloc (Nat.le_refl _) _).alloc (by simp) _).alloc (by simp; omega) _).alloc (by simp; omega) _
  have x4 : Boxed W4 w.heap.size 3 (.int .i64 n) := by rw [← hW4]; exact (((Boxed.new w _ _).alloc _).alloc _).alloc _
  have x5 : Boxed W4 (w.heap.size + 1) 3 (.int .i64 most) := by
    have h := Boxed.new (w.alloc (.cells #[.int .i64 n] 3)) 3 (.int .i64 most)
    rw [World.size_alloc] at h
    rw [← hW4]; exact (h.alloc _).alloc _
  have x6 : Boxed W4 (w.heap.size + 1 + 1) 22 (.slice none 0 0) := by
    have h := Boxed.new ((w.alloc (.cells #[.int .i64 n] 3)).alloc (.cells #[.int .i64 most] 3)) 22 (.slice none 0 0)
    rw [World.size_alloc, World.size_alloc] at h
    rw [← hW4]; exact h.alloc _
  have x7 : Boxed W4 (w.heap.size + 1 + 1 + 1) 4 (.bool false) := by
    have h := Boxed.new (((w.alloc (.cells #[.int .i64 n] 3)).alloc (.cells #[.int .i64 most] 3)).alloc (.cells #[.slice none 0 0] 22)) 4 (.bool false)
    rw [World.size_alloc, World.size_alloc, World.size_alloc] at h
    rw [← hW4]; exact h
  have hs4 : W4.heap.size = w.heap.size + 1 + 1 + 1 + 1 := by rw [← hW4]; simp
  have c4 := x4.cell
  have c5 := x5.cell
  have cpw := (hb4.cell (p := ⟨b, off + N, none⟩) hbw).trans cp
  have mixed : Try.prog.follows .mixedOrders = true := by kernel_rfl
  have hn1 : decide (n < 1) = false := decide_eq_false (by omega)
  have hn2 : decide ((256 : Int) < n) = false := decide_eq_false (by omega)
  have hm0 : decide (most < 0) = false := decide_eq_false (by omega)
  have hNp : decide ((N : Int) < 0) = false := decide_eq_false (by omega)
  have hN1 : (N : Int) < (N : Int) + 1 := by omega
  have hN2 : (N : Int) ≤ (cap : Int) := by omega
  have hN6 : N ≤ 1048575 := by omega
  clear hz cp g4 g5
  refine callsIn_of_wp_marks Try.func26 rfl trivial ?_ rfl
  simp only [Try.ntmps26, List.size_toArray, List.length_cons, List.length_nil, Nat.reduceAdd, Nat.reduceSub, Array.replicate_succ, Array.replicate_zero, List.push_toArray, List.append_toArray, List.nil_append, List.cons_append]
  gi_wp2
  gi_big_quiet (fail)
  have x4d : Boxed (W4.drewN nq) w.heap.size 3 (.int .i64 n) := x4
  have x5d : Boxed (W4.drewN nq) (w.heap.size + 1) 3 (.int .i64 most) := x5
  have x6d : Boxed (W4.drewN nq) (w.heap.size + 1 + 1) 22 (.slice none 0 0) := x6
  have x7d : Boxed (W4.drewN nq) (w.heap.size + 1 + 1 + 1) 4 (.bool false) := x7
  have hb4d : Below w.heap.size w (W4.drewN nq) := bel_drewN hb4 nq
  have hs4d : (W4.drewN nq).heap.size = w.heap.size + 1 + 1 + 1 + 1 := hs4
  clear x4 x5 x6 x7 hb4 hs4 c4 c5 cpw hn1 hn2 hm0 hNp hN1 mixed hW4
  generalize W4.drewN nq = V at x4d x5d x6d x7d hb4d hs4d ⊢
  obtain ⟨W5, hW5⟩ : ∃ W5, V.alloc (.cells #[.slice none 0 0] 22) = W5 := ⟨_, rfl⟩
  obtain ⟨Wl, hWl⟩ : ∃ Wl, (W5.alloc (.cells #[.slice (some ⟨b, off, none⟩) N cap] 22)).alloc (.cells #[.int .i64 2] 3) = Wl := ⟨_, rfl⟩
  have hs5 : W5.heap.size = w.heap.size + 1 + 1 + 1 + 1 + 1 := by rw [← hW5, World.size_alloc, hs4d]
  have hsl : Wl.heap.size = w.heap.size + 1 + 1 + 1 + 1 + 1 + 1 + 1 := by rw [← hWl, World.size_alloc, World.size_alloc, hs5]
  have hbl : Below w.heap.size w Wl := by rw [← hWl, ← hW5]; exact ((hb4d.alloc (by omega) _).alloc (by rw [World.size_alloc]; omega) _).alloc (by rw [World.size_alloc, World.size_alloc]; omega) _
  have y4 : Boxed Wl w.heap.size 3 (.int .i64 n) := by rw [← hWl, ← hW5]; exact ((x4d.alloc _).alloc _).alloc _
  have y5 : Boxed Wl (w.heap.size + 1) 3 (.int .i64 most) := by rw [← hWl, ← hW5]; exact ((x5d.alloc _).alloc _).alloc _
  have y6 : Boxed Wl (w.heap.size + 1 + 1) 22 (.slice none 0 0) := by rw [← hWl, ← hW5]; exact ((x6d.alloc _).alloc _).alloc _
  have y7 : Boxed Wl (w.heap.size + 1 + 1 + 1) 4 (.bool false) := by rw [← hWl, ← hW5]; exact ((x7d.alloc _).alloc _).alloc _
  have y9 : Boxed Wl (w.heap.size + 1 + 1 + 1 + 1) 22 (.slice none 0 0) := by
    have h := Boxed.new V 22 (.slice none 0 0)
    rw [hW5, hs4d] at h
    rw [← hWl]; exact (h.alloc _).alloc _
  have yL : Boxed Wl (w.heap.size + 1 + 1 + 1 + 1 + 1) 22 (.slice (some ⟨b, off, none⟩) N cap) := by
    have h := Boxed.new W5 22 (.slice (some ⟨b, off, none⟩) N cap)
    rw [hs5] at h
    rw [← hWl]; exact h.alloc _
  have yB : Boxed Wl (w.heap.size + 1 + 1 + 1 + 1 + 1 + 1) 3 (.int .i64 2) := by
    have h := Boxed.new (W5.alloc (.cells #[.slice (some ⟨b, off, none⟩) N cap] 22)) 3 (.int .i64 2)
    rw [World.size_alloc, hs5] at h
    rw [← hWl]; exact h
  have hseq := runs_stops 5 (by omega) (w.heap.size + 1 + 1 + 1 + 1 + 1) (w.heap.size + 1 + 1 + 1 + 1 + 1 + 1) w.heap.size b off N cap (some ⟨b, off, none⟩) 2 D hdl (by omega) (by omega) Wl (by omega) (by omega) (by omega) yL.cell yB.cell hdr
    (fun h => ⟨rfl, hbw, fun j hj => (hbl.cell (p := ⟨b, off + j, none⟩) hbw).trans (hdc j hj)⟩)
  gi_wp2_with (gi_at_call 46; refine (callsIn_wide.2 (runs_any _ _ _ _ _)).mono ?_; rintro e w' ⟨rfl, rfl⟩)
  refine wpIn_rangeFunc_ownG rfl (by omega) (gf := 58) (lb := #[.pointer (some ⟨(w.heap.size + 1 + 1 + 1 + 1 + 1), 0, none⟩), .pointer (some ⟨(w.heap.size + 1 + 1 + 1 + 1 + 1 + 1), 0, none⟩)]) rfl trivial (enters_of Try.func58 (by kernel_rfl) rfl)
    hseq keepR_t (keepR_b (by omega) (by omega) (by omega)) (Below.refl _ _) (fun _ => rfl)
    (fun pre W => (∃ v, Boxed W (w.heap.size + 1 + 1 + 1 + 1) 22 v ∧ W.ownsRow (w.heap.size + 1 + 1 + 1 + 1 + 1 + 1 + 1) 3 1 v (upN n D pre).length (natsL (upN n D pre)) ∧ (upS n D (pre.map Subtype.val) = some (upN n D pre) ∧ ((upN n D pre).length : Int) ≤ most ∧ (upN n D pre).length ≤ 600)) ∧ Boxed W w.heap.size 3 (.int .i64 n) ∧ Boxed W (w.heap.size + 1) 3 (.int .i64 most) ∧ Boxed W (w.heap.size + 1 + 1) 22 (.slice none 0 0) ∧ Boxed W (w.heap.size + 1 + 1 + 1) 4 (.bool false) ∧ Below w.heap.size w W ∧ (w.heap.size + 1 + 1 + 1 + 1 + 1 + 1 + 1) ≤ W.heap.size)
    (fun c pre W => c = .ret ∧ badN n most D pre ∧ Boxed W (w.heap.size + 1 + 1) 22 (.slice none 0 0) ∧ Boxed W (w.heap.size + 1 + 1 + 1) 4 (.bool false) ∧ Below w.heap.size w W)
    (OwnFrom.and (Own.from (holdsRow_own (w.heap.size + 1 + 1 + 1 + 1 + 1 + 1 + 1) (w.heap.size + 1 + 1 + 1 + 1) 22 3 1 (fun pre : List (Chk9 N) => (upN n D pre).length) (fun pre => natsL (upN n D pre)) (fun pre _ => upS n D (pre.map Subtype.val) = some (upN n D pre) ∧ ((upN n D pre).length : Int) ≤ most ∧ (upN n D pre).length ≤ 600)) _) (OwnFrom.and (Own.from (boxed_own _ _ _) _) (OwnFrom.and (Own.from (boxed_own _ _ _) _) (OwnFrom.and (Own.from (boxed_own _ _ _) _) (OwnFrom.and (Own.from (boxed_own _ _ _) _) (OwnFrom.and (ownFrom_below (Nat.le_refl _) (by omega)) (ownFrom_size9 _ _)))))))
    (fun c => OwnFrom.and (ownFrom_pure _ _) (OwnFrom.and (ownFrom_pure _ _) (OwnFrom.and (Own.from (boxed_own _ _ _) _) (OwnFrom.and (Own.from (boxed_own _ _ _) _) (ownFrom_below (Nat.le_refl _) (by omega))))))
    ⟨⟨_, y9, World.ownsRow_nil _ _ _ _, rfl, g3, Nat.zero_le _⟩, y4, y5, y6, y7, hbl, by omega⟩
    (fun x => { tmps := #[.slice (some ⟨b, off, none⟩) (N + 1) cap, .int .i64 n, .int .i64 most, undef, .pointer (some ⟨w.heap.size, 0, none⟩), .pointer (some ⟨(w.heap.size + 1), 0, none⟩), .pointer (some ⟨(w.heap.size + 1 + 1), 0, none⟩), .pointer (some ⟨(w.heap.size + 1 + 1 + 1), 0, none⟩), .int .i64 (N : Int), .pointer (some ⟨(w.heap.size + 1 + 1 + 1 + 1), 0, none⟩), .slice (some ⟨b, off + x.1.1, none⟩) x.1.2 (cap - x.1.1), undef, undef, .slice (some ⟨b, off, none⟩) (N + 1) cap, .int .i64 ((N : Int) + 1), .int .i64 (N : Int), .int .i64 n, .bool false, .bool false, .int .i64 n, .bool false, .bool false, .bool false, .int .i64 most, .bool false, .bool false, .bool false, .int .i64 (N : Int), .bool false, .bool false, .bool false, .slice (some ⟨b, off, none⟩) (N + 1) cap, .int .i64 (N : Int), .pointer (some ⟨b, off + N, none⟩), .int .i64 (n + 1), .int .i64 n, .int .i64 (n + 1), .bool false, .bool false, .slice (some ⟨b, off, none⟩) (N + 1) cap, .int .i64 (N : Int), .slice (some ⟨b, off, none⟩) N cap, .func (.func 58) #[] #[.pointer (some ⟨(w.heap.size + 1 + 1 + 1 + 1 + 1), 0, none⟩), .pointer (some ⟨(w.heap.size + 1 + 1 + 1 + 1 + 1 + 1), 0, none⟩)], .slice (some ⟨b, off + x.1.1, none⟩) x.1.2 (cap - x.1.1), undef, undef, undef, undef, undef, undef, undef, undef, undef, undef, undef, undef, undef, undef, undef, undef, undef, undef, undef, undef, undef, undef, undef, undef, undef, undef, undef, undef, undef, undef], defers := [] }) ?assign ?body ?done ?stop
  case assign =>
    intro l x W K hK
    gi_wp2
    exact hK
  case body =>
    rintro l pre ⟨⟨s, e⟩, hse, he1⟩ W ⟨⟨v, hv, hrow, hup, hlm, hl6⟩, z4, z5, z6, z7, hB, hsz⟩ hlt
    dsimp only at hse he1 ⊢
    have hsN : s < N := by omega
    have ck : W.cell? ⟨b, off + s, none⟩ = some (.int .i64 (D.getD s 0)) := (hB.cell (p := ⟨b, off + s, none⟩) hbw).trans (hdc s hsN)
    have hyr := hdr _ (getD_mem (zs := D) (k := s) (by omega))
    have KR := hidden (fun c => implRunLen_any (some ⟨b, off + s, none⟩) c (b + 1) ((D.drop s).take e) W.drew (by
      rw [← seg_take D s e (by omega)]
      exact seg_ints (w := W.drew) (by omega) hdr (Nat.lt_succ_self b) (fun i hi => (hB.cell (p := ⟨b, off + i, none⟩) hbw).trans (hdc i (by omega))) (by omega)) (by rw [List.length_take, List.length_drop]; omega))
    rw [show ((D.drop s).take e).length = e by rw [List.length_take, List.length_drop]; omega] at KR
    have HUC : Hid (upC n D (s, e) = if 0 < rlZ ((D.drop s).take e) then some (List.replicate (rlZ ((D.drop s).take e)).toNat 0) else if 2 ≤ D.getD s 0 ∧ D.getD s 0 ≤ n then some [(D.getD s 0 - 1).toNat] else none) := hidden rfl
    have HRL := rlZ_le ((D.drop s).take e)
    obtain ⟨r, hr⟩ : ∃ r, rlZ ((D.drop s).take e) = r := ⟨_, rfl⟩
    obtain ⟨y, hy⟩ : ∃ y, D.getD s 0 = y := ⟨_, rfl⟩
    rw [hr] at KR HUC HRL
    rw [hy] at ck hyr HUC
    have R0 := Rnd9.refl (w.heap.size + 1 + 1 + 1 + 1 + 1 + 1 + 1) (w.heap.size + 1 + 1 + 1 + 1) W
    have HUP := hidden hup
    have HSN := hidden (fun a h => upN_snoc (x := (⟨(s, e), hse, he1⟩ : Chk9 N)) (a := a) hup h)
    have HBD := hidden (fun h => upN_bad (pre := pre) (x := (⟨(s, e), hse, he1⟩ : Chk9 N)) (n := n) (z := D) h)
    dsimp only at HSN HBD
    obtain ⟨P0, hP0⟩ : ∃ P0, upN n D pre = P0 := ⟨_, rfl⟩
    rw [hP0] at hrow hlm hl6 HSN HUP
    obtain ⟨lp, hlp⟩ : ∃ lp, P0.length = lp := ⟨_, rfl⟩
    have HLP := hidden hlp
    rw [hlp] at hrow hl6 hlm
    have he0 : (0 : Int) < (e : Int) := by omega
    have he0' : 0 < e := by omega
    have mixed : Try.prog.follows .mixedOrders = true := by kernel_rfl
    have cv := hv.cell
    have cn := z4.cell
    clear hup hr hy hseq hdc hdr y4 y5 y6 y7 y9 yL yB x4d x5d x6d x7d hP0 hlp
    gi_upto_region 7 with fail
    gi_cut [11, 12] from 44 (fun s11 s12 wx => s11 = .int .i64 y ∧ s12 = .int .i64 r ∧ wx = W.drew)
    case first =>
      gi_region_with_o (gi_at_call 22; refine (CallsIn.inRound l (callsIn_wide.2 (KR.out _))).mono ?_; rintro e2 w1 ⟨rfl, rfl⟩)
      all_goals (try gi_wp2_with fail)
      all_goals gi_meet
      all_goals exact ⟨rfl, rfl, rfl⟩
    case rest =>
      obtain ⟨rfl, rfl, rfl⟩ := hcut
      have cvd : (W.drew).cell? ⟨w.heap.size + 1 + 1 + 1 + 1, 0, none⟩ = some v := cv
      have cnd : (W.drew).cell? ⟨w.heap.size, 0, none⟩ = some (.int .i64 n) := cn
      have hvd : Boxed W.drew (w.heap.size + 1 + 1 + 1 + 1) 22 v := hv
      have hrowd : (W.drew).ownsRow (w.heap.size + 1 + 1 + 1 + 1 + 1 + 1 + 1) 3 1 v lp (natsL P0) := hrow
      have z6d : Boxed W.drew (w.heap.size + 1 + 1) 22 (.slice none 0 0) := z6
      have z7d : Boxed W.drew (w.heap.size + 1 + 1 + 1) 4 (.bool false) := z7
      have b6 := z6d.cell
      have b7 := z7d.cell
      have a6 := z6d.frozen
      have a7 := z7d.frozen
      have b6' := z6.cell
      have b7' := z7.cell
      have a6' := z6.frozen
      have a7' := z7.frozen
      have HB9 := hidden hB
      by_cases hr0 : 0 < r
      · obtain ⟨m, rfl⟩ : ∃ m : Nat, r = m := ⟨r.toNat, by omega⟩
        have hm0 : 0 < m := by omega
        have hm6 : m ≤ 600 := by omega
        have hUC : upC n D (s, e) = some (List.replicate m 0) := by rw [HUC.out, if_pos hr0, Int.toNat_natCast]
        clear HUC KR
        have hS := HSN.out (List.replicate m 0) hUC
        have HLn : Hid ((P0 ++ (List.replicate m 0)).length = lp + m) := hidden (by rw [List.length_append, HLP.out]; simp)
        by_cases hfit : ((lp + m : Nat) : Int) ≤ most ∧ lp + m ≤ 600
        · have hcmp : ¬ min most 600 < (lp : Int) + (m : Int) := by omega
          gi_wp2_with (gi_at_builtin; refine wpListIn_append_zeros rfl _ _ 22 3 rfl (w.heap.size + 1 + 1 + 1 + 1 + 1 + 1 + 1) 3 i0 (.int .i64 0) .i64 8 Try.underlying22 Try.underlying3 hi hz0 hz1 hz2 rfl rfl _ _ _ rfl hrowd m rfl hm0 (by unfold maxLen; omega) (by omega) (by have hh : (W.drew).heap.size = W.heap.size := rfl; omega) ?_; intro v' w1 hown' hgrow _; obtain ⟨g', cap', rfl⟩ := ownsRow_pos9 hown' (by omega); have hv1 := boxed_app9 hvd (by decide) hrowd hgrow; have hc1 := hv1.cell; have hf1 := hv1.frozen; have R1 := R0.drew.append hsz (Nat.le_refl _) hrowd hgrow; have k5 : Boxed w1 (w.heap.size + 1) 3 (.int .i64 most) := (R1.block _ (by omega) (by omega)).trans z5; have k6 : Boxed w1 (w.heap.size + 1 + 1) 22 (.slice none 0 0) := (R1.block _ (by omega) (by omega)).trans z6; have k7 : Boxed w1 (w.heap.size + 1 + 1 + 1) 4 (.bool false) := (R1.block _ (by omega) (by omega)).trans z7; have d5 := k5.cell; have d6 := k6.cell; have d7 := k7.cell; have e6 := k6.frozen; have e7 := k7.frozen)
          have R2 := R1.store (p := ⟨w.heap.size + 1 + 1 + 1 + 1, 0, none⟩) rfl (.slice (some ⟨g', 0, none⟩) (lp + m) cap')
          refine ⟨R2.others.from _, R2.keepR (by omega) (by omega) (by omega) (by omega) (by omega) (by omega), ⟨⟨_, hv1.set _, ?_, hS.2 ▸ hS.1, ?_, ?_⟩, (R2.block _ (by omega) (by omega)).trans z4, (R2.block _ (by omega) (by omega)).trans z5, (R2.block _ (by omega) (by omega)).trans z6, (R2.block _ (by omega) (by omega)).trans z7, hB.trans (R2.bel (by omega) (by omega)), Nat.le_trans hsz R2.size⟩⟩
          · rw [hS.2, HLn.out]
            have := own_box9 hv1 (by decide) hown' (.slice (some ⟨g', 0, none⟩) (lp + m) cap')
            rw [natsL_append]
            first | exact this | (rw [natsL_zero9]; exact this)
          · rw [hS.2, HLn.out]; exact hfit.1
          · rw [hS.2, HLn.out]; exact hfit.2
        · have hcmp : min most 600 < (lp : Int) + (m : Int) := by omega
          gi_wp2_with (gi_at_builtin; refine wpListIn_append_zeros rfl _ _ 22 3 rfl (w.heap.size + 1 + 1 + 1 + 1 + 1 + 1 + 1) 3 i0 (.int .i64 0) .i64 8 Try.underlying22 Try.underlying3 hi hz0 hz1 hz2 rfl rfl _ _ _ rfl hrowd m rfl hm0 (by unfold maxLen; omega) (by omega) (by have hh : (W.drew).heap.size = W.heap.size := rfl; omega) ?_; intro v' w1 hown' hgrow _; obtain ⟨g', cap', rfl⟩ := ownsRow_pos9 hown' (by omega); have hv1 := boxed_app9 hvd (by decide) hrowd hgrow; have hc1 := hv1.cell; have hf1 := hv1.frozen; have R1 := R0.drew.append hsz (Nat.le_refl _) hrowd hgrow; have k5 : Boxed w1 (w.heap.size + 1) 3 (.int .i64 most) := (R1.block _ (by omega) (by omega)).trans z5; have k6 : Boxed w1 (w.heap.size + 1 + 1) 22 (.slice none 0 0) := (R1.block _ (by omega) (by omega)).trans z6; have k7 : Boxed w1 (w.heap.size + 1 + 1 + 1) 4 (.bool false) := (R1.block _ (by omega) (by omega)).trans z7; have d5 := k5.cell; have d6 := k6.cell; have d7 := k7.cell; have e6 := k6.frozen; have e7 := k7.frozen)
          have R2 := R1.store (p := ⟨w.heap.size + 1 + 1 + 1 + 1, 0, none⟩) rfl (.slice (some ⟨g', 0, none⟩) (lp + m) cap')
          refine ⟨((R2.others.trans (KeepsOthers.setCell _ _ _)).trans (KeepsOthers.setCell _ _ _)).from _, rfl, .inr ⟨_, hS.1, by rw [HLn.out]; exact hfit⟩, (((k6.other (by omega) _).set _).other (by omega) _), (((k7.other (by omega) _).other (by omega) _).set _), ((hB.trans (R2.bel (by omega) (by omega))).setCell (p := ⟨w.heap.size + 1 + 1, 0, none⟩) (by simp; omega) _).setCell (p := ⟨w.heap.size + 1 + 1 + 1, 0, none⟩) (by simp; omega) _⟩
      · by_cases hy2 : 2 ≤ y ∧ y ≤ n
        · obtain ⟨q, hq⟩ : ∃ q : Nat, y - 1 = (q : Int) := ⟨(y - 1).toNat, by omega⟩
          have hUC : upC n D (s, e) = some [q] := by rw [HUC.out, if_neg hr0, if_pos hy2, hq, Int.toNat_natCast]
          have hya : (2 : Int) ≤ y := hy2.1
          have hyb : y ≤ n := hy2.2
          clear HUC KR
          have hS := HSN.out [q] hUC
          have HLn : Hid ((P0 ++ [q]).length = lp + 1) := hidden (by rw [List.length_append, HLP.out]; simp)
          by_cases hfit : ((lp + 1 : Nat) : Int) ≤ most ∧ lp + 1 ≤ 600
          · have hcmp : ¬ min most 600 < (lp : Int) + (1 : Int) := by omega
            gi_wp2_with (gi_at_builtin; refine wpListIn_append_own _ rfl _ _ 22 rfl (w.heap.size + 1 + 1 + 1 + 1 + 1 + 1 + 1) 3 i0 (.int .i64 0) 1 8 Try.underlying22 hi hz0 hz1 hz2 rfl (by decide) _ _ _ rfl (hrowd.alloc _) ⟨W.heap.size, 0, none⟩ 1 1 [.int .i64 (q : Int)] rfl rfl (cell_one_new _ _ _) (by simp [Value.oneCell']) (by unfold maxLen; omega) (by omega) (by have hh : (W.drew).heap.size = W.heap.size := rfl; simp; omega) ?_; intro v' w1 hown' hgrow _; obtain ⟨g', cap', rfl⟩ := ownsRow_succ hown'; have hv1 := boxed_app9 (hvd.alloc _) (by decide) (hrowd.alloc _) hgrow; have hc1 := hv1.cell; have hf1 := hv1.frozen; have R1 := (R0.drew.alloc hsz (.cells #[.int .i64 (q : Int)] 3)).append hsz (Nat.le_refl _) (hrowd.alloc _) hgrow; have k5 : Boxed w1 (w.heap.size + 1) 3 (.int .i64 most) := (R1.block _ (by omega) (by omega)).trans z5; have k6 : Boxed w1 (w.heap.size + 1 + 1) 22 (.slice none 0 0) := (R1.block _ (by omega) (by omega)).trans z6; have k7 : Boxed w1 (w.heap.size + 1 + 1 + 1) 4 (.bool false) := (R1.block _ (by omega) (by omega)).trans z7; have d5 := k5.cell; have d6 := k6.cell; have d7 := k7.cell; have e6 := k6.frozen; have e7 := k7.frozen)
            have R2 := R1.store (p := ⟨w.heap.size + 1 + 1 + 1 + 1, 0, none⟩) rfl (.slice (some ⟨g', 0, none⟩) (lp + 1) cap')
            refine ⟨R2.others.from _, R2.keepR (by omega) (by omega) (by omega) (by omega) (by omega) (by omega), ⟨⟨_, hv1.set _, ?_, hS.2 ▸ hS.1, ?_, ?_⟩, (R2.block _ (by omega) (by omega)).trans z4, (R2.block _ (by omega) (by omega)).trans z5, (R2.block _ (by omega) (by omega)).trans z6, (R2.block _ (by omega) (by omega)).trans z7, hB.trans (R2.bel (by omega) (by omega)), Nat.le_trans hsz R2.size⟩⟩
            · rw [hS.2, HLn.out]
              have := own_box9 hv1 (by decide) hown' (.slice (some ⟨g', 0, none⟩) (lp + 1) cap')
              rw [natsL_append]
              first | exact this | (rw [natsL_zero9]; exact this)
            · rw [hS.2, HLn.out]; exact hfit.1
            · rw [hS.2, HLn.out]; exact hfit.2
          · have hcmp : min most 600 < (lp : Int) + (1 : Int) := by omega
            gi_wp2_with (gi_at_builtin; refine wpListIn_append_own _ rfl _ _ 22 rfl (w.heap.size + 1 + 1 + 1 + 1 + 1 + 1 + 1) 3 i0 (.int .i64 0) 1 8 Try.underlying22 hi hz0 hz1 hz2 rfl (by decide) _ _ _ rfl (hrowd.alloc _) ⟨W.heap.size, 0, none⟩ 1 1 [.int .i64 (q : Int)] rfl rfl (cell_one_new _ _ _) (by simp [Value.oneCell']) (by unfold maxLen; omega) (by omega) (by have hh : (W.drew).heap.size = W.heap.size := rfl; simp; omega) ?_; intro v' w1 hown' hgrow _; obtain ⟨g', cap', rfl⟩ := ownsRow_succ hown'; have hv1 := boxed_app9 (hvd.alloc _) (by decide) (hrowd.alloc _) hgrow; have hc1 := hv1.cell; have hf1 := hv1.frozen; have R1 := (R0.drew.alloc hsz (.cells #[.int .i64 (q : Int)] 3)).append hsz (Nat.le_refl _) (hrowd.alloc _) hgrow; have k5 : Boxed w1 (w.heap.size + 1) 3 (.int .i64 most) := (R1.block _ (by omega) (by omega)).trans z5; have k6 : Boxed w1 (w.heap.size + 1 + 1) 22 (.slice none 0 0) := (R1.block _ (by omega) (by omega)).trans z6; have k7 : Boxed w1 (w.heap.size + 1 + 1 + 1) 4 (.bool false) := (R1.block _ (by omega) (by omega)).trans z7; have d5 := k5.cell; have d6 := k6.cell; have d7 := k7.cell; have e6 := k6.frozen; have e7 := k7.frozen)
            have R2 := R1.store (p := ⟨w.heap.size + 1 + 1 + 1 + 1, 0, none⟩) rfl (.slice (some ⟨g', 0, none⟩) (lp + 1) cap')
            refine ⟨((R2.others.trans (KeepsOthers.setCell _ _ _)).trans (KeepsOthers.setCell _ _ _)).from _, rfl, .inr ⟨_, hS.1, by rw [HLn.out]; exact hfit⟩, (((k6.other (by omega) _).set _).other (by omega) _), (((k7.other (by omega) _).other (by omega) _).set _), ((hB.trans (R2.bel (by omega) (by omega))).setCell (p := ⟨w.heap.size + 1 + 1, 0, none⟩) (by simp; omega) _).setCell (p := ⟨w.heap.size + 1 + 1 + 1, 0, none⟩) (by simp; omega) _⟩
        · have hUC : upC n D (s, e) = none := by rw [HUC.out, if_neg hr0, if_neg hy2]
          clear HUC KR
          by_cases hya : 2 ≤ y
          · have hyb : ¬ y ≤ n := by omega
            gi_wp2
            refine ⟨((R0.drew.others.trans (KeepsOthers.setCell _ _ _)).trans (KeepsOthers.setCell _ _ _)).from _, rfl, .inl (HBD.out hUC), ((z6d.set _).other (by omega) _), ((z7d.other (by omega) _).set _), ((hB.trans (R0.drew.bel (by omega) (by omega))).setCell (p := ⟨w.heap.size + 1 + 1, 0, none⟩) (by simp; omega) _).setCell (p := ⟨w.heap.size + 1 + 1 + 1, 0, none⟩) (by simp; omega) _⟩
          · gi_wp2
            refine ⟨((R0.drew.others.trans (KeepsOthers.setCell _ _ _)).trans (KeepsOthers.setCell _ _ _)).from _, rfl, .inl (HBD.out hUC), ((z6d.set _).other (by omega) _), ((z7d.other (by omega) _).set _), ((hB.trans (R0.drew.bel (by omega) (by omega))).setCell (p := ⟨w.heap.size + 1 + 1, 0, none⟩) (by simp; omega) _).setCell (p := ⟨w.heap.size + 1 + 1 + 1, 0, none⟩) (by simp; omega) _⟩
  case done =>
    rintro D' ys W hD hS ⟨⟨v, hv, hrow, hup, hlm, hl6⟩, z4, z5, z6, z7, hB, hsz⟩ hK
    rw [hS] at hup
    have hA : upA z n most = some (upN n D ys) := by
      refine up_done HG.out ?_ ⟨hlm, hl6⟩
      rw [HD.out]; exact hup
    have HU := hidden (up_some hA)
    have hc := hv.cell
    have c6 := z6.cell
    have c7 := z7.cell
    have f6 := z6.frozen
    have f7 := z7.frozen
    have R1 : KeepsOthers W ((W.setCell ⟨w.heap.size + 1 + 1, 0, none⟩ v).setCell ⟨w.heap.size + 1 + 1 + 1, 0, none⟩ (.bool true)) := (KeepsOthers.setCell _ _ _).trans (KeepsOthers.setCell _ _ _)
    have hK' := R1.same D' _ hK rfl
    have q6 : Boxed ((W.setCell ⟨w.heap.size + 1 + 1, 0, none⟩ v).setCell ⟨w.heap.size + 1 + 1 + 1, 0, none⟩ (.bool true)) (w.heap.size + 1 + 1) 22 v := (z6.set v).other (by omega) _
    have q7 : Boxed ((W.setCell ⟨w.heap.size + 1 + 1, 0, none⟩ v).setCell ⟨w.heap.size + 1 + 1 + 1, 0, none⟩ (.bool true)) (w.heap.size + 1 + 1 + 1) 4 (.bool true) := (z7.other (by omega) _).set _
    obtain ⟨Y, hY⟩ : ∃ Y, upN n D ys = Y := ⟨_, rfl⟩
    rw [hY] at hrow hl6
    have HY := hidden hY
    clear hA hup hS hlm hY hseq hdc hdr
    obtain ⟨av, cv, rfl⟩ := own_shape hrow
    gi_wp2
    refine ⟨by simp, .inl ⟨_, _, rfl, run_takeDeferred hK', ?_⟩⟩
    have hc8 := cell_kept q6.cell (grownBy_putObj' _ D' (.deferred none)) (fun r e => by cases e; exact ⟨_, hK', rfl⟩)
    have hc9 := cell_kept q7.cell (grownBy_putObj' _ D' (.deferred none)) (fun r e => by cases e; exact ⟨_, hK', rfl⟩)
    have hown6 := own_box9 (z6.set (.slice av Y.length cv)) (by decide) (own_box9 z6 (by decide) hrow (.slice av Y.length cv)) (.slice av Y.length cv)
    have hown7 : ((W.setCell ⟨w.heap.size + 1 + 1, 0, none⟩ (.slice av Y.length cv)).setCell ⟨w.heap.size + 1 + 1 + 1, 0, none⟩ (.bool true)).ownsRow (w.heap.size + 1 + 1 + 1 + 1 + 1 + 1 + 1) 3 1 (.slice av Y.length cv) Y.length (natsL Y) := own_box9 (z7.other (by omega) _) (by decide) (own_box9 z6 (by decide) hrow (.slice av Y.length cv)) _
    refine ⟨.tuple #[.slice av Y.length cv, .bool true], ?_, .slice av Y.length cv, by rw [HU.out.1], ?_, ?_⟩
    · simp [results, Try.results26, go_sem, hc8, hc9]
    · rw [HU.out.2, HY.out, intsV_ints, ints_len]
      exact Joins.ownsRow_le (ownsRow_putObj hown7 _ hK' rfl) (by omega)
    · exact (((hB.setCell (p := ⟨w.heap.size + 1 + 1, 0, none⟩) (by simp; omega) _).setCell (p := ⟨w.heap.size + 1 + 1 + 1, 0, none⟩) (by simp; omega) _)).trans (belowK_b (w := w) (Nat.le_refl _) _ D' _ _ (by omega) hK' rfl rfl)
  case stop =>
    rintro D' c pre W hD hP ⟨rfl, hbad, z6, z7, hB⟩ hK
    have hA : upA z n most = none := by
      rw [← HD.out] at hbad hP
      rcases hbad with h | ⟨a, h1, h2⟩
      · exact up_prefix_none hP h
      · exact up_prefix_long hP h1 h2
    have HU := hidden (up_none hA)
    clear hA hbad hP hseq hdc hdr
    gi_wp2
    refine ⟨by simp, .inl ⟨_, _, rfl, run_takeDeferred hK, ?_⟩⟩
    have hc8 := cell_kept z6.cell (grownBy_putObj' _ D' (.deferred none)) (fun r e => by cases e; exact ⟨_, hK, rfl⟩)
    have hc9 := cell_kept z7.cell (grownBy_putObj' _ D' (.deferred none)) (fun r e => by cases e; exact ⟨_, hK, rfl⟩)
    refine ⟨.tuple #[.slice none 0 0, .bool false], ?_, .slice none 0 0, by rw [HU.out.1], ?_, ?_⟩
    · simp [results, Try.results26, go_sem, hc8, hc9]
    · rw [HU.out.2]; exact World.ownsRow_nil _ _ _ _
    · exact hB.trans (belowK_b (w := w) (Nat.le_refl _) _ D' _ _ (by omega) hK rfl rfl)
theorem implUnpackRuns_any (a : Option Addr) (cap B : Nat) (z : List Int) (n most : Int) (w : World) (hz : Ints w B a z) (hB : B ≤ w.heap.size) (hl : z.length ≤ 1048576) (hcap : z.length ≤ cap) (n1 : -9223372036854775808 ≤ n) (n2 : n ≤ 9223372036854775807) (m1 : -9223372036854775808 ≤ most) (m2 : most ≤ 9223372036854775807) :
    Calls Try.prog 26 #[.slice a z.length cap, .int .i64 n, .int .i64 most] w fun e w' => ∃ v, e = .returned (.tuple #[v, .bool (upOk z n most)]) ∧ w'.ownsRow w.heap.size 3 1 v (upL z n most).length (intsV (upL z n most)) ∧ Below w.heap.size w w' := by
  by_cases hg : 1 ≤ n ∧ n ≤ 256 ∧ 0 ≤ most ∧ z ≠ [] ∧ z.getD (z.length - 1) 0 = n + 1
  · obtain ⟨h1, h2, h3, h4, h5⟩ := hg
    have h0 : 0 < z.length := List.length_pos_iff.2 h4
    obtain ⟨b, off, rfl, hb, hc⟩ := hz.2.2 h0
    obtain ⟨N, hN⟩ : ∃ N, z.length = N + 1 := ⟨z.length - 1, by omega⟩
    have := callsIn_wide.1 (unpackRuns_in b off cap B N z n most w hz hB hl hcap h1 h2 h3 m2 h4 h5 hN)
    rw [hN]
    exact this
  · have hA : upA z n most = none := by
      by_cases hm : 0 ≤ most
      · exact upA_no (fun h => hg ⟨h.1, h.2.1, hm, h.2.2.1, h.2.2.2⟩)
      · exact upA_most (by omega)
    have hno := up_none hA
    refine (implUnpackRuns_no a cap B z n most w hz hB hl n1 n2 hg).mono ?_
    rintro e w' ⟨rfl, hb⟩
    exact ⟨_, by rw [hno.1], by rw [hno.2]; exact World.ownsRow_nil _ _ _ _, hb⟩
end Go.Proofs.Ytpdicijoohahaaa
