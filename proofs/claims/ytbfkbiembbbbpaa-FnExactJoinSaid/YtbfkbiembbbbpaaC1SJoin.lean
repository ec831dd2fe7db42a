/- Chapter 1: Join of the model. -/
import Derived.Test.YtbfkbiembbbbpaaC1SPut
import Derived.Maps.AppendAt
import Derived.Deep.RegionHeld3
import Derived.Deep.DrawnRows
namespace Go.Proofs.Ytbfkbiembbbbpaa
set_option linter.unusedVariables false
set_option linter.unusedSimpArgs false
open Go.RowKit

set_option maxHeartbeats 1000000 in
theorem specJoin_no (s : ByteArray) (n : Int) (s2 : ByteArray) (m : Int) (w : World) (hs : s.size ≤ maxLen) (hs2 : s2.size ≤ maxLen) (b1 : -9223372036854775808 ≤ n) (b2 : n ≤ 9223372036854775807) (c1 : -9223372036854775808 ≤ m) (c2 : m ≤ 9223372036854775807)
    (h : ¬ (okB s n = true ∧ okB s2 m = true ∧ n + m ≤ 400000)) :
    Calls Try.prog 21 #[.agg #[.string s, .int .i64 n], .agg #[.string s2, .int .i64 m]] w fun e w' =>
      e = .returned (.tuple #[.agg #[.string ⟨#[]⟩, .int .i64 0], .bool false]) ∧ Below w.heap.size w w' := by
  by_cases hok : okB s n = true
  · by_cases hok2 : okB s2 m = true
    · have hr1 := (okB_iff _ _).1 hok
      have hr2 := (okB_iff _ _).1 hok2
      have hx : (400000 : Int) - n < m := by
        have : ¬ (n + m ≤ 400000) := fun h' => h ⟨hok, hok2, h'⟩
        omega
      have h1 := hr1.1
      have h2 := hr1.2.1
      clear h hr1 hr2
      go_enter Try.func21, Try.ntmps21
      go_wp2_with fail
      refine (specBitsOk_any s _ _ hs b1 b2).mono ?_
      rintro e wa ⟨rfl, Ba⟩
      obtain ⟨Ca, Fa, La⟩ := bcell3 Ba
      have ya := Ba.size; (try simp at ya)
      have za : w.heap.size + 1 < wa.heap.size := by omega
      have za2 : w.heap.size < wa.heap.size := by omega
      have za3 : w.heap.size + 1 + 1 < wa.heap.size := by omega
      go_wp2_with fail
      refine (specBitsOk_any s2 _ _ hs2 c1 c2).mono ?_
      rintro e wb ⟨rfl, Bb⟩
      obtain ⟨Cb, Fb, Lb⟩ := bcell3 Bb
      have yb := Bb.size; (try simp at yb)
      have zb : w.heap.size + 1 + 1 < wb.heap.size := by omega
      have zb1 : w.heap.size + 1 < wb.heap.size := by omega
      have zb2 : w.heap.size < wb.heap.size := by omega
      go_wp2
      refine bodyPost_ret (v := .tuple #[.agg #[.string ⟨#[]⟩, .int .i64 0], .bool false]) (by simp [results, Try.results21, go_sem, Ca, Cb, za3, zb]) rfl ⟨rfl, ?_⟩
      repeat (first | exact Below.refl _ _ | assumption | refine Below.alloc ?_ (by (try simp); (try omega)) _ | refine Below.setCell ?_ (by (try simp); (try omega)) _ | refine Below.drew ?_ | refine bel_then (by assumption) (by (try simp); (try omega)) ?_ | refine only_then (by assumption) (by (try simp); (try omega)) (by (try simp); (try omega)) ?_ | refine bel_thenB (by assumption) (by (try simp); (try omega)) ?_)
    · have hok2' : okB s2 m = false := by simpa using hok2
      clear h hok2
      go_enter Try.func21, Try.ntmps21
      go_wp2_with fail
      refine (specBitsOk_any s _ _ hs b1 b2).mono ?_
      rintro e wa ⟨rfl, Ba⟩
      obtain ⟨Ca, Fa, La⟩ := bcell3 Ba
      have ya := Ba.size; (try simp at ya)
      have za : w.heap.size + 1 < wa.heap.size := by omega
      have za2 : w.heap.size < wa.heap.size := by omega
      have za3 : w.heap.size + 1 + 1 < wa.heap.size := by omega
      go_wp2_with fail
      refine (specBitsOk_any s2 _ _ hs2 c1 c2).mono ?_
      rintro e wb ⟨rfl, Bb⟩
      obtain ⟨Cb, Fb, Lb⟩ := bcell3 Bb
      have yb := Bb.size; (try simp at yb)
      have zb : w.heap.size + 1 + 1 < wb.heap.size := by omega
      have zb1 : w.heap.size + 1 < wb.heap.size := by omega
      have zb2 : w.heap.size < wb.heap.size := by omega
      go_wp2
      refine bodyPost_ret (v := .tuple #[.agg #[.string ⟨#[]⟩, .int .i64 0], .bool false]) (by simp [results, Try.results21, go_sem, Ca, Cb, za3, zb]) rfl ⟨rfl, ?_⟩
      repeat (first | exact Below.refl _ _ | assumption | refine Below.alloc ?_ (by (try simp); (try omega)) _ | refine Below.setCell ?_ (by (try simp); (try omega)) _ | refine Below.drew ?_ | refine bel_then (by assumption) (by (try simp); (try omega)) ?_ | refine only_then (by assumption) (by (try simp); (try omega)) (by (try simp); (try omega)) ?_ | refine bel_thenB (by assumption) (by (try simp); (try omega)) ?_)
  · have hok' : okB s n = false := by simpa using hok
    clear h hok
    go_enter Try.func21, Try.ntmps21
    go_wp2_with fail
    refine (specBitsOk_any s _ _ hs b1 b2).mono ?_
    rintro e wa ⟨rfl, Ba⟩
    obtain ⟨Ca, Fa, La⟩ := bcell3 Ba
    have ya := Ba.size; (try simp at ya)
    go_wp2
    refine bodyPost_ret (v := .tuple #[.agg #[.string ⟨#[]⟩, .int .i64 0], .bool false]) (by simp [results, Try.results21, go_sem, Ca]) rfl ⟨rfl, ?_⟩
    repeat (first | exact Below.refl _ _ | assumption | refine Below.alloc ?_ (by (try simp); (try omega)) _ | refine Below.setCell ?_ (by (try simp); (try omega)) _ | refine Below.drew ?_ | refine bel_then (by assumption) (by (try simp); (try omega)) ?_ | refine only_then (by assumption) (by (try simp); (try omega)) (by (try simp); (try omega)) ?_ | refine bel_thenB (by assumption) (by (try simp); (try omega)) ?_)

theorem own_mono {w : World} {base base' : Nat} {e : TypeId} {size : Nat} {v : Value} {n : Nat} {xs : List Value} (h : w.ownsRow base e size v n xs) (hb : base' ≤ base) : w.ownsRow base' e size v n xs := by
  refine ⟨h.1, ?_⟩
  rcases h.2 with h' | ⟨g, cap, cur, h1, h2, h3⟩
  · exact .inl h'
  · exact .inr ⟨g, cap, cur, h1, by omega, h3⟩
/-- append of a row onto a row of the call's own, at a step of a region that draws its order. -/
theorem step_append_own {P : Program} (w : World) {ops : Array Oper} {o : Oper} {a : Act} {K : Act → World → Prop} {Q : Exit → Act → World → Prop} {E : Prop} (hgd : o.guard = none) (s x : Operand) (t : TypeId)
    (ho : o.op = .call { callee := .builtin .append, args := #[s, x], argTypes := #[t, t] })
    (base : Nat) (e : TypeId) (i : TypeInfo) (z : Value) (size bytes : Nat) (ht : P.underlying t = some (.slice e)) (hi : P.info? e = some i) (hz : i.zero = some z)
    (hsize : i.size = size) (hby : i.bytes = bytes) (hzs : z.cells.size = size) (hsz : 0 < size)
    (v : Value) (n : Nat) (xs : List Value) (hs : a.eval s = v) (hown : w.ownsRow base e size v n xs)
    (ad : Addr) (m c : Nat) (news : List Value) (hx : a.eval x = .slice (some ad) m c) (hl : news.length = m * size) (hnews : ∀ j u, news[j]? = some u → w.cell? (ad.add j) = some u) (h1 : ∀ u ∈ news, u.oneCell' = true)
    (h63 : n + m ≤ maxLen) (hbytes : (n + m) * bytes ≤ 140737488355328) (hbase : base ≤ w.heap.size)
    (h : ∀ v' w', w'.ownsRow base e size v' (n + m) (xs ++ news) → w.grownBy w' v.ownBlock → K (a.put o.dst v') w') :
    if Region.wanted o (yielded ops a.tmps) = true then Oper.wp P o a w K Q else E := by
  have hw : Region.wanted o (yielded ops a.tmps) = true := by simp [Region.wanted, hgd]
  rw [if_pos hw]
  exact wp_append_own w s x t ho base e i z size bytes ht hi hz hsize hby hzs hsz v n xs hs hown ad m c news hx hl hnews h1 h63 hbytes hbase fun v' w' h2 h3 _ => h v' w' h2 h3

attribute [local go_sem ↓] Go.wp_at_zero Go.wp_at_succ
set_option maxHeartbeats 4000000 in
theorem specJoin_yes (s : ByteArray) (n : Nat) (s2 : ByteArray) (m : Nat) (w : World) (hs : s.size ≤ maxLen) (hs2 : s2.size ≤ maxLen) (hok : okB s n = true) (hok2 : okB s2 m = true) (hr : n + m ≤ 400000) :
    Calls Try.prog 21 #[.agg #[.string s, .int .i64 n], .agg #[.string s2, .int .i64 m]] w fun e w' =>
      ∃ D, Packs D (row s 0 n ++ row s2 0 m) ∧ e = .returned (.tuple #[.agg #[.string (strOf D), .int .i64 ((n + m : Nat) : Int)], .bool true]) ∧ Below w.heap.size w w' := by
  obtain ⟨i0, hi, hz0, hz1, hz2⟩ := info_parts Try.info5
  have hroom := okB_room hok
  have hroom2 := okB_room hok2
  have hfit : ¬ ((400000 : Int) - n < m) := by omega
  have hlen : (row s 0 n ++ row s2 0 m).length = n + m := by rw [List.length_append, row_len, row_len]
  have hbits : ∀ b ∈ row s 0 n ++ row s2 0 m, b < 2 := by
    intro b hb
    rcases List.mem_append.1 hb with h | h
    · exact row_bits _ _ _ _ h
    · exact row_bits _ _ _ _ h
  have HL := hidden hlen
  have HB := hidden hbits
  clear hlen hbits
  go_enter Try.func21, Try.ntmps21
  go_wp2_with fail
  refine (specBitsOk_any s n _ hs (by omega) (by omega)).mono ?_
  rintro e wa ⟨rfl, Ba⟩
  obtain ⟨Ca, Fa, La⟩ := bcell3 Ba
  have ya := Ba.size; (try simp at ya)
  have za : w.heap.size + 1 < wa.heap.size := by omega
  have za2 : w.heap.size < wa.heap.size := by omega
  go_wp2_with fail
  refine (specBitsOk_any s2 m _ hs2 (by omega) (by omega)).mono ?_
  rintro e wb ⟨rfl, Bb⟩
  obtain ⟨Cb, Fb, Lb⟩ := bcell3 Bb
  have yb := Bb.size; (try simp at yb)
  have zb : w.heap.size + 1 < wb.heap.size := by omega
  have zb2 : w.heap.size < wb.heap.size := by omega
  have bb : Below w.heap.size w wb := bel_then Bb (by omega) (bel_then Ba (by (try simp); (try omega)) ((((Below.refl _ _).alloc (Nat.le_refl _) _).alloc (by simp) _).alloc (by simp; omega) _))
  have hA := (((Has.fresh w 24 #[.string s, .int .i64 n]).alloc (.cells #[.string s2, .int .i64 m] 24)).alloc (.cells #[.string ⟨#[]⟩, .int .i64 0] 24)).below Ba (by (try simp); (try omega)) |>.below Bb (by omega)
  have hA2 := ((Has.freshAt (by simp) 24 #[.string s2, .int .i64 m] : Has ((w.alloc (.cells #[.string s, .int .i64 n] 24)).alloc _) (w.heap.size + 1) _ _).alloc (.cells #[.string ⟨#[]⟩, .int .i64 0] 24)).below Ba (by (try simp); (try omega)) |>.below Bb (by omega)
  have hR := (Has.freshAt (by simp) 24 #[.string ⟨#[]⟩, .int .i64 0] : Has (((w.alloc (.cells #[.string s, .int .i64 n] 24)).alloc (.cells #[.string s2, .int .i64 m] 24)).alloc _) (w.heap.size + 1 + 1) _ _).below Ba (by (try simp); (try omega)) |>.below Bb (by omega)
  have p0 := hA.cell 0
  have p1 := hA.cell 1
  have q0 := hA2.cell 0
  have q1 := hA2.cell 1
  simp at p0 p1 q0 q1
  go_wp2
  clear Ca Fa La Cb Fb Lb Ba Bb
  clear p0 p1 q0 q1
  have p0 := hA.cell 0
  have p1 := hA.cell 1
  have q0 := hA2.cell 0
  have q1 := hA2.cell 1
  simp at p0 p1 q0 q1
  have hn1 : ¬ w.heap.size = w.heap.size + 1 + 1 := by omega
  have hn2 : ¬ w.heap.size + 1 + 1 = w.heap.size := by omega
  go_region_held3 (fun w' => w'.cell? ⟨w.heap.size, 0, none⟩ = some (.string s) ∧ w'.cell? ⟨w.heap.size, 1, none⟩ = some (.int .i64 n) ∧ w'.cell? ⟨w.heap.size + 1, 0, none⟩ = some (.string s2) ∧ w'.cell? ⟨w.heap.size + 1, 1, none⟩ = some (.int .i64 m)) (go_keep) (first | (go_at_call_of 48 (Value.agg #[.string s, .int .i64 n]); refine (l1open_form s n _ (by omega) (by omega) (by omega)).mono ?_; rintro e wx ⟨gA, cA, rfl, oA, BX, lX⟩; (try simp at lX); replace hA : Has wx _ _ _ := (BX.block _ (by (try simp); (try omega))).trans hA; replace hA2 : Has wx _ _ _ := (BX.block _ (by (try simp); (try omega))).trans hA2; replace hR : Has wx _ _ _ := (BX.block _ (by (try simp); (try omega))).trans hR; replace bb : Below w.heap.size w wx := bel_then BX (by (try simp); (try omega)) ⟨bb.os, bb.tape, bb.output, bb.size, bb.block⟩; have oA := own_mono (base' := wb.heap.size) oA (by (try simp); (try omega)); (try replace oB := own_below oB BX); have k0 := hA.cell 0; have k1 := hA.cell 1; have k2 := hA2.cell 0; have k3 := hA2.cell 1; simp at k0 k1 k2 k3; clear BX) | (go_at_call_of 48 (Value.agg #[.string s2, .int .i64 m]); refine (l1open_form s2 m _ (by omega) (by omega) (by omega)).mono ?_; rintro e wx ⟨gB, cB, rfl, oB, BX, lX⟩; (try simp at lX); replace hA : Has wx _ _ _ := (BX.block _ (by (try simp); (try omega))).trans hA; replace hA2 : Has wx _ _ _ := (BX.block _ (by (try simp); (try omega))).trans hA2; replace hR : Has wx _ _ _ := (BX.block _ (by (try simp); (try omega))).trans hR; replace bb : Below w.heap.size w wx := bel_then BX (by (try simp); (try omega)) ⟨bb.os, bb.tape, bb.output, bb.size, bb.block⟩; have oB := own_mono (base' := wb.heap.size) oB (by (try simp); (try omega)); (try replace oA := own_below oA BX); have k0 := hA.cell 0; have k1 := hA.cell 1; have k2 := hA2.cell 0; have k3 := hA2.cell 1; simp at k0 k1 k2 k3; clear BX) | (refine step_append_own _ (by rfl) _ _ _ (by rfl) wb.heap.size 5 i0 (.int .u8 0) 1 1 Try.underlying22 hi hz0 hz1 hz2 (by rfl) (by decide) (.slice (some ⟨gA, 0, none⟩) n cA) n (u8s (row s 0 n)) (by rfl) oA ⟨gB, 0, none⟩ m cB (u8s (row s2 0 m)) (by rfl) (by rw [u8s_len, row_len, Nat.mul_one]) (fun j u hu => oB.cells (g := gB) rfl j u hu) (u8s_one _) (by unfold maxLen; omega) (by omega) (by have := (oA.lt gA rfl).1; have := (oA.lt gA rfl).2; omega) ?_; intro vC wC oC gC; rw [← u8s_append] at oC; replace hA : Has wC _ _ _ := hA.grown gC (own_ne oA (by omega)); replace hA2 : Has wC _ _ _ := hA2.grown gC (own_ne oA (by omega)); replace hR : Has wC _ _ _ := hR.grown gC (own_ne oA (by omega)); have l1 := hA.lt; have l2 := hA2.lt; have l3 := hR.lt; replace bb : Below w.heap.size w wC := bb.grown gC bb.size (fun g hg => by have := (oA.lt g hg).1; omega); have k0 := hA.cell 0; have k1 := hA.cell 1; have k2 := hA2.cell 0; have k3 := hA2.cell 1; simp at k0 k1 k2 k3; clear gC) | (go_at_call 47; refine (l1close_own _ HB.out vC wb.heap.size _ (by rw [HL.out]; omega) (by rw [HL.out]; exact oC)).mono ?_; rintro e wD ⟨D, hD, rfl, BD⟩; rw [HL.out]; replace hA : Has wD _ _ _ := (BD.block _ (by (try simp); (try omega))).trans hA; replace hA2 : Has wD _ _ _ := (BD.block _ (by (try simp); (try omega))).trans hA2; replace hR : Has wD _ _ _ := (BD.block _ (by (try simp); (try omega))).trans hR; replace bb : Below w.heap.size w wD := bel_then BD (by (try simp); (try omega)) ⟨bb.os, bb.tape, bb.output, bb.size, bb.block⟩; have k0 := hA.cell 0; have k1 := hA.cell 1; have k2 := hA2.cell 0; have k3 := hA2.cell 1; have e0 := hR.cell 0; have e1 := hR.cell 1; have g0 := hR.free 0; have g1 := hR.free 1; simp at k0 k1 k2 k3 e0 e1; clear BD))
  all_goals
    go_wp2
    refine bodyPost_ret (v := .tuple #[.agg #[.string (strOf D), .int .i64 ((n + m : Nat) : Int)], .bool true]) (by simp [results, Try.results21, go_sem, e0, e1, g0, g1]) rfl ⟨D, hD, rfl, ?_⟩
    repeat (first | exact Below.refl _ _ | assumption | refine Below.alloc ?_ (by (try simp); (try omega)) _ | refine Below.setCell ?_ (by (try simp); (try omega)) _ | refine Below.drew ?_ | refine bel_then (by assumption) (by (try simp); (try omega)) ?_ | refine only_then (by assumption) (by (try simp); (try omega)) (by (try simp); (try omega)) ?_ | refine bel_thenB (by assumption) (by (try simp); (try omega)) ?_)
end Go.Proofs.Ytbfkbiembbbbpaa
