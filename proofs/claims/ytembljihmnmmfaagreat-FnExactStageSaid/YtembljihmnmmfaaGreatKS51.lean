/- Texts of the proof, merged. -/
import Derived.Test.YtembljihmnmmfaaGreatKS49
import Derived.Test.YtembljihmnmmfaaGreatKS39
import Derived.Test.YtembljihmnmmfaaGreatKS29
import Derived.Test.YtembljihmnmmfaaGreatKS42
import Derived.Test.YtembljihmnmmfaaGreatKS43
import Derived.Test.YtembljihmnmmfaaGreatKS44
import Derived.Deep.RegionHeld3
import Derived.Test.YtembljihmnmmfaaGreatKS4
namespace Go.Proofs.YtembljihmnmmfaaGreat
set_option linter.unusedVariables false
set_option linter.unusedSimpArgs false
open Go.RowKit

set_option maxHeartbeats 2000000 in
set_option maxRecDepth 100000 in
theorem numbersOf_1 (s us : ByteArray) (fi : Int) (b : Bool) (O : List Nat) (q n : Nat) (w : World) (hs : 0 < s.size ∧ s.size ≤ 600) (hO : Byt O) (hn : O.length = n) (hn6 : n ≤ 256) (hr : rOk (rkS s O) n = true) (hq : (rkS s O).length = q) :
    Calls Tryz.prog 59 #[.agg #[.iface 83 (.agg #[]), .bool b], .agg #[.string (lstZ s), .int .i64 fi, .string us, .string (strOf O)]] w fun e w' => ∃ g, e = .returned (.agg #[.slice none 0 0, .slice (some ⟨g, 0, none⟩) q q]) ∧ w'.ownsRow w.heap.size 3 1 (.slice (some ⟨g, 0, none⟩) q q) q (intsV (mtfZ (rkS s O) n)) ∧ Below w.heap.size w w' := by
  have KT := hidden (fun W => by
    have h := implToRanks_any (lstZ s) (strOf O) W (by have := lstZ_le s; omega) (by rw [strOf_size]; omega)
    rw [bytes_str hO] at h
    exact h)
  have hzO : (strOf O).size = n := by rw [strOf_size, hn]
  obtain ⟨OS, hOS⟩ : ∃ OS, strOf O = OS := ⟨_, rfl⟩
  obtain ⟨LS, hLS⟩ : ∃ LS, lstZ s = LS := ⟨_, rfl⟩
  have hrk : rkS s O = rkL (bytesOf (lstZ s)) O := rfl
  rw [← hrk] at KT
  obtain ⟨rb, hrb⟩ : ∃ rb, rkOk (bytesOf (lstZ s)) O = rb := ⟨_, rfl⟩
  rw [hrb] at KT
  rw [hOS] at KT hzO ⊢
  rw [hLS] at KT ⊢
  obtain ⟨L, m, hL, hm, hm1, hm2, hL6, hLm⟩ := rOk_nats hr
  obtain rfl : n = m := by omega
  have hr2 := hr
  rw [hL] at KT hr2 hq ⊢
  rw [ints_len] at hq
  rw [ints_len, hq] at KT
  rw [intsV_ints] at KT
  rw [mtfZ_yes hr2, intsV_ints]
  have HR := hidden hr2
  have HLQ := hidden hq
  have HL6 := hidden hLm
  have bb : Below w.heap.size w (((w.alloc (.cells #[.iface 83 (.agg #[]), .bool b] 51)).alloc (.cells #[.string LS, .int .i64 fi, .string us, .string OS] 56)).alloc (.cells #[.slice none 0 0, .slice none 0 0] 87)) := (((Below.refl _ _).alloc (Nat.le_refl _) _).alloc (by simp) _).alloc (by simp; omega) _
  obtain ⟨w0, hwe⟩ : ∃ w0, ((w.alloc (.cells #[.iface 83 (.agg #[]), .bool b] 51)).alloc (.cells #[.string LS, .int .i64 fi, .string us, .string OS] 56)).alloc (.cells #[.slice none 0 0, .slice none 0 0] 87) = w0 := ⟨_, rfl⟩
  have RK0 : Has w0 w.heap.size 51 #[.iface 83 (.agg #[]), .bool b] := by rw [← hwe]; exact ((Has.fresh _ _ _).alloc _).alloc _
  have TU0 : Has w0 (w.heap.size + 1) 56 #[.string LS, .int .i64 fi, .string us, .string OS] := by rw [← hwe]; exact (Has.freshAt (by simp) _ _).alloc _
  have RC0 : Has w0 (w.heap.size + 2) 87 #[.slice none 0 0, .slice none 0 0] := by rw [← hwe]; exact Has.freshAt (by simp) _ _
  have hw0 : w0.heap.size = w.heap.size + 3 := by rw [← hwe]; simp
  rw [hwe] at bb
  have t0 := TU0.cell 0
  have t3 := TU0.cell 3
  simp at t0 t3
  clear hr hr2 hrk hL hOS hLS hq hm hLm hO hrb
  go_enter Tryz.func59, Tryz.ntmps59
  go_wp2_with fail
  refine (KT.out _).mono ?_
  rintro e w1 ⟨v, rfl, o1, b1⟩
  obtain ⟨a1, c1, rfl⟩ := own_shape o1
  have s1 := b1.size
  have B1 := bel_then b1 (by omega) bb
  have RK1 := RK0.below b1 RK0.lt
  have TU1 := TU0.below b1 TU0.lt
  have RC1 := RC0.below b1 RC0.lt
  have hI := (Ints.ofOwn (zs := ints L) (by rw [intsV_ints]; exact o1) (by rw [← HLQ.out]; omega) (fun x hx => by obtain ⟨y, hy, rfl⟩ := List.mem_map.1 hx; have := HL6.out y hy; omega)).2
  have KE := hidden (encodedMtf_yes a1 c1 w1.heap.size n L w1 hI (Nat.le_refl _) HR.out (by omega) hL6 HL6.out)
  rw [HLQ.out] at KE
  have r0 := RK1.cell 0
  have t3 := TU1.cell 3
  simp at r0 t3
  clear bb RK0 TU0 RC0 hI b1 o1 t0 KT hwe
  go_wp2_with fail
  refine KE.out.mono ?_
  rintro e w2 ⟨g, rfl, o2, b2⟩
  have RC2 := RC1.below b2 RC1.lt
  have B2 := bel_then b2 (by omega) B1
  have hgw := (o2.lt g rfl).1
  have HO := hidden (Joins.ownsRow_le o2 (show w.heap.size ≤ w1.heap.size by omega))
  have e0 := RC2.cell 0
  have e1 := RC2.cell 1
  have g0 := RC2.free 0
  have g1 := RC2.free 1
  simp at e0 e1
  have hne : ¬ g = w.heap.size + 2 := by omega
  have s2 := b2.size
  clear b2 o2 RC1 RK1 TU1 r0 t3 B1
  go_wp2
  refine bodyPost_ret (v := .agg #[.slice none 0 0, .slice (some ⟨g, 0, none⟩) q q]) (by simp [results, Tryz.results59, go_sem, e0, e1, g0, g1]) rfl ⟨g, rfl, ?_, ?_⟩
  · exact ownsRow_setCell_other (ownsRow_setCell_other HO.out (by simp [Value.ownBlock]; omega) _) (by simp [Value.ownBlock]; omega) _
  · repeat (first | exact B2 | refine Below.setCell ?_ (by (try simp); (try omega)) _)
set_option maxHeartbeats 2000000 in
set_option maxRecDepth 100000 in
theorem numbersOf_2 (s us : ByteArray) (fi : Int) (b : Bool) (O : List Nat) (q n : Nat) (w : World) (hs : 0 < s.size ∧ s.size ≤ 600) (hO : Byt O) (hn : O.length = n) (hn6 : n ≤ 256) (hr : rOk (rkS s O) n = true) (hq : (rkS s O).length = q) :
    Calls Tryz.prog 59 #[.agg #[.iface 84 (.agg #[]), .bool b], .agg #[.string (lstZ s), .int .i64 fi, .string us, .string (strOf O)]] w fun e w' => ∃ g, e = .returned (.agg #[.slice none 0 0, .slice (some ⟨g, 0, none⟩) q q]) ∧ w'.ownsRow w.heap.size 3 1 (.slice (some ⟨g, 0, none⟩) q q) q (intsV (sbrZ (rkS s O) n)) ∧ Below w.heap.size w w' := by
  have KT := hidden (fun W => by
    have h := implToRanks_any (lstZ s) (strOf O) W (by have := lstZ_le s; omega) (by rw [strOf_size]; omega)
    rw [bytes_str hO] at h
    exact h)
  have hzO : (strOf O).size = n := by rw [strOf_size, hn]
  obtain ⟨OS, hOS⟩ : ∃ OS, strOf O = OS := ⟨_, rfl⟩
  obtain ⟨LS, hLS⟩ : ∃ LS, lstZ s = LS := ⟨_, rfl⟩
  have hrk : rkS s O = rkL (bytesOf (lstZ s)) O := rfl
  rw [← hrk] at KT
  obtain ⟨rb, hrb⟩ : ∃ rb, rkOk (bytesOf (lstZ s)) O = rb := ⟨_, rfl⟩
  rw [hrb] at KT
  rw [hOS] at KT hzO ⊢
  rw [hLS] at KT ⊢
  obtain ⟨L, m, hL, hm, hm1, hm2, hL6, hLm⟩ := rOk_nats hr
  obtain rfl : n = m := by omega
  have hr2 := hr
  rw [hL] at KT hr2 hq ⊢
  rw [ints_len] at hq
  rw [ints_len, hq] at KT
  rw [intsV_ints] at KT
  rw [sbrZ_yes hr2, intsV_ints]
  have HR := hidden hr2
  have HLQ := hidden hq
  have HL6 := hidden hLm
  have bb : Below w.heap.size w (((w.alloc (.cells #[.iface 84 (.agg #[]), .bool b] 51)).alloc (.cells #[.string LS, .int .i64 fi, .string us, .string OS] 56)).alloc (.cells #[.slice none 0 0, .slice none 0 0] 87)) := (((Below.refl _ _).alloc (Nat.le_refl _) _).alloc (by simp) _).alloc (by simp; omega) _
  obtain ⟨w0, hwe⟩ : ∃ w0, ((w.alloc (.cells #[.iface 84 (.agg #[]), .bool b] 51)).alloc (.cells #[.string LS, .int .i64 fi, .string us, .string OS] 56)).alloc (.cells #[.slice none 0 0, .slice none 0 0] 87) = w0 := ⟨_, rfl⟩
  have RK0 : Has w0 w.heap.size 51 #[.iface 84 (.agg #[]), .bool b] := by rw [← hwe]; exact ((Has.fresh _ _ _).alloc _).alloc _
  have TU0 : Has w0 (w.heap.size + 1) 56 #[.string LS, .int .i64 fi, .string us, .string OS] := by rw [← hwe]; exact (Has.freshAt (by simp) _ _).alloc _
  have RC0 : Has w0 (w.heap.size + 2) 87 #[.slice none 0 0, .slice none 0 0] := by rw [← hwe]; exact Has.freshAt (by simp) _ _
  have hw0 : w0.heap.size = w.heap.size + 3 := by rw [← hwe]; simp
  rw [hwe] at bb
  have t0 := TU0.cell 0
  have t3 := TU0.cell 3
  simp at t0 t3
  clear hr hr2 hrk hL hOS hLS hq hm hLm hO hrb
  go_enter Tryz.func59, Tryz.ntmps59
  go_wp2_with fail
  refine (KT.out _).mono ?_
  rintro e w1 ⟨v, rfl, o1, b1⟩
  obtain ⟨a1, c1, rfl⟩ := own_shape o1
  have s1 := b1.size
  have B1 := bel_then b1 (by omega) bb
  have RK1 := RK0.below b1 RK0.lt
  have TU1 := TU0.below b1 TU0.lt
  have RC1 := RC0.below b1 RC0.lt
  have hI := (Ints.ofOwn (zs := ints L) (by rw [intsV_ints]; exact o1) (by rw [← HLQ.out]; omega) (fun x hx => by obtain ⟨y, hy, rfl⟩ := List.mem_map.1 hx; have := HL6.out y hy; omega)).2
  have KE := hidden (encodedSbr_yes a1 c1 w1.heap.size n L w1 hI (Nat.le_refl _) HR.out (by omega) (by omega) hL6 HL6.out)
  rw [HLQ.out] at KE
  have r0 := RK1.cell 0
  have t3 := TU1.cell 3
  simp at r0 t3
  clear bb RK0 TU0 RC0 hI b1 o1 t0 KT hwe
  go_wp2_with fail
  refine KE.out.mono ?_
  rintro e w2 ⟨g, rfl, o2, b2⟩
  have RC2 := RC1.below b2 RC1.lt
  have B2 := bel_then b2 (by omega) B1
  have hgw := (o2.lt g rfl).1
  have HO := hidden (Joins.ownsRow_le o2 (show w.heap.size ≤ w1.heap.size by omega))
  have e0 := RC2.cell 0
  have e1 := RC2.cell 1
  have g0 := RC2.free 0
  have g1 := RC2.free 1
  simp at e0 e1
  have hne : ¬ g = w.heap.size + 2 := by omega
  have s2 := b2.size
  clear b2 o2 RC1 RK1 TU1 r0 t3 B1
  go_wp2
  refine bodyPost_ret (v := .agg #[.slice none 0 0, .slice (some ⟨g, 0, none⟩) q q]) (by simp [results, Tryz.results59, go_sem, e0, e1, g0, g1]) rfl ⟨g, rfl, ?_, ?_⟩
  · exact ownsRow_setCell_other (ownsRow_setCell_other HO.out (by simp [Value.ownBlock]; omega) _) (by simp [Value.ownBlock]; omega) _
  · repeat (first | exact B2 | refine Below.setCell ?_ (by (try simp); (try omega)) _)
set_option maxHeartbeats 2000000 in
set_option maxRecDepth 100000 in
theorem numbersOf_3 (s us : ByteArray) (fi : Int) (b : Bool) (O : List Nat) (q n : Nat) (w : World) (hs : 0 < s.size ∧ s.size ≤ 600) (hO : Byt O) (hn : O.length = n) (hn6 : n ≤ 256) (hr : rOk (rkS s O) n = true) (hq : (rkS s O).length = q) :
    Calls Tryz.prog 59 #[.agg #[.iface 85 (.agg #[]), .bool b], .agg #[.string (lstZ s), .int .i64 fi, .string us, .string (strOf O)]] w fun e w' => ∃ v0 v1 z1, e = .returned (.agg #[v0, v1]) ∧ w'.ownsRow w.heap.size 3 1 v0 n (intsV (invC (rkS s O) n)) ∧ w'.ownsRow w.heap.size 3 1 v1 z1 (intsV (invG (rkS s O) n)) ∧ z1 ≤ 600 ∧ Below w.heap.size w w' := by
  have KT := hidden (fun W => by
    have h := implToRanks_any (lstZ s) (strOf O) W (by have := lstZ_le s; omega) (by rw [strOf_size]; omega)
    rw [bytes_str hO] at h
    exact h)
  have hzO : (strOf O).size = n := by rw [strOf_size, hn]
  obtain ⟨OS, hOS⟩ : ∃ OS, strOf O = OS := ⟨_, rfl⟩
  obtain ⟨LS, hLS⟩ : ∃ LS, lstZ s = LS := ⟨_, rfl⟩
  have hrk : rkS s O = rkL (bytesOf (lstZ s)) O := rfl
  rw [← hrk] at KT
  obtain ⟨rb, hrb⟩ : ∃ rb, rkOk (bytesOf (lstZ s)) O = rb := ⟨_, rfl⟩
  rw [hrb] at KT
  rw [hOS] at KT hzO ⊢
  rw [hLS] at KT ⊢
  obtain ⟨L, m, hL, hm, hm1, hm2, hL6, hLm⟩ := rOk_nats hr
  obtain rfl : n = m := by omega
  have hr2 := hr
  rw [hL] at KT hr2 hq ⊢
  rw [ints_len] at hq
  rw [ints_len, hq] at KT
  rw [intsV_ints] at KT
  rw [invC_yes hr2, invG_yes hr2, intsV_ints, intsV_ints]
  have HR := hidden hr2
  have HLQ := hidden hq
  have HL6 := hidden hLm
  have bb : Below w.heap.size w (((w.alloc (.cells #[.iface 85 (.agg #[]), .bool b] 51)).alloc (.cells #[.string LS, .int .i64 fi, .string us, .string OS] 56)).alloc (.cells #[.slice none 0 0, .slice none 0 0] 87)) := (((Below.refl _ _).alloc (Nat.le_refl _) _).alloc (by simp) _).alloc (by simp; omega) _
  obtain ⟨w0, hwe⟩ : ∃ w0, ((w.alloc (.cells #[.iface 85 (.agg #[]), .bool b] 51)).alloc (.cells #[.string LS, .int .i64 fi, .string us, .string OS] 56)).alloc (.cells #[.slice none 0 0, .slice none 0 0] 87) = w0 := ⟨_, rfl⟩
  have RK0 : Has w0 w.heap.size 51 #[.iface 85 (.agg #[]), .bool b] := by rw [← hwe]; exact ((Has.fresh _ _ _).alloc _).alloc _
  have TU0 : Has w0 (w.heap.size + 1) 56 #[.string LS, .int .i64 fi, .string us, .string OS] := by rw [← hwe]; exact (Has.freshAt (by simp) _ _).alloc _
  have RC0 : Has w0 (w.heap.size + 2) 87 #[.slice none 0 0, .slice none 0 0] := by rw [← hwe]; exact Has.freshAt (by simp) _ _
  have hw0 : w0.heap.size = w.heap.size + 3 := by rw [← hwe]; simp
  rw [hwe] at bb
  have t0 := TU0.cell 0
  have t3 := TU0.cell 3
  simp at t0 t3
  clear hr hr2 hrk hL hOS hLS hq hm hLm hO hrb
  go_enter Tryz.func59, Tryz.ntmps59
  go_wp2_with fail
  refine (KT.out _).mono ?_
  rintro e w1 ⟨v, rfl, o1, b1⟩
  obtain ⟨a1, c1, rfl⟩ := own_shape o1
  have s1 := b1.size
  have B1 := bel_then b1 (by omega) bb
  have RK1 := RK0.below b1 RK0.lt
  have TU1 := TU0.below b1 TU0.lt
  have RC1 := RC0.below b1 RC0.lt
  have hI := (Ints.ofOwn (zs := ints L) (by rw [intsV_ints]; exact o1) (by rw [← HLQ.out]; omega) (fun x hx => by obtain ⟨y, hy, rfl⟩ := List.mem_map.1 hx; have := HL6.out y hy; omega)).2
  have KE := hidden (encodedInv_yes a1 c1 w1.heap.size n L w1 hI (Nat.le_refl _) HR.out (by omega) (by omega) hL6 HL6.out)
  rw [HLQ.out] at KE
  have r0 := RK1.cell 0
  have t3 := TU1.cell 3
  simp at r0 t3
  clear bb RK0 TU0 RC0 hI b1 o1 t0 KT hwe
  go_wp2_with fail
  refine KE.out.mono ?_
  rintro e w2 ⟨cb, aG, nG, cG, rfl, o2, o3, hne, b2⟩
  have RC2 := RC1.below b2 RC1.lt
  have B2 := bel_then b2 (by omega) B1
  have hgw := (o2.lt cb rfl).1
  have HO2 := hidden (Joins.ownsRow_le o2 (show w.heap.size ≤ w1.heap.size by omega))
  have HL3 : Hid (∀ g, (Value.slice aG nG cG).ownBlock = some g → w1.heap.size ≤ g) := hidden (fun g hg => (o3.lt g hg).1)
  have HO3 := hidden (Joins.ownsRow_le o3 (show w.heap.size ≤ w1.heap.size by omega))
  have HGL : Hid ((gapsTo L (n - 1)).length ≤ 600) := hidden (Nat.le_trans (gapsTo_le HL6.out (by omega)) hL6)
  have e0 := RC2.cell 0
  have e1 := RC2.cell 1
  have g0 := RC2.free 0
  have g1 := RC2.free 1
  simp at e0 e1
  have s2 := b2.size
  clear b2 o2 o3 RC1 RK1 TU1 r0 t3 B1 hne
  go_wp2
  refine bodyPost_ret (v := .agg #[.slice (some ⟨cb, 0, none⟩) n n, .slice aG nG cG]) (by simp [results, Tryz.results59, go_sem, e0, e1, g0, g1]) rfl ⟨_, _, _, rfl, ?_, ?_, HGL.out, ?_⟩
  · exact ownsRow_setCell_other (ownsRow_setCell_other HO2.out (by simp [Value.ownBlock]; omega) _) (by simp [Value.ownBlock]; omega) _
  · exact ownsRow_setCell_other (ownsRow_setCell_other HO3.out (fun e => by have := HL3.out _ e; simp at this; omega) _) (fun e => by have := HL3.out _ e; simp at this; omega) _
  · repeat (first | exact B2 | refine Below.setCell ?_ (by (try simp); (try omega)) _)
end Go.Proofs.YtembljihmnmmfaaGreat
namespace Go.Proofs.YtembljihmnmmfaaGreat
set_option linter.unusedVariables false
set_option linter.unusedSimpArgs false
open Go.RowKit

set_option maxHeartbeats 4000000 in
set_option maxRecDepth 100000 in
theorem symbolsT_1 (s us : ByteArray) (fi t : Int) (b : Bool) (O : List Nat) (n : Nat) (w : World) (hs : 0 < s.size ∧ s.size ≤ 600) (hO : Byt O) (hn : O.length = n) (hn6 : n ≤ 256) (hr : rOk (rkS s O) n = true) :
    Calls Tryz.prog 29 #[.agg #[.iface 83 (.agg #[]), .bool b, .int .i64 t], .agg #[.string (lstZ s), .int .i64 fi, .string us, .string (strOf O)]] w fun e w' => ∃ v, e = .returned v ∧ w'.ownsRow w.heap.size 3 1 v (stgR (rkS s O) 1 n).length (intsV (stgR (rkS s O) 1 n)) ∧ Below w.heap.size w w' := by
  obtain ⟨q, hq⟩ : ∃ q, (rkS s O).length = q := ⟨_, rfl⟩
  have KN := hidden (fun W => numbersOf_1 s us fi b O q n W hs hO hn hn6 hr hq)
  have e5 : stgR (rkS s O) 1 n = packZ (mtfZ (rkS s O) n) n := by simp [stgR]
  rw [e5]
  have hb5 := mtfZ_bnd (rkS s O) (n : Int)
  have hql : (mtfZ (rkS s O) n).length = q := by
    obtain ⟨L, k, h1, h2, _, _, _, _⟩ := rOk_nats hr
    have hr2 := hr
    rw [h1, h2] at hr2 ⊢
    rw [mtfZ_yes hr2, ints_len, runF_len, ← hq, h1, ints_len]
  have hzO : (strOf O).size = n := by rw [strOf_size, hn]
  obtain ⟨OS, hOS⟩ : ∃ OS, strOf O = OS := ⟨_, rfl⟩
  obtain ⟨LS, hLS⟩ : ∃ LS, lstZ s = LS := ⟨_, rfl⟩
  obtain ⟨D, hD⟩ : ∃ D, mtfZ (rkS s O) (n : Int) = D := ⟨_, rfl⟩
  rw [hOS, hLS, hD] at KN
  rw [hOS] at hzO
  rw [hOS, hLS, hD]
  rw [hD] at hb5 hql
  have HB5 := hidden hb5
  have HQL := hidden hql
  have hq6 : q ≤ 600 := by rw [← hql]; exact hb5.1
  obtain ⟨w0, hwe⟩ : ∃ w0, (w.alloc (.cells #[.iface 83 (.agg #[]), .bool b, .int .i64 t] 53)).alloc (.cells #[.string LS, .int .i64 fi, .string us, .string OS] 56) = w0 := ⟨_, rfl⟩
  have hw0 : w0.heap.size = w.heap.size + 2 := by rw [← hwe]; simp
  have bb : Below w.heap.size w w0 := by rw [← hwe]; exact ((Below.refl _ _).alloc (Nat.le_refl _) _).alloc (by simp) _
  have TB0 : Has w0 w.heap.size 53 #[.iface 83 (.agg #[]), .bool b, .int .i64 t] := by rw [← hwe]; exact (Has.fresh _ _ _).alloc _
  have TU0 : Has w0 (w.heap.size + 1) 56 #[.string LS, .int .i64 fi, .string us, .string OS] := by rw [← hwe]; exact Has.freshAt (by simp) _ _
  have HTB := hidden TB0
  have HTU := hidden TU0
  have c0 := TB0.cell 0
  have c1 := TB0.cell 1
  have t0 := TU0.cell 0
  have t1 := TU0.cell 1
  have t2 := TU0.cell 2
  have t3 := TU0.cell 3
  simp at c0 c1 t0 t1 t2 t3
  have bd : Below w0.heap.size w0 w0 := Below.refl _ _
  have hfd := field8_1
  clear hr hq e5 hb5 hql hD hOS hLS hO hn TB0 TU0
  go_enter Tryz.func29, Tryz.ntmps29
  go_wp2_with fail
  go_region_held3 (fun w' => w'.cell? ⟨w.heap.size, 0, none⟩ = some (.iface 83 (.agg #[])) ∧ w'.cell? ⟨w.heap.size, 1, none⟩ = some (.bool b) ∧ w'.cell? ⟨w.heap.size + 1, 0, none⟩ = some (.string LS) ∧ w'.cell? ⟨w.heap.size + 1, 1, none⟩ = some (.int .i64 fi) ∧ w'.cell? ⟨w.heap.size + 1, 2, none⟩ = some (.string us) ∧ w'.cell? ⟨w.heap.size + 1, 3, none⟩ = some (.string OS)) (go_keep) (first
    | (go_at_call 59; (with_reducible refine (KN.out _).mono ?_); rintro e wX ⟨g, rfl, oX, BX⟩; have sX := BX.size; replace bd : Below w0.heap.size w0 wX := bel_then BX bd.size ⟨bd.os, bd.tape, bd.output, bd.size, bd.block⟩; have TBX := HTB.out.below bd (by omega); have TUX := HTU.out.below bd (by omega); have c0 := TBX.cell 0; have c1 := TBX.cell 1; have t0 := TUX.cell 0; have t1 := TUX.cell 1; have t2 := TUX.cell 2; have t3 := TUX.cell 3; simp at c0 c1 t0 t1 t2 t3; have hIX := (Ints.ofOwn oX (by omega) (fun x hx => by have := HB5.out.2 x hx; omega)).2; have KP := hidden (fun (W : World) (h : Below wX.heap.size wX W) => implPackRuns_any (some ⟨g, 0, none⟩) q wX.heap.size D (n : Int) W (hIX.below h) h.size (by rw [HQL.out]; omega) (by rw [HQL.out]; exact Nat.le_refl _) (by omega) (by omega)); rw [HQL.out] at KP; clear oX hIX TBX TUX BX; have by2 : Below wX.heap.size wX wX := Below.refl _ _)
    | (go_at_call 58; (with_reducible refine (KP.out _ ?hW).mono ?_); (case hW => exact ⟨by2.os, by2.tape, by2.output, by2.size, by2.block⟩); rintro e wY ⟨vY, rfl, oY, BY⟩; have szX : w0.heap.size ≤ wX.heap.size := bd.size; replace bd : Below w0.heap.size w0 wY := bel_then BY bd.size ⟨bd.os, bd.tape, bd.output, bd.size, bd.block⟩; have TBX := HTB.out.below bd (by omega); have TUX := HTU.out.below bd (by omega); have c0 := TBX.cell 0; have c1 := TBX.cell 1; have t0 := TUX.cell 0; have t1 := TUX.cell 1; have t2 := TUX.cell 2; have t3 := TUX.cell 3; simp at c0 c1 t0 t1 t2 t3; have HOY := hidden oY; clear TBX TUX oY BY))
  all_goals
    go_wp2
    go_ret
    exact ⟨_, rfl, Joins.ownsRow_le HOY.out (by omega), bb.trans (Below.mono (show Below w0.heap.size w0 _ from ⟨bd.os, bd.tape, bd.output, bd.size, bd.block⟩) (by omega))⟩
set_option maxHeartbeats 4000000 in
set_option maxRecDepth 100000 in
theorem symbolsT_2 (s us : ByteArray) (fi t : Int) (b : Bool) (O : List Nat) (n : Nat) (w : World) (hs : 0 < s.size ∧ s.size ≤ 600) (hO : Byt O) (hn : O.length = n) (hn6 : n ≤ 256) (hr : rOk (rkS s O) n = true) :
    Calls Tryz.prog 29 #[.agg #[.iface 84 (.agg #[]), .bool b, .int .i64 t], .agg #[.string (lstZ s), .int .i64 fi, .string us, .string (strOf O)]] w fun e w' => ∃ v, e = .returned v ∧ w'.ownsRow w.heap.size 3 1 v (stgR (rkS s O) 2 n).length (intsV (stgR (rkS s O) 2 n)) ∧ Below w.heap.size w w' := by
  obtain ⟨q, hq⟩ : ∃ q, (rkS s O).length = q := ⟨_, rfl⟩
  have KN := hidden (fun W => numbersOf_2 s us fi b O q n W hs hO hn hn6 hr hq)
  have e5 : stgR (rkS s O) 2 n = packZ (sbrZ (rkS s O) n) n := by simp [stgR]
  rw [e5]
  have hb5 := sbrZ_bnd (rkS s O) (n : Int)
  have hql : (sbrZ (rkS s O) n).length = q := by
    obtain ⟨L, k, h1, h2, _, _, _, _⟩ := rOk_nats hr
    have hr2 := hr
    rw [h1, h2] at hr2 ⊢
    rw [sbrZ_yes hr2, ints_len, runF_len, ← hq, h1, ints_len]
  have hzO : (strOf O).size = n := by rw [strOf_size, hn]
  obtain ⟨OS, hOS⟩ : ∃ OS, strOf O = OS := ⟨_, rfl⟩
  obtain ⟨LS, hLS⟩ : ∃ LS, lstZ s = LS := ⟨_, rfl⟩
  obtain ⟨D, hD⟩ : ∃ D, sbrZ (rkS s O) (n : Int) = D := ⟨_, rfl⟩
  rw [hOS, hLS, hD] at KN
  rw [hOS] at hzO
  rw [hOS, hLS, hD]
  rw [hD] at hb5 hql
  have HB5 := hidden hb5
  have HQL := hidden hql
  have hq6 : q ≤ 600 := by rw [← hql]; exact hb5.1
  obtain ⟨w0, hwe⟩ : ∃ w0, (w.alloc (.cells #[.iface 84 (.agg #[]), .bool b, .int .i64 t] 53)).alloc (.cells #[.string LS, .int .i64 fi, .string us, .string OS] 56) = w0 := ⟨_, rfl⟩
  have hw0 : w0.heap.size = w.heap.size + 2 := by rw [← hwe]; simp
  have bb : Below w.heap.size w w0 := by rw [← hwe]; exact ((Below.refl _ _).alloc (Nat.le_refl _) _).alloc (by simp) _
  have TB0 : Has w0 w.heap.size 53 #[.iface 84 (.agg #[]), .bool b, .int .i64 t] := by rw [← hwe]; exact (Has.fresh _ _ _).alloc _
  have TU0 : Has w0 (w.heap.size + 1) 56 #[.string LS, .int .i64 fi, .string us, .string OS] := by rw [← hwe]; exact Has.freshAt (by simp) _ _
  have HTB := hidden TB0
  have HTU := hidden TU0
  have c0 := TB0.cell 0
  have c1 := TB0.cell 1
  have t0 := TU0.cell 0
  have t1 := TU0.cell 1
  have t2 := TU0.cell 2
  have t3 := TU0.cell 3
  simp at c0 c1 t0 t1 t2 t3
  have bd : Below w0.heap.size w0 w0 := Below.refl _ _
  have hfd := field8_1
  clear hr hq e5 hb5 hql hD hOS hLS hO hn TB0 TU0
  go_enter Tryz.func29, Tryz.ntmps29
  go_wp2_with fail
  go_region_held3 (fun w' => w'.cell? ⟨w.heap.size, 0, none⟩ = some (.iface 84 (.agg #[])) ∧ w'.cell? ⟨w.heap.size, 1, none⟩ = some (.bool b) ∧ w'.cell? ⟨w.heap.size + 1, 0, none⟩ = some (.string LS) ∧ w'.cell? ⟨w.heap.size + 1, 1, none⟩ = some (.int .i64 fi) ∧ w'.cell? ⟨w.heap.size + 1, 2, none⟩ = some (.string us) ∧ w'.cell? ⟨w.heap.size + 1, 3, none⟩ = some (.string OS)) (go_keep) (first
    | (go_at_call 59; (with_reducible refine (KN.out _).mono ?_); rintro e wX ⟨g, rfl, oX, BX⟩; have sX := BX.size; replace bd : Below w0.heap.size w0 wX := bel_then BX bd.size ⟨bd.os, bd.tape, bd.output, bd.size, bd.block⟩; have TBX := HTB.out.below bd (by omega); have TUX := HTU.out.below bd (by omega); have c0 := TBX.cell 0; have c1 := TBX.cell 1; have t0 := TUX.cell 0; have t1 := TUX.cell 1; have t2 := TUX.cell 2; have t3 := TUX.cell 3; simp at c0 c1 t0 t1 t2 t3; have hIX := (Ints.ofOwn oX (by omega) (fun x hx => by have := HB5.out.2 x hx; omega)).2; have KP := hidden (fun (W : World) (h : Below wX.heap.size wX W) => implPackRuns_any (some ⟨g, 0, none⟩) q wX.heap.size D (n : Int) W (hIX.below h) h.size (by rw [HQL.out]; omega) (by rw [HQL.out]; exact Nat.le_refl _) (by omega) (by omega)); rw [HQL.out] at KP; clear oX hIX TBX TUX BX; have by2 : Below wX.heap.size wX wX := Below.refl _ _)
    | (go_at_call 58; (with_reducible refine (KP.out _ ?hW).mono ?_); (case hW => exact ⟨by2.os, by2.tape, by2.output, by2.size, by2.block⟩); rintro e wY ⟨vY, rfl, oY, BY⟩; have szX : w0.heap.size ≤ wX.heap.size := bd.size; replace bd : Below w0.heap.size w0 wY := bel_then BY bd.size ⟨bd.os, bd.tape, bd.output, bd.size, bd.block⟩; have TBX := HTB.out.below bd (by omega); have TUX := HTU.out.below bd (by omega); have c0 := TBX.cell 0; have c1 := TBX.cell 1; have t0 := TUX.cell 0; have t1 := TUX.cell 1; have t2 := TUX.cell 2; have t3 := TUX.cell 3; simp at c0 c1 t0 t1 t2 t3; have HOY := hidden oY; clear TBX TUX oY BY))
  all_goals
    go_wp2
    go_ret
    exact ⟨_, rfl, Joins.ownsRow_le HOY.out (by omega), bb.trans (Below.mono (show Below w0.heap.size w0 _ from ⟨bd.os, bd.tape, bd.output, bd.size, bd.block⟩) (by omega))⟩
set_option maxHeartbeats 4000000 in
set_option maxRecDepth 100000 in
theorem symbolsC (s us : ByteArray) (fi : Int) (b : Bool) (O : List Nat) (n : Nat) (w : World) (hs : 0 < s.size ∧ s.size ≤ 600) (hO : Byt O) (hn : O.length = n) (hn6 : n ≤ 256) (hr : rOk (rkS s O) n = true) :
    Calls Tryz.prog 31 #[.agg #[.iface 85 (.agg #[]), .bool b], .agg #[.string (lstZ s), .int .i64 fi, .string us, .string (strOf O)]] w fun e w' => ∃ v, e = .returned v ∧ w'.ownsRow w.heap.size 3 1 v (stgR (rkS s O) 3 n).length (intsV (stgR (rkS s O) 3 n)) ∧ Below w.heap.size w w' := by
  obtain ⟨q, hq⟩ : ∃ q, (rkS s O).length = q := ⟨_, rfl⟩
  have KN := hidden (fun W => numbersOf_3 s us fi b O q n W hs hO hn hn6 hr hq)
  have e5 : stgR (rkS s O) 3 n = invC (rkS s O) n ++ invG (rkS s O) n := by simp [stgR]
  rw [e5, List.length_append]
  obtain ⟨OS, hOS⟩ : ∃ OS, strOf O = OS := ⟨_, rfl⟩
  obtain ⟨LS, hLS⟩ : ∃ LS, lstZ s = LS := ⟨_, rfl⟩
  obtain ⟨D, hD⟩ : ∃ D, invC (rkS s O) (n : Int) = D := ⟨_, rfl⟩
  obtain ⟨G, hG⟩ : ∃ G, invG (rkS s O) (n : Int) = G := ⟨_, rfl⟩
  rw [hOS, hLS, hD, hG] at KN
  rw [hOS, hLS, hD, hG]
  obtain ⟨w0, hwe⟩ : ∃ w0, (w.alloc (.cells #[.iface 85 (.agg #[]), .bool b] 59)).alloc (.cells #[.string LS, .int .i64 fi, .string us, .string OS] 56) = w0 := ⟨_, rfl⟩
  have hw0 : w0.heap.size = w.heap.size + 2 := by rw [← hwe]; simp
  have bb : Below w.heap.size w w0 := by rw [← hwe]; exact ((Below.refl _ _).alloc (Nat.le_refl _) _).alloc (by simp) _
  have TB0 : Has w0 w.heap.size 59 #[.iface 85 (.agg #[]), .bool b] := by rw [← hwe]; exact (Has.fresh _ _ _).alloc _
  have TU0 : Has w0 (w.heap.size + 1) 56 #[.string LS, .int .i64 fi, .string us, .string OS] := by rw [← hwe]; exact Has.freshAt (by simp) _ _
  have c0 := TB0.cell 0
  have c1 := TB0.cell 1
  have t0 := TU0.cell 0
  have t1 := TU0.cell 1
  have t2 := TU0.cell 2
  have t3 := TU0.cell 3
  simp at c0 c1 t0 t1 t2 t3
  clear hr hq e5 hD hG hOS hLS hO hn TB0 TU0
  go_enter Tryz.func31, Tryz.ntmps31
  go_wp2_with fail
  refine (KN.out _).mono ?_
  rintro e w1 ⟨v0, v1, z1, rfl, o0, o1, hz1, b1⟩
  obtain ⟨a0, k0, rfl⟩ := own_shape o0
  obtain ⟨a1, k1, rfl⟩ := own_shape o1
  have s1 := b1.size
  have B1 := bel_then b1 (by omega) bb
  obtain ⟨w2, hw2⟩ : ∃ w2, w1.alloc (.cells #[.slice a0 n k0, .slice a1 z1 k1] 87) = w2 := ⟨_, rfl⟩
  have b2 : Below w1.heap.size w1 w2 := by rw [← hw2]; exact (Below.refl _ _).alloc (Nat.le_refl _) _
  have RC2 : Has w2 w1.heap.size 87 #[.slice a0 n k0, .slice a1 z1 k1] := by rw [← hw2]; exact Has.fresh _ _ _
  have s2 : w2.heap.size = w1.heap.size + 1 := by rw [← hw2]; simp
  obtain ⟨w3, hw3⟩ : ∃ w3, w2.alloc (.cells #[.slice a0 n k0, .slice a1 z1 k1] 24) = w3 := ⟨_, rfl⟩
  have b3 : Below w2.heap.size w2 w3 := by rw [← hw3]; exact (Below.refl _ _).alloc (Nat.le_refl _) _
  have HS3 : Has w3 w2.heap.size 24 #[.slice a0 n k0, .slice a1 z1 k1] := by rw [← hw3]; exact Has.fresh _ _ _
  have s3 : w3.heap.size = w2.heap.size + 1 := by rw [← hw3]; simp
  have o03 := own_bel (own_bel o0 b2) b3
  have o13 := own_bel (own_bel o1 b2) b3
  have B3 := bel_then b3 (by omega) (bel_then b2 (by omega) B1)
  have hn0 : D.length = n := by have := o0.1; rw [intsV_len] at this; omega
  have hn1 : G.length = z1 := by have := o1.1; rw [intsV_len] at this; omega
  have KC := hidden (concat2_any w2.heap.size n z1 _ _ (.slice a0 n k0) (.slice a1 z1 k1) D G _ w3 HS3 o03 o13 (by omega) (by omega))
  have HN := hidden hn0
  have HN1 := hidden hn1
  have e0 := RC2.cell 0
  have e1 := RC2.cell 1
  simp at e0 e1
  clear o0 o1 o03 o13 b1 b2 b3 B1 bb KN hwe c0 c1 t0 t1 t2 t3 hn0 hn1 HS3 RC2
  rw [s2] at KC
  go_wp2_with fail
  refine KC.out.mono ?_
  rintro e w4 ⟨v4, rfl, o4, b4⟩
  have B4 := bel_then b4 (by omega) B3
  have HO4 := hidden (Joins.ownsRow_le o4 (show w.heap.size ≤ w3.heap.size by omega))
  clear o4 b4 B3 KC
  go_wp2
  go_ret
  exact ⟨_, rfl, by rw [HN.out, HN1.out]; exact HO4.out, B4⟩
end Go.Proofs.YtembljihmnmmfaaGreat
namespace Go.Proofs.YtembljihmnmmfaaGreat
set_option linter.unusedVariables false
set_option linter.unusedSimpArgs false
open Go.RowKit

theorem stgZ_yes {s : ByteArray} {m t : Int} {b : Bool} (hs : 0 < s.size ∧ s.size ≤ 600) (h : wayOk m b t = true) : stgZ s m b t = stgR (rkS s (ordB (bytesOf s) b)) m ((ordB (bytesOf s) b).length : Int) := by
  unfold stgZ; rw [if_pos ⟨hs.1, hs.2, h⟩]
set_option maxHeartbeats 1000000 in
set_option maxRecDepth 100000 in
theorem implStage_no (s : ByteArray) (m t : Int) (b : Bool) (w : World) (hs : s.size ≤ 1048576) (h : stgZ s m b t = []) (h2 : ¬ (0 < s.size ∧ s.size ≤ 600) ∨ wayOk m b t = false) :
    Calls Tryz.prog 8 #[.string s, .agg #[.int .i64 m, .bool b, .int .i64 t]] w fun e w' => ∃ v, e = .returned v ∧ w'.ownsRow w.heap.size 3 1 v (stgZ s m b t).length (intsV (stgZ s m b t)) ∧ Below w.heap.size w w' := by
  rw [h]
  have KO := hidden (fun W => isBlock_any s W hs)
  have KW := hidden (fun W => implWayOk_any m t b W)
  have ba : Below w.heap.size w (w.alloc (.cells #[.int .i64 m, .bool b, .int .i64 t] 26)) := (Below.refl _ _).alloc (Nat.le_refl _) _
  have hWb := Has.fresh w 26 #[.int .i64 m, .bool b, .int .i64 t]
  have c0 := hWb.cell 0
  have c1 := hWb.cell 1
  have c2 := hWb.cell 2
  simp at c0 c1 c2
  by_cases h6 : 0 < s.size ∧ s.size ≤ 600
  · have hw : wayOk m b t = false := by rcases h2 with h2 | h2; exact absurd h6 h2; exact h2
    rw [hw] at KW
    rw [decide_eq_true h6] at KO
    clear hw h6 h h2 hWb
    go_enter Tryz.func8, Tryz.ntmps8
    go_wp2_with fail
    refine (KO.out _).mono ?_
    rintro e w0 ⟨rfl, rfl⟩
    go_wp2_with fail
    refine (KW.out _).mono ?_
    rintro e w1 ⟨rfl, b1⟩
    have B1 := bel_then b1 ba.size ba
    clear c0 c1 c2
    go_wp2
    go_ret
    exact ⟨_, rfl, World.ownsRow_nil _ _ _ _, B1⟩
  · rw [decide_eq_false h6] at KO
    clear h6 h h2 KW hWb
    go_enter Tryz.func8, Tryz.ntmps8
    go_wp2_with fail
    refine (KO.out _).mono ?_
    rintro e w0 ⟨rfl, rfl⟩
    go_wp2
    go_ret
    exact ⟨_, rfl, World.ownsRow_nil _ _ _ _, ba⟩
set_option maxHeartbeats 1000000 in
set_option maxRecDepth 100000 in
theorem implStage_0 (s : ByteArray) (w : World) (hs : 0 < s.size ∧ s.size ≤ 600) :
    Calls Tryz.prog 8 #[.string s, .agg #[.int .i64 0, .bool false, .int .i64 0]] w fun e w' => ∃ v, e = .returned v ∧ w'.ownsRow w.heap.size 3 1 v (stgZ s 0 false 0).length (intsV (stgZ s 0 false 0)) ∧ Below w.heap.size w w' := by
  have e5 : stgZ s 0 false 0 = [] := by unfold stgZ; split <;> simp [stgR]
  rw [e5]
  have KO := hidden (fun W => isBlock_any s W (by omega))
  have KW := hidden (fun W => implWayOk_any 0 0 false W)
  have KM := hidden (fun W => methodOf_any 0 0 false W (by omega))
  have hmv : methV 0 false 0 = .iface 70 (.agg #[]) := by simp [methV]
  rw [hmv] at KM
  have a1 := as_stored_tabled
  have a2 := as_stored_counted
  rw [show wayOk 0 false 0 = true from by simp [wayOk]] at KW
  rw [decide_eq_true hs] at KO
  have ba : Below w.heap.size w (w.alloc (.cells #[.int .i64 0, .bool false, .int .i64 0] 26)) := (Below.refl _ _).alloc (Nat.le_refl _) _
  have hWb := Has.fresh w 26 #[.int .i64 0, .bool false, .int .i64 0]
  have c0 := hWb.cell 0
  have c1 := hWb.cell 1
  have c2 := hWb.cell 2
  simp at c0 c1 c2
  clear hmv e5
  go_enter Tryz.func8, Tryz.ntmps8
  go_wp2_with fail
  refine (KO.out _).mono ?_
  rintro e w0 ⟨rfl, rfl⟩
  go_wp2_with fail
  refine (KW.out _).mono ?_
  rintro e w1 ⟨rfl, b1⟩
  have B1 := bel_then b1 ba.size ba
  have H1 := hWb.below b1 (by simp)
  have s1 := B1.size
  have c0 := H1.cell 0
  have c1 := H1.cell 1
  have c2 := H1.cell 2
  simp at c0 c1 c2
  clear b1 hWb KO KW
  go_wp2_with fail
  refine (KM.out _).mono ?_
  rintro e w2 ⟨rfl, b2⟩
  have B2 := bel_then b2 s1 B1
  clear b2 c0 c1 c2 H1 KM
  go_wp2
  go_ret
  exact ⟨_, rfl, World.ownsRow_nil _ _ _ _, B2⟩
set_option maxHeartbeats 4000000 in
set_option maxRecDepth 100000 in
theorem implStage_1 (s : ByteArray) (t : Int) (b : Bool) (w : World) (hs : 0 < s.size ∧ s.size ≤ 600) (hw : wayOk 1 b t = true) :
    Calls Tryz.prog 8 #[.string s, .agg #[.int .i64 1, .bool b, .int .i64 t]] w fun e w' => ∃ v, e = .returned v ∧ w'.ownsRow w.heap.size 3 1 v (stgZ s 1 b t).length (intsV (stgZ s 1 b t)) ∧ Below w.heap.size w w' := by
  have KO := hidden (fun W => isBlock_any s W (by omega))
  have KW := hidden (fun W => implWayOk_any 1 t b W)
  have KM := hidden (fun W => methodOf_any 1 t b W (by omega))
  have KT := hidden (fun (rc : Value) W => turn_any rc s b W (by omega))
  have hmv : methV 1 b t = .iface 53 (.agg #[.iface 83 (.agg #[]), .bool b, .int .i64 t]) := by simp [methV, recV]
  rw [hmv] at KM
  have a1 := as_tabled_tabled
  have KSY := hidden (fun (h : Ranked (bytesOf s) (ordB (bytesOf s) b) ∨ ordB (bytesOf s) b = usedL (bytesOf s)) W => symbolsT_1 s (strOf (usedL (bytesOf s))) (fstZ s) t b (ordB (bytesOf s) b) (ordB (bytesOf s) b).length W hs (ord_ok (block_ne hs.1) (byt_bytesOf s) h).2.1 rfl (ord_ok (block_ne hs.1) (byt_bytesOf s) h).2.2.1 (ranks_ok hs h).1)
  rw [show wayOk 1 b t = true from hw] at KW
  rw [decide_eq_true hs] at KO
  have e5 := (stgZ_yes (m := 1) (b := b) (t := t) hs hw).symm
  rw [e5] at KSY
  obtain ⟨Z, hZ⟩ : ∃ Z, stgZ s 1 b t = Z := ⟨_, rfl⟩
  rw [hZ] at KSY ⊢
  obtain ⟨z, hz⟩ : ∃ z, Z.length = z := ⟨_, rfl⟩
  rw [hz] at KSY ⊢
  obtain ⟨tv, htv⟩ : ∃ tv, turV s b = tv := ⟨_, rfl⟩
  rw [htv] at KT
  rw [show Value.agg #[.string (lstZ s), .int .i64 (fstZ s), .string (strOf (usedL (bytesOf s))), .string (strOf (ordB (bytesOf s) b))] = tv from htv] at KSY
  have ba : Below w.heap.size w (w.alloc (.cells #[.int .i64 1, .bool b, .int .i64 t] 26)) := (Below.refl _ _).alloc (Nat.le_refl _) _
  have hWb := Has.fresh w 26 #[.int .i64 1, .bool b, .int .i64 t]
  have c0 := hWb.cell 0
  have c1 := hWb.cell 1
  have c2 := hWb.cell 2
  simp at c0 c1 c2
  clear hmv e5 hZ hz htv
  go_enter Tryz.func8, Tryz.ntmps8
  go_wp2_with fail
  refine (KO.out _).mono ?_
  rintro e w0 ⟨rfl, rfl⟩
  go_wp2_with fail
  refine (KW.out _).mono ?_
  rintro e w1 ⟨rfl, b1⟩
  have B1 := bel_then b1 ba.size ba
  have H1 := hWb.below b1 (by simp)
  have s1 := B1.size
  have c0 := H1.cell 0
  have c1 := H1.cell 1
  have c2 := H1.cell 2
  simp at c0 c1 c2
  clear b1 hWb KO KW
  go_wp2_with fail
  refine (KM.out _).mono ?_
  rintro e w2 ⟨rfl, b2⟩
  have B2 := bel_then b2 s1 B1
  have s2 := b2.size
  clear b2 c0 c1 c2 H1 KM
  obtain ⟨w3, hw3⟩ : ∃ w3, w2.alloc (.cells #[.iface 83 (.agg #[]), .bool b, .int .i64 t] 53) = w3 := ⟨_, rfl⟩
  have s3 : w3.heap.size = w2.heap.size + 1 := by rw [← hw3]; simp
  have B3 : Below w.heap.size w w3 := by rw [← hw3]; exact B2.alloc (by omega) _
  have TB3 : Has w3 w2.heap.size 53 #[.iface 83 (.agg #[]), .bool b, .int .i64 t] := by rw [← hw3]; exact Has.fresh _ _ _
  have HTB := hidden TB3
  have d0 := TB3.cell 0
  have d1 := TB3.cell 1
  have d2 := TB3.cell 2
  simp at d0 d1 d2
  have bd : Below w3.heap.size w3 w3 := Below.refl _ _
  clear TB3 B2
  go_wp2_with fail
  go_region_held3 (fun w' => w'.cell? ⟨w2.heap.size, 0, none⟩ = some (.iface 83 (.agg #[])) ∧ w'.cell? ⟨w2.heap.size, 1, none⟩ = some (.bool b) ∧ w'.cell? ⟨w2.heap.size, 2, none⟩ = some (.int .i64 t)) (go_keep) (first
    | (go_at_call 30; (with_reducible refine (KT.out _ _).mono ?_); rintro e wX ⟨rfl, hR, BX⟩; have sX := BX.size; replace bd : Below w3.heap.size w3 wX := bel_then BX bd.size ⟨bd.os, bd.tape, bd.output, bd.size, bd.block⟩; have TBX := HTB.out.below bd (by omega); have d0 := TBX.cell 0; have d1 := TBX.cell 1; have d2 := TBX.cell 2; simp at d0 d1 d2; clear TBX BX)
    | (go_at_call 29; (with_reducible refine (KSY.out hR.out _).mono ?_); rintro e wY ⟨vY, rfl, oY, BY⟩; have szX : w3.heap.size ≤ wX.heap.size := bd.size; replace bd : Below w3.heap.size w3 wY := bel_then BY bd.size ⟨bd.os, bd.tape, bd.output, bd.size, bd.block⟩; have TBX := HTB.out.below bd (by omega); have d0 := TBX.cell 0; have d1 := TBX.cell 1; have d2 := TBX.cell 2; simp at d0 d1 d2; have HOY := hidden oY; clear TBX oY BY))
  all_goals
    go_wp2
    go_ret
    exact ⟨_, rfl, Joins.ownsRow_le HOY.out (by omega), B3.trans (Below.mono (show Below w3.heap.size w3 _ from ⟨bd.os, bd.tape, bd.output, bd.size, bd.block⟩) (by omega))⟩
set_option maxHeartbeats 4000000 in
set_option maxRecDepth 100000 in
theorem implStage_2 (s : ByteArray) (t : Int) (b : Bool) (w : World) (hs : 0 < s.size ∧ s.size ≤ 600) (hw : wayOk 2 b t = true) :
    Calls Tryz.prog 8 #[.string s, .agg #[.int .i64 2, .bool b, .int .i64 t]] w fun e w' => ∃ v, e = .returned v ∧ w'.ownsRow w.heap.size 3 1 v (stgZ s 2 b t).length (intsV (stgZ s 2 b t)) ∧ Below w.heap.size w w' := by
  have KO := hidden (fun W => isBlock_any s W (by omega))
  have KW := hidden (fun W => implWayOk_any 2 t b W)
  have KM := hidden (fun W => methodOf_any 2 t b W (by omega))
  have KT := hidden (fun (rc : Value) W => turn_any rc s b W (by omega))
  have hmv : methV 2 b t = .iface 53 (.agg #[.iface 84 (.agg #[]), .bool b, .int .i64 t]) := by simp [methV, recV]
  rw [hmv] at KM
  have a1 := as_tabled_tabled
  have KSY := hidden (fun (h : Ranked (bytesOf s) (ordB (bytesOf s) b) ∨ ordB (bytesOf s) b = usedL (bytesOf s)) W => symbolsT_2 s (strOf (usedL (bytesOf s))) (fstZ s) t b (ordB (bytesOf s) b) (ordB (bytesOf s) b).length W hs (ord_ok (block_ne hs.1) (byt_bytesOf s) h).2.1 rfl (ord_ok (block_ne hs.1) (byt_bytesOf s) h).2.2.1 (ranks_ok hs h).1)
  rw [show wayOk 2 b t = true from hw] at KW
  rw [decide_eq_true hs] at KO
  have e5 := (stgZ_yes (m := 2) (b := b) (t := t) hs hw).symm
  rw [e5] at KSY
  obtain ⟨Z, hZ⟩ : ∃ Z, stgZ s 2 b t = Z := ⟨_, rfl⟩
  rw [hZ] at KSY ⊢
  obtain ⟨z, hz⟩ : ∃ z, Z.length = z := ⟨_, rfl⟩
  rw [hz] at KSY ⊢
  obtain ⟨tv, htv⟩ : ∃ tv, turV s b = tv := ⟨_, rfl⟩
  rw [htv] at KT
  rw [show Value.agg #[.string (lstZ s), .int .i64 (fstZ s), .string (strOf (usedL (bytesOf s))), .string (strOf (ordB (bytesOf s) b))] = tv from htv] at KSY
  have ba : Below w.heap.size w (w.alloc (.cells #[.int .i64 2, .bool b, .int .i64 t] 26)) := (Below.refl _ _).alloc (Nat.le_refl _) _
  have hWb := Has.fresh w 26 #[.int .i64 2, .bool b, .int .i64 t]
  have c0 := hWb.cell 0
  have c1 := hWb.cell 1
  have c2 := hWb.cell 2
  simp at c0 c1 c2
  clear hmv e5 hZ hz htv
  go_enter Tryz.func8, Tryz.ntmps8
  go_wp2_with fail
  refine (KO.out _).mono ?_
  rintro e w0 ⟨rfl, rfl⟩
  go_wp2_with fail
  refine (KW.out _).mono ?_
  rintro e w1 ⟨rfl, b1⟩
  have B1 := bel_then b1 ba.size ba
  have H1 := hWb.below b1 (by simp)
  have s1 := B1.size
  have c0 := H1.cell 0
  have c1 := H1.cell 1
  have c2 := H1.cell 2
  simp at c0 c1 c2
  clear b1 hWb KO KW
  go_wp2_with fail
  refine (KM.out _).mono ?_
  rintro e w2 ⟨rfl, b2⟩
  have B2 := bel_then b2 s1 B1
  have s2 := b2.size
  clear b2 c0 c1 c2 H1 KM
  obtain ⟨w3, hw3⟩ : ∃ w3, w2.alloc (.cells #[.iface 84 (.agg #[]), .bool b, .int .i64 t] 53) = w3 := ⟨_, rfl⟩
  have s3 : w3.heap.size = w2.heap.size + 1 := by rw [← hw3]; simp
  have B3 : Below w.heap.size w w3 := by rw [← hw3]; exact B2.alloc (by omega) _
  have TB3 : Has w3 w2.heap.size 53 #[.iface 84 (.agg #[]), .bool b, .int .i64 t] := by rw [← hw3]; exact Has.fresh _ _ _
  have HTB := hidden TB3
  have d0 := TB3.cell 0
  have d1 := TB3.cell 1
  have d2 := TB3.cell 2
  simp at d0 d1 d2
  have bd : Below w3.heap.size w3 w3 := Below.refl _ _
  clear TB3 B2
  go_wp2_with fail
  go_region_held3 (fun w' => w'.cell? ⟨w2.heap.size, 0, none⟩ = some (.iface 84 (.agg #[])) ∧ w'.cell? ⟨w2.heap.size, 1, none⟩ = some (.bool b) ∧ w'.cell? ⟨w2.heap.size, 2, none⟩ = some (.int .i64 t)) (go_keep) (first
    | (go_at_call 30; (with_reducible refine (KT.out _ _).mono ?_); rintro e wX ⟨rfl, hR, BX⟩; have sX := BX.size; replace bd : Below w3.heap.size w3 wX := bel_then BX bd.size ⟨bd.os, bd.tape, bd.output, bd.size, bd.block⟩; have TBX := HTB.out.below bd (by omega); have d0 := TBX.cell 0; have d1 := TBX.cell 1; have d2 := TBX.cell 2; simp at d0 d1 d2; clear TBX BX)
    | (go_at_call 29; (with_reducible refine (KSY.out hR.out _).mono ?_); rintro e wY ⟨vY, rfl, oY, BY⟩; have szX : w3.heap.size ≤ wX.heap.size := bd.size; replace bd : Below w3.heap.size w3 wY := bel_then BY bd.size ⟨bd.os, bd.tape, bd.output, bd.size, bd.block⟩; have TBX := HTB.out.below bd (by omega); have d0 := TBX.cell 0; have d1 := TBX.cell 1; have d2 := TBX.cell 2; simp at d0 d1 d2; have HOY := hidden oY; clear TBX oY BY))
  all_goals
    go_wp2
    go_ret
    exact ⟨_, rfl, Joins.ownsRow_le HOY.out (by omega), B3.trans (Below.mono (show Below w3.heap.size w3 _ from ⟨bd.os, bd.tape, bd.output, bd.size, bd.block⟩) (by omega))⟩
set_option maxHeartbeats 4000000 in
set_option maxRecDepth 100000 in
theorem implStage_3 (s : ByteArray) (b : Bool) (w : World) (hs : 0 < s.size ∧ s.size ≤ 600) :
    Calls Tryz.prog 8 #[.string s, .agg #[.int .i64 3, .bool b, .int .i64 0]] w fun e w' => ∃ v, e = .returned v ∧ w'.ownsRow w.heap.size 3 1 v (stgZ s 3 b 0).length (intsV (stgZ s 3 b 0)) ∧ Below w.heap.size w w' := by
  have KO := hidden (fun W => isBlock_any s W (by omega))
  have KW := hidden (fun W => implWayOk_any 3 0 b W)
  have KM := hidden (fun W => methodOf_any 3 0 b W (by omega))
  have KT := hidden (fun (rc : Value) W => turn_any rc s b W (by omega))
  have hmv : methV 3 b 0 = .iface 59 (.agg #[.iface 85 (.agg #[]), .bool b]) := by simp [methV, recV]
  rw [hmv] at KM
  have a1 := as_counted_tabled
  have a2 := as_counted_counted
  have KSY := hidden (fun (h : Ranked (bytesOf s) (ordB (bytesOf s) b) ∨ ordB (bytesOf s) b = usedL (bytesOf s)) W => symbolsC s (strOf (usedL (bytesOf s))) (fstZ s) b (ordB (bytesOf s) b) (ordB (bytesOf s) b).length W hs (ord_ok (block_ne hs.1) (byt_bytesOf s) h).2.1 rfl (ord_ok (block_ne hs.1) (byt_bytesOf s) h).2.2.1 (ranks_ok hs h).1)
  rw [show wayOk 3 b 0 = true from (by simp [wayOk])] at KW
  rw [decide_eq_true hs] at KO
  have e5 := (stgZ_yes (m := 3) (b := b) (t := 0) hs (by simp [wayOk])).symm
  rw [e5] at KSY
  obtain ⟨Z, hZ⟩ : ∃ Z, stgZ s 3 b 0 = Z := ⟨_, rfl⟩
  rw [hZ] at KSY ⊢
  obtain ⟨z, hz⟩ : ∃ z, Z.length = z := ⟨_, rfl⟩
  rw [hz] at KSY ⊢
  obtain ⟨tv, htv⟩ : ∃ tv, turV s b = tv := ⟨_, rfl⟩
  rw [htv] at KT
  rw [show Value.agg #[.string (lstZ s), .int .i64 (fstZ s), .string (strOf (usedL (bytesOf s))), .string (strOf (ordB (bytesOf s) b))] = tv from htv] at KSY
  have ba : Below w.heap.size w (w.alloc (.cells #[.int .i64 3, .bool b, .int .i64 0] 26)) := (Below.refl _ _).alloc (Nat.le_refl _) _
  have hWb := Has.fresh w 26 #[.int .i64 3, .bool b, .int .i64 0]
  have c0 := hWb.cell 0
  have c1 := hWb.cell 1
  have c2 := hWb.cell 2
  simp at c0 c1 c2
  clear hmv e5 hZ hz htv
  go_enter Tryz.func8, Tryz.ntmps8
  go_wp2_with fail
  refine (KO.out _).mono ?_
  rintro e w0 ⟨rfl, rfl⟩
  go_wp2_with fail
  refine (KW.out _).mono ?_
  rintro e w1 ⟨rfl, b1⟩
  have B1 := bel_then b1 ba.size ba
  have H1 := hWb.below b1 (by simp)
  have s1 := B1.size
  have c0 := H1.cell 0
  have c1 := H1.cell 1
  have c2 := H1.cell 2
  simp at c0 c1 c2
  clear b1 hWb KO KW
  go_wp2_with fail
  refine (KM.out _).mono ?_
  rintro e w2 ⟨rfl, b2⟩
  have B2 := bel_then b2 s1 B1
  have s2 := b2.size
  clear b2 c0 c1 c2 H1 KM
  obtain ⟨w3, hw3⟩ : ∃ w3, w2.alloc (.cells #[.iface 85 (.agg #[]), .bool b] 59) = w3 := ⟨_, rfl⟩
  have s3 : w3.heap.size = w2.heap.size + 1 := by rw [← hw3]; simp
  have B3 : Below w.heap.size w w3 := by rw [← hw3]; exact B2.alloc (by omega) _
  have TB3 : Has w3 w2.heap.size 59 #[.iface 85 (.agg #[]), .bool b] := by rw [← hw3]; exact Has.fresh _ _ _
  have HTB := hidden TB3
  have d0 := TB3.cell 0
  have d1 := TB3.cell 1
  simp at d0 d1
  have bd : Below w3.heap.size w3 w3 := Below.refl _ _
  clear TB3 B2
  go_wp2_with fail
  go_region_held3 (fun w' => w'.cell? ⟨w2.heap.size, 0, none⟩ = some (.iface 85 (.agg #[])) ∧ w'.cell? ⟨w2.heap.size, 1, none⟩ = some (.bool b)) (go_keep) (first
    | (go_at_call 30; (with_reducible refine (KT.out _ _).mono ?_); rintro e wX ⟨rfl, hR, BX⟩; have sX := BX.size; replace bd : Below w3.heap.size w3 wX := bel_then BX bd.size ⟨bd.os, bd.tape, bd.output, bd.size, bd.block⟩; have TBX := HTB.out.below bd (by omega); have d0 := TBX.cell 0; have d1 := TBX.cell 1;  simp at d0 d1; clear TBX BX)
    | (go_at_call 31; (with_reducible refine (KSY.out hR.out _).mono ?_); rintro e wY ⟨vY, rfl, oY, BY⟩; have szX : w3.heap.size ≤ wX.heap.size := bd.size; replace bd : Below w3.heap.size w3 wY := bel_then BY bd.size ⟨bd.os, bd.tape, bd.output, bd.size, bd.block⟩; have TBX := HTB.out.below bd (by omega); have d0 := TBX.cell 0; have d1 := TBX.cell 1;  simp at d0 d1; have HOY := hidden oY; clear TBX oY BY))
  all_goals
    go_wp2
    go_ret
    exact ⟨_, rfl, Joins.ownsRow_le HOY.out (by omega), B3.trans (Below.mono (show Below w3.heap.size w3 _ from ⟨bd.os, bd.tape, bd.output, bd.size, bd.block⟩) (by omega))⟩
end Go.Proofs.YtembljihmnmmfaaGreat
