/- Merged: I8I. -/
import Derived.Test.YtaaahmfkdiogkaaQM26
import Derived.Stop.Asserts
namespace Go.Proofs.Ytaaahmfkdiogkaa
set_option linter.unusedVariables false
set_option linter.unusedSimpArgs false
open Go.RowKit

set_option maxHeartbeats 1000000 in
set_option maxRecDepth 100000 in
theorem encodedMtf_yes (a : Option Addr) (cap B m : Nat) (L : List Nat) (w : World) (hz : Ints w B a (ints L)) (hB : B ≤ w.heap.size) (hok : rOk (ints L) m = true) (hm2 : m ≤ 256) (hL6 : L.length ≤ 600) (hLm : ∀ x ∈ L, x < m) :
    Calls Try.prog 107 #[.iface 135 (.agg #[]), .slice a L.length cap, .int .i64 m] w fun e w' => ∃ g, e = .returned (.agg #[.slice none 0 0, .slice (some ⟨g, 0, none⟩) L.length L.length]) ∧ w'.ownsRow w.heap.size 3 1 (.slice (some ⟨g, 0, none⟩) L.length L.length) L.length (natsL (runF mtfF (List.range m) L)) ∧ Below w.heap.size w w' := by
  have bb : Below w.heap.size w (w.alloc (.cells #[.slice none 0 0, .slice none 0 0] 132)) := (Below.refl _ _).alloc (Nat.le_refl _) _
  have hR := Has.fresh w 132 #[.slice none 0 0, .slice none 0 0]
  have hz0 := hz.below (bb.mono hB)
  have hX : (w.alloc (.cells #[.slice none 0 0, .slice none 0 0] 132)).heap.size = w.heap.size + 1 := by simp
  have KR := hidden (implRanksOk_any a cap B (ints L) m _ hz0 (by rw [ints_len]; omega) (by omega) (by omega))
  rw [hok, ints_len] at KR
  have KE := hidden (mtfEncode_any (.agg #[]) a cap B m L _ rfl hz0 (by rw [hX]; omega) hm2 hL6 hLm)
  rw [hX] at KE
  have hme := mtf_meth (.agg #[])
  obtain ⟨n, hn⟩ : ∃ n, L.length = n := ⟨_, rfl⟩
  rw [hn] at KE KR ⊢
  clear hz hn hok hz0 hX
  go_enter Try.func107, Try.ntmps107
  go_wp2_with fail
  refine KR.out.mono ?_
  rintro e w1 ⟨rfl, rfl⟩
  go_wp2_with fail
  refine KE.out.mono ?_
  rintro e w2 ⟨g, rfl, hown, b2⟩
  have hgw := (hown.lt g rfl).1
  replace hR := hR.below b2 (by omega)
  replace bb := bb.trans (b2.mono (by omega))
  have HO := hidden (Joins.ownsRow_le hown (Nat.le_succ _))
  have e0 := hR.cell 0
  have e1 := hR.cell 1
  have g0 := hR.free 0
  have g1 := hR.free 1
  simp at e0 e1
  have hs2 := bb.size
  clear b2 hown
  go_wp2
  refine bodyPost_ret (v := .agg #[.slice none 0 0, .slice (some ⟨g, 0, none⟩) n n]) (by simp [results, Try.results107, go_sem, e0, e1, g0, g1]) rfl ⟨g, rfl, ?_, ?_⟩
  · exact ownsRow_setCell_other (ownsRow_setCell_other HO.out (by simp [Value.ownBlock]; omega) _) (by simp [Value.ownBlock]; omega) _
  · exact (bb.setCell (by simp) _).setCell (by simp) _
set_option maxHeartbeats 1000000 in
set_option maxRecDepth 100000 in
theorem encodedMtf_no (v : Value) (a : Option Addr) (cap B : Nat) (z : List Int) (m : Int) (w : World) (hz : Ints w B a z) (hB : B ≤ w.heap.size) (hl : z.length ≤ 1048576) (n1 : -9223372036854775808 ≤ m) (n2 : m ≤ 9223372036854775807) (hno : rOk z m = false) :
    Calls Try.prog 107 #[v, .slice a z.length cap, .int .i64 m] w fun e w' => e = .returned (.agg #[.slice none 0 0, .slice none 0 0]) ∧ Below w.heap.size w w' := by
  have bb : Below w.heap.size w (w.alloc (.cells #[.slice none 0 0, .slice none 0 0] 132)) := (Below.refl _ _).alloc (Nat.le_refl _) _
  have hR := Has.fresh w 132 #[.slice none 0 0, .slice none 0 0]
  have KR := hidden (implRanksOk_any a cap B z m _ (hz.below (bb.mono hB)) hl n1 n2)
  rw [hno] at KR
  obtain ⟨n, hn⟩ : ∃ n, z.length = n := ⟨_, rfl⟩
  rw [hn] at KR ⊢
  have e0 := hR.cell 0
  have e1 := hR.cell 1
  have g0 := hR.free 0
  have g1 := hR.free 1
  simp at e0 e1
  clear hz hn hno
  go_enter Try.func107, Try.ntmps107
  go_wp2_with fail
  refine KR.out.mono ?_
  rintro e w1 ⟨rfl, rfl⟩
  clear hR
  go_wp2
  refine bodyPost_ret (v := .agg #[.slice none 0 0, .slice none 0 0]) (by simp [results, Try.results107, go_sem, e0, e1, g0, g1]) rfl ⟨rfl, ?_⟩
  repeat (first | exact Below.refl _ _ | assumption | refine Below.alloc ?_ (by (try simp); (try omega)) _ | refine Below.setCell ?_ (by (try simp); (try omega)) _ | refine Below.drew ?_ | refine bel_then (by assumption) (by (try simp); (try omega)) ?_)
theorem mtf_dmeth (v : Value) (w : World) : (Go.method 305 135 v "loop.example/g00674/impl.decode").run Try.prog w = .ok (165, v) w := by kernel_rfl
set_option maxHeartbeats 1000000 in
set_option maxRecDepth 100000 in
theorem decodedMtf_yes (a : Option Addr) (cap B m : Nat) (L : List Nat) (w : World) (hz : Ints w B a (ints L)) (hB : B ≤ w.heap.size) (hok : rOk (ints L) m = true) (hm2 : m ≤ 256) (hL6 : L.length ≤ 600) (hLm : ∀ x ∈ L, x < m) :
    Calls Try.prog 112 #[.iface 135 (.agg #[]), .agg #[.slice none 0 0, .slice a L.length cap], .int .i64 m] w fun e w' => ∃ g, e = .returned (.tuple #[.slice (some ⟨g, 0, none⟩) L.length L.length, .bool true]) ∧ w'.ownsRow w.heap.size 3 1 (.slice (some ⟨g, 0, none⟩) L.length L.length) L.length (natsL (runF umtF (List.range m) L)) ∧ Below w.heap.size w w' := by
  have bb : Below w.heap.size w (w.alloc (.cells #[.slice none 0 0, .slice a L.length cap] 132)) := (Below.refl _ _).alloc (Nat.le_refl _) _
  have hR := Has.fresh w 132 #[.slice none 0 0, .slice a L.length cap]
  have hX : (w.alloc (.cells #[.slice none 0 0, .slice a L.length cap] 132)).heap.size = w.heap.size + 1 := by simp
  have KE := hidden (mtfDecode_yes (.agg #[]) a cap B m L _ rfl (hz.below (bb.mono hB)) (by rw [hX]; omega) hok hm2 hL6 hLm)
  rw [hX] at KE
  have hme := mtf_dmeth (.agg #[])
  obtain ⟨n, hn⟩ : ∃ n, L.length = n := ⟨_, rfl⟩
  rw [hn] at KE hR bb ⊢
  have e0 := hR.cell 0
  have e1 := hR.cell 1
  simp at e0 e1
  clear hz hn hok hX hR
  go_enter Try.func112, Try.ntmps112
  go_wp2_with fail
  refine KE.out.mono ?_
  rintro e w2 ⟨g, rfl, hown, b2⟩
  have HO := hidden (Joins.ownsRow_le hown (Nat.le_succ _))
  replace bb := bb.trans (b2.mono (by omega))
  clear b2 hown
  go_wp2
  go_ret2
  exact ⟨g, rfl, HO.out, bb⟩
set_option maxHeartbeats 1000000 in
set_option maxRecDepth 100000 in
theorem decodedMtf_no (a : Option Addr) (cap B : Nat) (z : List Int) (m : Int) (w : World) (hz : Ints w B a z) (hB : B ≤ w.heap.size) (hl : z.length ≤ 1048576) (n1 : -9223372036854775808 ≤ m) (n2 : m ≤ 9223372036854775807) (hno : rOk z m = false) :
    Calls Try.prog 112 #[.iface 135 (.agg #[]), .agg #[.slice none 0 0, .slice a z.length cap], .int .i64 m] w fun e w' => e = .returned (.tuple #[.slice none 0 0, .bool false]) ∧ Below w.heap.size w w' := by
  have bb : Below w.heap.size w (w.alloc (.cells #[.slice none 0 0, .slice a z.length cap] 132)) := (Below.refl _ _).alloc (Nat.le_refl _) _
  have hR := Has.fresh w 132 #[.slice none 0 0, .slice a z.length cap]
  have hX : (w.alloc (.cells #[.slice none 0 0, .slice a z.length cap] 132)).heap.size = w.heap.size + 1 := by simp
  have KE := hidden (mtfDecode_no (.agg #[]) a cap B z m _ rfl (hz.below (bb.mono hB)) (by rw [hX]; omega) hl n1 n2 hno)
  rw [hX] at KE
  have hme := mtf_dmeth (.agg #[])
  obtain ⟨n, hn⟩ : ∃ n, z.length = n := ⟨_, rfl⟩
  rw [hn] at KE hR bb ⊢
  have e0 := hR.cell 0
  have e1 := hR.cell 1
  simp at e0 e1
  clear hz hn hno hX hR
  go_enter Try.func112, Try.ntmps112
  go_wp2_with fail
  refine KE.out.mono ?_
  rintro e w2 ⟨rfl, b2⟩
  replace bb := bb.trans (b2.mono (by omega))
  clear b2
  go_wp2
  go_ret2
  exact ⟨rfl, bb⟩
theorem field8_1 (u v : Value) (W : World) : (Instr.field 132 (.agg #[u, v]) 1).run Try.prog W = .ok v W := by kernel_rfl
theorem field8_0 (u v : Value) (W : World) : (Instr.field 132 (.agg #[u, v]) 0).run Try.prog W = .ok u W := by kernel_rfl
set_option maxHeartbeats 1000000 in
set_option maxRecDepth 100000 in
theorem implMtf_any (a : Option Addr) (cap B : Nat) (z : List Int) (n : Int) (w : World) (hz : Ints w B a z) (hB : B ≤ w.heap.size) (hl : z.length ≤ 1048576) (n1 : -9223372036854775808 ≤ n) (n2 : n ≤ 9223372036854775807) :
    Calls Try.prog 70 #[.slice a z.length cap, .int .i64 n] w fun e w' => ∃ v, e = .returned v ∧ w'.ownsRow w.heap.size 3 1 v (mtfZ z n).length (intsV (mtfZ z n)) ∧ Below w.heap.size w w' := by
  by_cases hok : rOk z n = true
  · obtain ⟨L, m, rfl, rfl, hm1, hm2, hL6, hLm⟩ := rOk_nats hok
    rw [mtfZ_yes hok, intsV_ints, ints_len, ints_len, runF_len]
    have KE := hidden (encodedMtf_yes a cap B m L w hz hB hok hm2 hL6 hLm)
    obtain ⟨q, hq⟩ : ∃ q, L.length = q := ⟨_, rfl⟩
    rw [hq] at KE ⊢
    clear hz hok hq
    have hfd := field8_1
    go_enter Try.func70, Try.ntmps70
    go_wp2_with fail
    refine KE.out.mono ?_
    rintro e w2 ⟨g, rfl, hown, b2⟩
    go_wp2
    go_ret
    exact ⟨_, rfl, hown, b2⟩
  · have hno := bool_false hok
    have KE := hidden (encodedMtf_no (.iface 135 (.agg #[])) a cap B z n w hz hB hl n1 n2 hno)
    rw [mtfZ_no hno]
    clear hz hok hno
    have hfd := field8_1
    go_enter Try.func70, Try.ntmps70
    go_wp2_with fail
    refine KE.out.mono ?_
    rintro e w2 ⟨rfl, b2⟩
    go_wp2
    go_ret
    exact ⟨_, rfl, World.ownsRow_nil _ _ _ _, b2⟩
set_option maxHeartbeats 1000000 in
set_option maxRecDepth 100000 in
theorem implUnMtf_any (a : Option Addr) (cap B : Nat) (z : List Int) (n : Int) (w : World) (hz : Ints w B a z) (hB : B ≤ w.heap.size) (hl : z.length ≤ 1048576) (n1 : -9223372036854775808 ≤ n) (n2 : n ≤ 9223372036854775807) :
    Calls Try.prog 77 #[.slice a z.length cap, .int .i64 n] w fun e w' => ∃ v, e = .returned v ∧ w'.ownsRow w.heap.size 3 1 v (umtZ z n).length (intsV (umtZ z n)) ∧ Below w.heap.size w w' := by
  by_cases hok : rOk z n = true
  · obtain ⟨L, m, rfl, rfl, hm1, hm2, hL6, hLm⟩ := rOk_nats hok
    rw [umtZ_yes hok, intsV_ints, ints_len, ints_len, runF_len]
    have KE := hidden (decodedMtf_yes a cap B m L w hz hB hok hm2 hL6 hLm)
    obtain ⟨q, hq⟩ : ∃ q, L.length = q := ⟨_, rfl⟩
    rw [hq] at KE ⊢
    clear hz hok hq
    go_enter Try.func77, Try.ntmps77
    go_wp2_with fail
    refine KE.out.mono ?_
    rintro e w2 ⟨g, rfl, hown, b2⟩
    go_wp2
    go_ret
    exact ⟨_, rfl, hown, b2⟩
  · have hno := bool_false hok
    have KE := hidden (decodedMtf_no a cap B z n w hz hB hl n1 n2 hno)
    rw [umtZ_no hno]
    clear hz hok hno
    go_enter Try.func77, Try.ntmps77
    go_wp2_with fail
    refine KE.out.mono ?_
    rintro e w2 ⟨rfl, b2⟩
    go_wp2
    go_ret
    exact ⟨_, rfl, World.ownsRow_nil _ _ _ _, b2⟩
end Go.Proofs.Ytaaahmfkdiogkaa
