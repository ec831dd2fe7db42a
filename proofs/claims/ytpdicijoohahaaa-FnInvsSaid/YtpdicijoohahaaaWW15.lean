/- Merged: I8H. -/
import Derived.Test.YtpdicijoohahaaaWW12
import Derived.Deep.RegionHeld3
namespace Go.Proofs.Ytpdicijoohahaaa
set_option linter.unusedVariables false
set_option linter.unusedSimpArgs false
open Go.RowKit

set_option maxHeartbeats 1000000 in
set_option maxRecDepth 100000 in
theorem implRanksOk_any (a : Option Addr) (cap B : Nat) (z : List Int) (n : Int) (w : World) (hz : Ints w B a z) (hl : z.length ≤ 1048576) (n1 : -9223372036854775808 ≤ n) (n2 : n ≤ 9223372036854775807) :
    Calls Try.prog 33 #[.slice a z.length cap, .int .i64 n] w fun e w' => e = .returned (.bool (rOk z n)) ∧ w = w' := by
  have HIT := hidden (rOk_iff z n)
  obtain ⟨m, hm⟩ : ∃ m, z.length = m := ⟨_, rfl⟩
  have HN := hidden hm
  have HZ := hidden hz
  rw [hm] at hl ⊢
  clear hm hz
  by_cases h1 : n < 1
  · have HF : Hid (rOk z n = false) := hidden (bool_false (fun h => by have := HIT.out.1 h; omega))
    go_enter Try.func33, Try.ntmps33
    go_wp2
    go_ret
    exact ⟨ret_bool HF.out.symm, rfl⟩
  · by_cases h2 : (256 : Int) < n
    · have HF : Hid (rOk z n = false) := hidden (bool_false (fun h => by have := HIT.out.1 h; omega))
      go_enter Try.func33, Try.ntmps33
      go_wp2
      go_ret
      exact ⟨ret_bool HF.out.symm, rfl⟩
    · by_cases h3 : (600 : Int) < m
      · have HF : Hid (rOk z n = false) := hidden (bool_false (fun h => by have := (HIT.out.1 h).2.2.1; rw [HN.out] at this; omega))
        go_enter Try.func33, Try.ntmps33
        go_wp2
        go_ret
        exact ⟨ret_bool HF.out.symm, rfl⟩
      · go_enter Try.func33, Try.ntmps33
        go_wp2
        go_loopw [6, 20] (fun _ sk wr => ∃ k : Nat, k ≤ m ∧ sk = .int .i64 k ∧ Hid (∀ j, j < k → 0 ≤ z.getD j 0 ∧ z.getD j 0 < n) ∧ w = wr) (fun _ sk _ => m - (intOf sk).toNat)
        case atStart => exact ⟨0, by omega, rfl, hidden (fun j hj => by omega), by first | trivial | rfl⟩
        case round =>
          obtain ⟨k, hk, rfl, HA, rfl⟩ := hrel
          by_cases hlt : k < m
          · obtain ⟨b, off, rfl, hb, hc⟩ := HZ.out.2.2 (by rw [HN.out]; omega)
            have ck := hc k (by rw [HN.out]; exact hlt)
            have HMK : Hid (z.getD k 0 ∈ z) := hidden (getD_mem (by rw [HN.out]; exact hlt))
            obtain ⟨x, hx⟩ : ∃ x, z.getD k 0 = x := ⟨_, rfl⟩
            rw [hx] at ck HMK
            have HX := hidden hx
            clear hx hc
            by_cases hx0 : x < 0
            · have HF : Hid (rOk z n = false) := hidden (bool_false (fun h => by have := (HIT.out.1 h).2.2.2 x HMK.out; omega))
              go_wp2
              go_ret
              exact ⟨ret_bool HF.out.symm, rfl⟩
            · by_cases hxn : n ≤ x
              · have HF : Hid (rOk z n = false) := hidden (bool_false (fun h => by have := (HIT.out.1 h).2.2.2 x HMK.out; omega))
                go_wp2
                go_ret
                exact ⟨ret_bool HF.out.symm, rfl⟩
              · have HA2 : Hid (∀ j, j < k + 1 → 0 ≤ z.getD j 0 ∧ z.getD j 0 < n) := hidden (fun j hj => by
                  rcases Nat.lt_or_ge j k with h | h
                  · exact HA.out j h
                  · rw [show j = k by omega, HX.out]; omega)
                go_wp2
                go_roundw
                case rel => exact ⟨k + 1, by omega, by go_num, HA2, by first | trivial | rfl⟩
                case measure => simp [intOf]; omega
          · have hkm : k = m := by omega
            subst hkm
            have HT : Hid (rOk z n = true) := hidden (HIT.out.2 ⟨by omega, by omega, by rw [HN.out]; omega, fun x hx => by
              obtain ⟨j, hj, rfl⟩ := mem_getD hx
              exact HA.out j (by rw [← HN.out]; exact hj)⟩)
            go_wp2
            go_ret
            exact ⟨ret_bool HT.out.symm, rfl⟩
theorem mtf_meth (v : Value) (w : World) : (Go.method 224 59 v "loop.example/g00674/impl.encode").run Try.prog w = .ok (94, v) w := by kernel_rfl
theorem frontListOf_at (n : Nat) (w : World) (hn : n ≤ 256) (g : Nat) (hg : w.heap.size = g) :
    Calls Try.prog 96 #[.int .i64 n] w fun e w' => e = .returned (.pointer (some ⟨g, 0, none⟩)) ∧ FL w' g w'.heap.size g (List.range n) ∧ Below g w w' := by
  subst hg
  exact frontListOf_any n w hn
theorem cf_rankOf (args : Array Value) (W : World) : (callFunc 98 args).run Try.prog W = .ok (.enter 98 args) W := by kernel_rfl
theorem cf_symbolAt (args : Array Value) (W : World) : (callFunc 97 args).run Try.prog W = .ok (.enter 97 args) W := by kernel_rfl
set_option maxHeartbeats 1000000 in
set_option maxRecDepth 100000 in
theorem mtfEncode_any (r0 : Value) (a : Option Addr) (cap B m : Nat) (L : List Nat) (w : World) (hr0 : r0 = .agg #[]) (hz : Ints w B a (ints L)) (hB : B ≤ w.heap.size) (hm2 : m ≤ 256) (hL6 : L.length ≤ 600) (hLm : ∀ x ∈ L, x < m) :
    Calls Try.prog 94 #[r0, .slice a L.length cap, .int .i64 m] w fun e w' => ∃ g, e = .returned (.agg #[.slice none 0 0, .slice (some ⟨g, 0, none⟩) L.length L.length]) ∧ w'.ownsRow w.heap.size 3 1 (.slice (some ⟨g, 0, none⟩) L.length L.length) L.length (natsL (runF mtfF (List.range m) L)) ∧ Below w.heap.size w w' := by
  subst hr0
  have bb : Below w.heap.size w ((w.alloc (.cells #[] 59)).alloc (.cells #[.slice none 0 0, .slice none 0 0] 54)) := ((Below.refl _ _).alloc (Nat.le_refl _) _).alloc (by simp) _
  have hR := Has.freshAt (w := w.alloc (.cells #[] 59)) (g := w.heap.size + 1) (by simp) 54 #[.slice none 0 0, .slice none 0 0]
  have hX : ((w.alloc (.cells #[] 59)).alloc (.cells #[.slice none 0 0, .slice none 0 0] 54)).heap.size = w.heap.size + 2 := by simp
  have HZ := hidden hz
  have KF := hidden (fun (W : World) (g : Nat) (hg : W.heap.size = g) => frontListOf_at m W hm2 g hg)
  have HP := hidden (PermN.start m)
  obtain ⟨n, hn⟩ : ∃ n, L.length = n := ⟨_, rfl⟩
  have KE := hidden (fun (h base E : Nat) (W : World) hz' hB' hbE hE h0 => each_any 98 (.pointer (some ⟨h, 0, none⟩)) (fun W s => FL W base E h s ∧ PermN m s) mtfF base E B a cap L W (List.range m) hz' hB' hbE hE hL6 h0 cf_rankOf
    (fun W W' s hs hk => ⟨hs.1.keep hk, hs.2⟩) (fun W s x hs hx => (rankOf_any base E h m x s W hs.1 hs.2 hm2 (hLm x hx)).mono fun e W' q => ⟨q.1, ⟨q.2.1, hs.2.front (hs.2.idx (hLm x hx))⟩, q.2.2⟩))
  rw [hn] at KE ⊢
  clear hz hn
  go_enter Try.func94, Try.ntmps94
  go_wp2_with fail
  refine (KF.out _ (w.heap.size + 2) hX).mono ?_
  rintro e w1 ⟨rfl, hF1, b1⟩
  have s1 : w.heap.size + 2 ≤ w1.heap.size := by rw [← hX]; exact b1.size
  replace bb := bb.trans (b1.mono (by omega))
  replace hR := hR.below b1 (by omega)
  have hz1 := HZ.out.below (bb.mono hB)
  have K2 := hidden (KE.out (w.heap.size + 2) (w.heap.size + 2) w1.heap.size w1 hz1 (by omega) s1 (Nat.le_refl _) ⟨hF1, HP.out⟩)
  clear hF1 b1 hz1 hX
  go_wp2_with fail
  refine K2.out.mono ?_
  rintro e w2 ⟨g, rfl, hown, b2⟩
  have hs1 : w.heap.size ≤ w1.heap.size := bb.size
  replace bb := bb.trans (b2.mono (by omega))
  replace hR := hR.below b2 (by omega)
  have HO := hidden (Joins.ownsRow_le hown hs1)
  have hgw := (hown.lt g rfl).1
  have e0 := hR.cell 0
  have e1 := hR.cell 1
  have g0 := hR.free 0
  have g1 := hR.free 1
  simp at e0 e1
  have hs2 := bb.size
  clear b2 hown
  go_wp2
  refine bodyPost_ret (v := .agg #[.slice none 0 0, .slice (some ⟨g, 0, none⟩) n n]) (by simp [results, Try.results94, go_sem, e0, e1, g0, g1]) rfl ⟨g, rfl, ?_, ?_⟩
  · exact ownsRow_setCell_other (ownsRow_setCell_other HO.out (by simp [Value.ownBlock]; omega) _) (by simp [Value.ownBlock]; omega) _
  · exact (bb.setCell (by simp) _).setCell (by simp) _
set_option maxHeartbeats 1000000 in
set_option maxRecDepth 100000 in
theorem mtfDecode_no (r0 : Value) (a : Option Addr) (cap B : Nat) (z : List Int) (m : Int) (w : World) (hr0 : r0 = .agg #[]) (hz : Ints w B a z) (hB : B ≤ w.heap.size) (hl : z.length ≤ 1048576) (n1 : -9223372036854775808 ≤ m) (n2 : m ≤ 9223372036854775807) (hno : rOk z m = false) :
    Calls Try.prog 93 #[r0, .agg #[.slice none 0 0, .slice a z.length cap], .int .i64 m] w fun e w' => e = .returned (.tuple #[.slice none 0 0, .bool false]) ∧ Below w.heap.size w w' := by
  subst hr0
  have bb : Below w.heap.size w ((w.alloc (.cells #[] 59)).alloc (.cells #[.slice none 0 0, .slice a z.length cap] 54)) := ((Below.refl _ _).alloc (Nat.le_refl _) _).alloc (by simp) _
  have KR := hidden (fun W hz' => implRanksOk_any a cap B z m W hz' hl n1 n2)
  rw [hno] at KR
  have HZ := hidden (hz.below (bb.mono hB))
  obtain ⟨n, hn⟩ : ∃ n, z.length = n := ⟨_, rfl⟩
  rw [hn] at KR HZ bb ⊢
  clear hz hn hno
  go_enter Try.func93, Try.ntmps93
  go_wp2_with fail
  refine (KR.out _ HZ.out).mono ?_
  rintro e w1 ⟨rfl, rfl⟩
  go_wp2
  go_ret2
  exact ⟨rfl, bb⟩
set_option maxHeartbeats 1000000 in
set_option maxRecDepth 100000 in
theorem mtfDecode_yes (r0 : Value) (a : Option Addr) (cap B m : Nat) (L : List Nat) (w : World) (hr0 : r0 = .agg #[]) (hz : Ints w B a (ints L)) (hB : B ≤ w.heap.size) (hok : rOk (ints L) m = true) (hm2 : m ≤ 256) (hL6 : L.length ≤ 600) (hLm : ∀ x ∈ L, x < m) :
    Calls Try.prog 93 #[r0, .agg #[.slice none 0 0, .slice a L.length cap], .int .i64 m] w fun e w' => ∃ g, e = .returned (.tuple #[.slice (some ⟨g, 0, none⟩) L.length L.length, .bool true]) ∧ w'.ownsRow w.heap.size 3 1 (.slice (some ⟨g, 0, none⟩) L.length L.length) L.length (natsL (runF umtF (List.range m) L)) ∧ Below w.heap.size w w' := by
  subst hr0
  have bb : Below w.heap.size w ((w.alloc (.cells #[] 59)).alloc (.cells #[.slice none 0 0, .slice a L.length cap] 54)) := ((Below.refl _ _).alloc (Nat.le_refl _) _).alloc (by simp) _
  have hX : ((w.alloc (.cells #[] 59)).alloc (.cells #[.slice none 0 0, .slice a L.length cap] 54)).drew.heap.size = w.heap.size + 2 := by simp
  have KR := hidden (fun W hz' => implRanksOk_any a cap B (ints L) m W hz' (by rw [ints_len]; omega) (by omega) (by omega))
  rw [hok, ints_len] at KR
  have HZ := hidden hz
  have HZ0 := hidden (hz.below (bb.mono hB))
  have KF := hidden (fun (W : World) (g : Nat) (hg : W.heap.size = g) => frontListOf_at m W hm2 g hg)
  have HP := hidden (PermN.start m)
  obtain ⟨n, hn⟩ : ∃ n, L.length = n := ⟨_, rfl⟩
  have KE := hidden (fun (h base E : Nat) (W : World) hz' hB' hbE hE h0 => each_any 97 (.pointer (some ⟨h, 0, none⟩)) (fun W s => FL W base E h s ∧ PermN m s) umtF base E B a cap L W (List.range m) hz' hB' hbE hE hL6 h0 cf_symbolAt
    (fun W W' s hs hk => ⟨hs.1.keep hk, hs.2⟩) (fun W s x hs hx => (symbolAt_any base E h m x s W hs.1 hs.2 hm2 (hLm x hx)).mono fun e W' q => ⟨q.1, ⟨q.2.1, hs.2.front (hLm x hx)⟩, q.2.2⟩))
  rw [hn] at KE KR HZ0 bb hX ⊢
  clear hz hn hok
  go_enter Try.func93, Try.ntmps93
  go_wp2_with fail
  refine (KR.out _ HZ0.out).mono ?_
  rintro e w1 ⟨rfl, rfl⟩
  have hc1 : ((w.alloc (.cells #[] 59)).alloc (.cells #[.slice none 0 0, .slice a n cap] 54)).cell? ⟨w.heap.size + 1, 1, none⟩ = some (.slice a n cap) := (Has.freshAt (w := w.alloc (.cells #[] 59)) (g := w.heap.size + 1) (by simp) _ _).cell 1
  clear HZ0
  go_wp2
  have hle2 : w.heap.size ≤ w.heap.size + 2 := Nat.le_add_right _ _
  have hlt2 : w.heap.size + 1 < w.heap.size + 2 := Nat.lt_succ_self _
  go_region_held3 (fun w' => w'.cell? ⟨w.heap.size + 1, 1, none⟩ = some (.slice a n cap)) (go_keep) (first | (go_at_call 96; refine (KF.out _ (w.heap.size + 2) ?hg).mono ?_; (case hg => first | exact hX | simp); rintro e w2 ⟨rfl, hF1, b1⟩; have s1 : w.heap.size + 2 ≤ w2.heap.size := Nat.le_trans (Nat.le_of_eq hX.symm) b1.size; have ec2 : w2.cell? ⟨w.heap.size + 1, 1, none⟩ = some (.slice a n cap) := (b1.cell (p := ⟨w.heap.size + 1, 1, none⟩) hlt2).trans hc1; have bm := b1.mono hle2; replace bb : Below w.heap.size w w2 := ⟨bm.os.trans bb.os, bm.tape.trans bb.tape, bm.output.trans bb.output, Nat.le_trans bb.size bm.size, fun i hi => (bm.block i hi).trans (bb.block i hi)⟩; have hz1 := HZ.out.below (bb.mono hB); have K2 := hidden (KE.out (w.heap.size + 2) (w.heap.size + 2) w2.heap.size w2 hz1 (Nat.le_trans hB hle2) s1 (Nat.le_refl _) ⟨hF1, HP.out⟩); clear hF1 b1 hz1 hX bm) | (go_at_call 95; refine K2.out.mono ?_; rintro e w3 ⟨g, rfl, hown, b2⟩; have hs1 : w.heap.size ≤ w2.heap.size := bb.size; have ec3 : w3.cell? ⟨w.heap.size + 1, 1, none⟩ = some (.slice a n cap) := (b2.cell (p := ⟨w.heap.size + 1, 1, none⟩) hlt2).trans ec2; have bm2 := b2.mono hle2; replace bb := bb.trans bm2; have HO := hidden (Joins.ownsRow_le hown hs1); clear b2 hown bm2))
  all_goals
    go_wp2
    go_ret2
    exact ⟨g, rfl, HO.out, bb⟩
end Go.Proofs.Ytpdicijoohahaaa
