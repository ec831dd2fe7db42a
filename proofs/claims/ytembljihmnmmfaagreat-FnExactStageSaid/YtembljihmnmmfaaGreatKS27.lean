/- Texts of the proof, merged. -/
import Derived.BigQuiet
import Derived.Deep.RegionHeld3
import Derived.Deep.QuietTactic
import Derived.RegionTactic
import Derived.ChangeAlike
import Derived.Maps.AppendAt
import Derived.OwnWalk
import Derived.Test.YtembljihmnmmfaaGreatKS13
import Derived.Test.YtembljihmnmmfaaGreatKS5
import Derived.Test.YtembljihmnmmfaaGreatKS22
import Derived.Deep.LoopGhost
import Derived.Test.YtembljihmnmmfaaGreatKS12
import Derived.Test.YtembljihmnmmfaaGreatKS1
import Derived.Test.YtembljihmnmmfaaGreatKS4
namespace Go.Proofs.YtembljihmnmmfaaGreat
set_option linter.unusedVariables false
set_option linter.unusedSimpArgs false
open Go.RowKit

/-- A slice of ints, as a value. -/
def IntsV (w : World) (B : Nat) (v : Value) (z : List Int) : Prop := ∃ a c, v = .slice a z.length c ∧ z.length ≤ c ∧ Ints w B a z
/-- The tables T of a slice that lies at a, with all that they hold, in blocks below B. -/
def Tabs (w : World) (B : Nat) (a : Option Addr) (T : List (List Int)) : Prop :=
  T.length ≤ 140737488355328 ∧ (0 < T.length → ∃ b off, a = some ⟨b, off, none⟩ ∧ b < B ∧ ∀ i, i < T.length → ∃ v, w.cell? ⟨b, off + i, none⟩ = some v ∧ IntsV w B v (T.getD i []))
theorem IntsV.below {w w' : World} {B : Nat} {v : Value} {z : List Int} (h : IntsV w B v z) (hb : Below B w w') : IntsV w' B v z := by
  obtain ⟨a, c, e, hc, hz⟩ := h
  exact ⟨a, c, e, hc, hz.below hb⟩
theorem IntsV.mono {w : World} {B B' : Nat} {v : Value} {z : List Int} (h : IntsV w B v z) (hB : B ≤ B') : IntsV w B' v z := by
  obtain ⟨a, c, e, hc, hz⟩ := h
  exact ⟨a, c, e, hc, hz.mono hB⟩
theorem Tabs.below {w w' : World} {B : Nat} {a : Option Addr} {T : List (List Int)} (h : Tabs w B a T) (hb : Below B w w') : Tabs w' B a T :=
  ⟨h.1, fun h0 => by
    obtain ⟨b, off, e, hB, hc⟩ := h.2 h0
    refine ⟨b, off, e, hB, fun i hi => ?_⟩
    obtain ⟨v, hv, hz⟩ := hc i hi
    exact ⟨v, (hb.cell (p := ⟨b, off + i, none⟩) hB).trans hv, hz.below hb⟩⟩
theorem Tabs.mono {w : World} {B B' : Nat} {a : Option Addr} {T : List (List Int)} (h : Tabs w B a T) (hB : B ≤ B') : Tabs w B' a T :=
  ⟨h.1, fun h0 => by
    obtain ⟨b, off, e, hb, hc⟩ := h.2 h0
    refine ⟨b, off, e, by omega, fun i hi => ?_⟩
    obtain ⟨v, hv, hz⟩ := hc i hi
    exact ⟨v, hv, hz.mono hB⟩⟩
/-- Table i, read. -/
theorem Tabs.at {w : World} {B : Nat} {a : Option Addr} {T : List (List Int)} (h : Tabs w B a T) {i : Nat} (hi : i < T.length) : ∃ b off a2 c2, a = some ⟨b, off, none⟩ ∧ b < B ∧ w.cell? ⟨b, off + i, none⟩ = some (.slice a2 (T.getD i []).length c2) ∧ (T.getD i []).length ≤ c2 ∧ Ints w B a2 (T.getD i []) := by
  obtain ⟨b, off, e, hb, hc⟩ := h.2 (by omega)
  obtain ⟨v, hv, a2, c2, rfl, h1, h2⟩ := hc i hi
  exact ⟨b, off, a2, c2, e, hb, hv, h1, h2⟩
end Go.Proofs.YtembljihmnmmfaaGreat
namespace Go.Proofs.YtembljihmnmmfaaGreat
set_option linter.unusedVariables false
set_option linter.unusedSimpArgs false
open Go.RowKit

/-- The cells V hold rows of one's own, the tables T. -/
def RowsAt (w : World) (base : Nat) (V : List Value) (T : List (List Int)) : Prop := V.length = T.length ∧ ∀ j, j < T.length → w.ownsRow base 3 1 (V.getD j undef) (T.getD j []).length (intsV (T.getD j []))
theorem RowsAt.nil (w : World) (base : Nat) : RowsAt w base [] [] := ⟨rfl, fun j h => by simp at h⟩
theorem RowsAt.below {w w' : World} {base : Nat} {V : List Value} {T : List (List Int)} (h : RowsAt w base V T) (hb : Below w.heap.size w w') : RowsAt w' base V T :=
  ⟨h.1, fun j hj => own_bel (h.2 j hj) hb⟩
theorem own_grown12 {w w' : World} {base size n : Nat} {e : TypeId} {v : Value} {xs : List Value} {row : Option Nat} (h : w.ownsRow base e size v n xs) (hg : w.grownBy w' row) (hne : ∀ g, v.ownBlock = some g → row ≠ some g) : w'.ownsRow base e size v n xs := by
  refine ⟨h.1, h.2.imp id ?_⟩
  rintro ⟨g, cap, cur, rfl, hb, hc, hr⟩
  have hlt : g < w.heap.size := (Array.getElem?_eq_some_iff.1 hc).1
  exact ⟨g, cap, cur, rfl, hb, (hg.block g hlt (fun e => hne g rfl e.symm)).trans hc, hr⟩
/-- Appending to a row of tables leaves the tables as they are. -/
theorem RowsAt.grown {w w' : World} {base b2 n : Nat} {V xs : List Value} {T : List (List Int)} {vo : Value} (h : RowsAt w base V T) (hown : w.ownsRow b2 99 1 vo n xs) (hg : w.grownBy w' vo.ownBlock) : RowsAt w' base V T :=
  ⟨h.1, fun j hj => own_grown12 (h.2 j hj) hg (fun g h1 => own_types (h.2 j hj) hown (by decide) h1)⟩
/-- The rows V lie apart from one another. -/
def ApartV (V : List Value) : Prop := ∀ i j, i < j → j < V.length → (V.getD i undef).ownBlock = none ∨ (V.getD i undef).ownBlock ≠ (V.getD j undef).ownBlock
theorem ApartV.nil : ApartV [] := fun i j _ h => by cases h
/-- A row made behind others lies apart from them. -/
theorem apart_new12 {w w' : World} {b1 s1 s2 n1 n2 : Nat} {e1 e2 : TypeId} {v1 v2 : Value} {xs ys : List Value} (h : w.ownsRow b1 e1 s1 v1 n1 xs) (h' : w'.ownsRow w.heap.size e2 s2 v2 n2 ys) : v1.ownBlock = none ∨ v1.ownBlock ≠ v2.ownBlock := by
  cases e : v1.ownBlock with
  | none => exact .inl rfl
  | some g =>
    refine .inr fun e2 => ?_
    have := (h.lt g e).2
    have := (h'.lt g e2.symm).1
    omega
theorem own_base12 {w : World} {base base' : Nat} {e : TypeId} {size : Nat} {v : Value} {n : Nat} {xs : List Value} (h : w.ownsRow base e size v n xs) (hb : base' ≤ base) : w.ownsRow base' e size v n xs :=
  ⟨h.1, h.2.imp id fun ⟨g, cap, cur, a, b, c⟩ => ⟨g, cap, cur, a, Nat.le_trans hb b, c⟩⟩
end Go.Proofs.YtembljihmnmmfaaGreat
namespace Go.Proofs.YtembljihmnmmfaaGreat
set_option linter.unusedVariables false
set_option linter.unusedSimpArgs false
open Go.RowKit

theorem own_len12 {w : World} {base n c : Nat} {e : TypeId} {a : Option Addr} {xs : List Value} (h : w.ownsRow base e 1 (.slice a n c) n xs) : n ≤ c := by
  rcases h.2 with ⟨hv, h0⟩ | ⟨g, cap, cur, hv, _, _, hle, _⟩
  · omega
  · simp only [Value.slice.injEq] at hv
    obtain ⟨_, _, rfl⟩ := hv
    exact hle
end Go.Proofs.YtembljihmnmmfaaGreat
namespace Go.Proofs.YtembljihmnmmfaaGreat
set_option linter.unusedVariables false
set_option linter.unusedSimpArgs false
open Go.RowKit

set_option maxHeartbeats 1000000 in
set_option maxRecDepth 100000 in
theorem implRanksOk_any (a : Option Addr) (cap B : Nat) (z : List Int) (n : Int) (w : World) (hz : Ints w B a z) (hl : z.length ≤ 1048576) (n1 : -9223372036854775808 ≤ n) (n2 : n ≤ 9223372036854775807) :
    Calls Tryz.prog 92 #[.slice a z.length cap, .int .i64 n] w fun e w' => e = .returned (.bool (rOk z n)) ∧ w = w' := by
  have HIT := hidden (rOk_iff z n)
  obtain ⟨m, hm⟩ : ∃ m, z.length = m := ⟨_, rfl⟩
  have HN := hidden hm
  have HZ := hidden hz
  rw [hm] at hl ⊢
  clear hm hz
  by_cases h1 : n < 1
  · have HF : Hid (rOk z n = false) := hidden (bool_false (fun h => by have := HIT.out.1 h; omega))
    go_enter Tryz.func92, Tryz.ntmps92
    go_wp2
    go_ret
    exact ⟨ret_bool HF.out.symm, rfl⟩
  · by_cases h2 : (256 : Int) < n
    · have HF : Hid (rOk z n = false) := hidden (bool_false (fun h => by have := HIT.out.1 h; omega))
      go_enter Tryz.func92, Tryz.ntmps92
      go_wp2
      go_ret
      exact ⟨ret_bool HF.out.symm, rfl⟩
    · by_cases h3 : (600 : Int) < m
      · have HF : Hid (rOk z n = false) := hidden (bool_false (fun h => by have := (HIT.out.1 h).2.2.1; rw [HN.out] at this; omega))
        go_enter Tryz.func92, Tryz.ntmps92
        go_wp2
        go_ret
        exact ⟨ret_bool HF.out.symm, rfl⟩
      · go_enter Tryz.func92, Tryz.ntmps92
        go_wp2
        go_loopw [6, 20] (fun _ sk wr => ∃ k : Nat, k ≤ m ∧ sk = .int .i64 k ∧ Hid (∀ j, j < k → 0 ≤ z.getD j 0 ∧ z.getD j 0 < n) ∧ w = wr) (fun _ sk _ => m - (intOf sk).toNat)
        case atStart => exact ⟨0, by omega, rfl, hidden (fun j hj => by omega), by first | trivial | rfl⟩
        case round =>
          obtain ⟨k, hk, rfl, HA, rfl⟩ := hrel
          by_cases hlt : k < m
          · obtain ⟨b, off, rfl, hb, hc⟩ := HZ.out.2.2 (by rw [HN.out]; omega)
            have ck := hc k (by rw [HN.out]; exact hlt)
            have HMK : Hid (z.getD k 0 ∈ z) := hidden (getD_mem (by rw [HN.out]; exact hlt))
            obtain ⟨x, hx⟩ : ∃ x, z.getD k 0 = x := ⟨_, rfl⟩
            rw [hx] at ck HMK
            have HX := hidden hx
            clear hx hc
            by_cases hx0 : x < 0
            · have HF : Hid (rOk z n = false) := hidden (bool_false (fun h => by have := (HIT.out.1 h).2.2.2 x HMK.out; omega))
              go_wp2
              go_ret
              exact ⟨ret_bool HF.out.symm, rfl⟩
            · by_cases hxn : n ≤ x
              · have HF : Hid (rOk z n = false) := hidden (bool_false (fun h => by have := (HIT.out.1 h).2.2.2 x HMK.out; omega))
                go_wp2
                go_ret
                exact ⟨ret_bool HF.out.symm, rfl⟩
              · have HA2 : Hid (∀ j, j < k + 1 → 0 ≤ z.getD j 0 ∧ z.getD j 0 < n) := hidden (fun j hj => by
                  rcases Nat.lt_or_ge j k with h | h
                  · exact HA.out j h
                  · rw [show j = k by omega, HX.out]; omega)
                go_wp2
                go_roundw
                case rel => exact ⟨k + 1, by omega, by go_num, HA2, by first | trivial | rfl⟩
                case measure => simp [intOf]; omega
          · have hkm : k = m := by omega
            subst hkm
            have HT : Hid (rOk z n = true) := hidden (HIT.out.2 ⟨by omega, by omega, by rw [HN.out]; omega, fun x hx => by
              obtain ⟨j, hj, rfl⟩ := mem_getD hx
              exact HA.out j (by rw [← HN.out]; exact hj)⟩)
            go_wp2
            go_ret
            exact ⟨ret_bool HT.out.symm, rfl⟩
theorem mtf_meth (v : Value) (w : World) : (Go.method 357 83 v "loop.example/g00674/impl.encode").run Tryz.prog w = .ok (238, v) w := by kernel_rfl
theorem frontListOf_at (n : Nat) (w : World) (hn : n ≤ 256) (g : Nat) (hg : w.heap.size = g) :
    Calls Tryz.prog 240 #[.int .i64 n] w fun e w' => e = .returned (.pointer (some ⟨g, 0, none⟩)) ∧ FL w' g w'.heap.size g (List.range n) ∧ Below g w w' := by
  subst hg
  exact frontListOf_any n w hn
theorem cf_rankOf (args : Array Value) (W : World) : (callFunc 241 args).run Tryz.prog W = .ok (.enter 241 args) W := by kernel_rfl
set_option maxHeartbeats 1000000 in
set_option maxRecDepth 100000 in
theorem mtfEncode_any (r0 : Value) (a : Option Addr) (cap B m : Nat) (L : List Nat) (w : World) (hr0 : r0 = .agg #[]) (hz : Ints w B a (ints L)) (hB : B ≤ w.heap.size) (hm2 : m ≤ 256) (hL6 : L.length ≤ 600) (hLm : ∀ x ∈ L, x < m) :
    Calls Tryz.prog 238 #[r0, .slice a L.length cap, .int .i64 m] w fun e w' => ∃ g, e = .returned (.agg #[.slice none 0 0, .slice (some ⟨g, 0, none⟩) L.length L.length]) ∧ w'.ownsRow w.heap.size 3 1 (.slice (some ⟨g, 0, none⟩) L.length L.length) L.length (natsL (runF mtfF (List.range m) L)) ∧ Below w.heap.size w w' := by
  subst hr0
  have bb : Below w.heap.size w ((w.alloc (.cells #[] 83)).alloc (.cells #[.slice none 0 0, .slice none 0 0] 87)) := ((Below.refl _ _).alloc (Nat.le_refl _) _).alloc (by simp) _
  have hR := Has.freshAt (w := w.alloc (.cells #[] 83)) (g := w.heap.size + 1) (by simp) 87 #[.slice none 0 0, .slice none 0 0]
  have hX : ((w.alloc (.cells #[] 83)).alloc (.cells #[.slice none 0 0, .slice none 0 0] 87)).heap.size = w.heap.size + 2 := by simp
  have HZ := hidden hz
  have KF := hidden (fun (W : World) (g : Nat) (hg : W.heap.size = g) => frontListOf_at m W hm2 g hg)
  have HP := hidden (PermN.start m)
  obtain ⟨n, hn⟩ : ∃ n, L.length = n := ⟨_, rfl⟩
  have KE := hidden (fun (h base E : Nat) (W : World) hz' hB' hbE hE h0 => each_any 241 (.pointer (some ⟨h, 0, none⟩)) (fun W s => FL W base E h s ∧ PermN m s) mtfF base E B a cap L W (List.range m) hz' hB' hbE hE hL6 h0 cf_rankOf
    (fun W W' s hs hk => ⟨hs.1.keep hk, hs.2⟩) (fun W s x hs hx => (rankOf_any base E h m x s W hs.1 hs.2 hm2 (hLm x hx)).mono fun e W' q => ⟨q.1, ⟨q.2.1, hs.2.front (hs.2.idx (hLm x hx))⟩, q.2.2⟩))
  rw [hn] at KE ⊢
  clear hz hn
  go_enter Tryz.func238, Tryz.ntmps238
  go_wp2_with fail
  refine (KF.out _ (w.heap.size + 2) hX).mono ?_
  rintro e w1 ⟨rfl, hF1, b1⟩
  have s1 : w.heap.size + 2 ≤ w1.heap.size := by rw [← hX]; exact b1.size
  replace bb := bb.trans (b1.mono (by omega))
  replace hR := hR.below b1 (by omega)
  have hz1 := HZ.out.below (bb.mono hB)
  have K2 := hidden (KE.out (w.heap.size + 2) (w.heap.size + 2) w1.heap.size w1 hz1 (by omega) s1 (Nat.le_refl _) ⟨hF1, HP.out⟩)
  clear hF1 b1 hz1 hX
  go_wp2_with fail
  refine K2.out.mono ?_
  rintro e w2 ⟨g, rfl, hown, b2⟩
  have hs1 : w.heap.size ≤ w1.heap.size := bb.size
  replace bb := bb.trans (b2.mono (by omega))
  replace hR := hR.below b2 (by omega)
  have HO := hidden (Joins.ownsRow_le hown hs1)
  have hgw := (hown.lt g rfl).1
  have e0 := hR.cell 0
  have e1 := hR.cell 1
  have g0 := hR.free 0
  have g1 := hR.free 1
  simp at e0 e1
  have hs2 := bb.size
  clear b2 hown
  go_wp2
  refine bodyPost_ret (v := .agg #[.slice none 0 0, .slice (some ⟨g, 0, none⟩) n n]) (by simp [results, Tryz.results238, go_sem, e0, e1, g0, g1]) rfl ⟨g, rfl, ?_, ?_⟩
  · exact ownsRow_setCell_other (ownsRow_setCell_other HO.out (by simp [Value.ownBlock]; omega) _) (by simp [Value.ownBlock]; omega) _
  · exact (bb.setCell (by simp) _).setCell (by simp) _
end Go.Proofs.YtembljihmnmmfaaGreat
namespace Go.Proofs.YtembljihmnmmfaaGreat
set_option linter.unusedVariables false
set_option linter.unusedSimpArgs false
open Go.RowKit

/-- At bit a stand n ones, fewer than k, and a zero. -/
def UnaAt (s : ByteArray) (a k n : Nat) : Prop := n < k ∧ a + n + 1 ≤ 8 * s.size ∧ (∀ i, i < n → bit s (a + i) = 1) ∧ bit s (a + n) = 0
/-- From bit a on stand these numbers, up to bit c. -/
def Unas (s : ByteArray) (k : Nat) : Nat → List Nat → Nat → Prop
  | a, [], c => c = a
  | a, n :: D, c => UnaAt s a k n ∧ Unas s k (a + n + 1) D c
theorem Unas.lt {s : ByteArray} {k : Nat} : ∀ {D : List Nat} {a c : Nat}, Unas s k a D c → ∀ x ∈ D, x < k
  | [], _, _, _, x, hx => by simp at hx
  | n :: D, a, c, h, x, hx => by
    rcases List.mem_cons.1 hx with rfl | hx
    · exact h.1.1
    · exact h.2.lt x hx
/-- More numbers begin with these. -/
theorem Unas.take {s : ByteArray} {k : Nat} : ∀ {D : List Nat} {a c : Nat} (i : Nat), Unas s k a D c → ∃ d, Unas s k a (D.take i) d
  | D, a, _, 0, _ => ⟨a, rfl⟩
  | [], a, c, i + 1, h => ⟨c, h⟩
  | n :: D, a, c, i + 1, h => by
    obtain ⟨d, hd⟩ := h.2.take i
    exact ⟨d, h.1, hd⟩
end Go.Proofs.YtembljihmnmmfaaGreat
