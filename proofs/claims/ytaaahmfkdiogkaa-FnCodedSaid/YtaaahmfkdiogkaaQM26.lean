/- Merged: C12T, C12C, C12D, C12E, C12I, C12F, C12G, C12H, I12B, I8H. -/
import Derived.Test.YtaaahmfkdiogkaaQM14
import Derived.Test.YtaaahmfkdiogkaaQM20
import Derived.Test.YtaaahmfkdiogkaaQM10
import Derived.Test.YtaaahmfkdiogkaaQM12
import Derived.Test.YtaaahmfkdiogkaaQM15
import Derived.Test.YtaaahmfkdiogkaaQM5
import Derived.BigQuiet
import Derived.Deep.RegionHeld3
import Derived.Deep.QuietTactic
import Derived.RegionTactic
import Derived.ChangeAlike
namespace Go.Proofs.Ytaaahmfkdiogkaa
set_option linter.unusedVariables false
set_option linter.unusedSimpArgs false
open Go.RowKit

/-- A slice of ints, as a value. -/
def IntsV (w : World) (B : Nat) (v : Value) (z : List Int) : Prop := ∃ a c, v = .slice a z.length c ∧ z.length ≤ c ∧ Ints w B a z
/-- The tables T of a slice that lies at a, with all that they hold, in blocks below B. -/
def Tabs (w : World) (B : Nat) (a : Option Addr) (T : List (List Int)) : Prop :=
  T.length ≤ 140737488355328 ∧ (0 < T.length → ∃ b off, a = some ⟨b, off, none⟩ ∧ b < B ∧ ∀ i, i < T.length → ∃ v, w.cell? ⟨b, off + i, none⟩ = some v ∧ IntsV w B v (T.getD i []))
theorem IntsV.below {w w' : World} {B : Nat} {v : Value} {z : List Int} (h : IntsV w B v z) (hb : Below B w w') : IntsV w' B v z := by
  obtain ⟨a, c, e, hc, hz⟩ := h
  exact ⟨a, c, e, hc, hz.below hb⟩
theorem IntsV.mono {w : World} {B B' : Nat} {v : Value} {z : List Int} (h : IntsV w B v z) (hB : B ≤ B') : IntsV w B' v z := by
  obtain ⟨a, c, e, hc, hz⟩ := h
  exact ⟨a, c, e, hc, hz.mono hB⟩
theorem Tabs.below {w w' : World} {B : Nat} {a : Option Addr} {T : List (List Int)} (h : Tabs w B a T) (hb : Below B w w') : Tabs w' B a T :=
  ⟨h.1, fun h0 => by
    obtain ⟨b, off, e, hB, hc⟩ := h.2 h0
    refine ⟨b, off, e, hB, fun i hi => ?_⟩
    obtain ⟨v, hv, hz⟩ := hc i hi
    exact ⟨v, (hb.cell (p := ⟨b, off + i, none⟩) hB).trans hv, hz.below hb⟩⟩
theorem Tabs.mono {w : World} {B B' : Nat} {a : Option Addr} {T : List (List Int)} (h : Tabs w B a T) (hB : B ≤ B') : Tabs w B' a T :=
  ⟨h.1, fun h0 => by
    obtain ⟨b, off, e, hb, hc⟩ := h.2 h0
    refine ⟨b, off, e, by omega, fun i hi => ?_⟩
    obtain ⟨v, hv, hz⟩ := hc i hi
    exact ⟨v, hv, hz.mono hB⟩⟩
/-- Table i, read. -/
theorem Tabs.at {w : World} {B : Nat} {a : Option Addr} {T : List (List Int)} (h : Tabs w B a T) {i : Nat} (hi : i < T.length) : ∃ b off a2 c2, a = some ⟨b, off, none⟩ ∧ b < B ∧ w.cell? ⟨b, off + i, none⟩ = some (.slice a2 (T.getD i []).length c2) ∧ (T.getD i []).length ≤ c2 ∧ Ints w B a2 (T.getD i []) := by
  obtain ⟨b, off, e, hb, hc⟩ := h.2 (by omega)
  obtain ⟨v, hv, a2, c2, rfl, h1, h2⟩ := hc i hi
  exact ⟨b, off, a2, c2, e, hb, hv, h1, h2⟩
/-- What l12choice and its like are given. -/
def TabOk (S : List Int) (T : List (List Int)) (n : Nat) : Prop := (∀ i, i < T.length → (T.getD i []).length = n ∧ Len20 (T.getD i [])) ∧ (∀ k, k < S.length → 0 ≤ S.getD k 0 ∧ S.getD k 0 < (n : Int)) ∧ S.length ≤ 2000
theorem bits_k {S : List Int} {T : List (List Int)} {n : Nat} (hT : TabOk S T n) {a a2 : Option Addr} {cap cap2 B g i : Nat} {w : World} (hz : Ints w B a S) (hi : i < T.length) (hz2 : Ints w B a2 (T.getD i [])) (hg : g ≤ 2000) (W : World) (hW : W.heap = w.heap) :
    Calls Try.prog 82 #[.slice a S.length cap, .int .i64 g, .slice a2 n cap2] W fun e w' => e = .returned (.int .i64 (bitG S (T.getD i []) g)) ∧ W = w' := by
  obtain ⟨h1, h2⟩ := hT.1 i hi
  have hk : ∀ p : Addr, p.block < B → W.cell? p = w.cell? p := fun p _ => by unfold World.cell?; rw [hW]
  have := l12bits_any a a2 cap cap2 B g S (T.getD i []) W (hz.keep hk) (hz2.keep hk) (by rw [h1]; exact hT.2.1) hT.2.2 h2 hg
  rw [h1] at this
  exact this.mono fun e w' h => ⟨h.1, h.2.symm⟩
theorem bstN_succ (S : List Int) (T : List (List Int)) (g k : Nat) (h : 1 ≤ k) : bstN S T g (k + 1) = if bitG S (T.getD k []) g < bitG S (T.getD (bstN S T g k) []) g then k else bstN S T g k := by
  obtain ⟨k, rfl⟩ : ∃ j, k = j + 1 := ⟨k - 1, by omega⟩
  rfl
set_option maxHeartbeats 4000000 in
set_option maxRecDepth 100000 in
theorem l12choice_any (a at2 : Option Addr) (cap capT B n : Nat) (S : List Int) (T : List (List Int)) (w : World) (hz : Ints w B a S) (hT : Tabs w B at2 T) (hOk : TabOk S T n) (h1 : 1 ≤ T.length) (hTl : T.length ≤ 1000) (hB : B ≤ w.heap.size) (hct : T.length ≤ capT) :
    Calls Try.prog 51 #[.slice a S.length cap, .slice at2 T.length capT] w fun e w' => ∃ v, e = .returned v ∧ w'.ownsRow w.heap.size 3 1 v (grp S.length) (natsL (chN S T)) ∧ Below w.heap.size w w' := by
  obtain ⟨i0, hi, hz0, hz1, hz2⟩ := info_parts Try.infoInt
  have hSl := hOk.2.2
  have KG := hidden (fun W => l12groups_any S.length W (by omega))
  have HCH : Hid (chN S T = (List.range (grp S.length)).map fun g => bstN S T g T.length) := hidden rfl
  have HGL : Hid (grp S.length ≤ S.length) := hidden (grp_le _)
  obtain ⟨N, hN⟩ : ∃ N, S.length = N := ⟨_, rfl⟩
  obtain ⟨M, hM⟩ : ∃ M, T.length = M := ⟨_, rfl⟩
  have HZ := hidden hz
  have HT := hidden hT
  have HOK := hidden hOk
  have HN := hidden hN
  have HM := hidden hM
  rw [hN] at KG HGL hSl ⊢
  rw [hM] at h1 hct hTl ⊢
  rw [hN, hM] at HCH
  clear hz hT hOk hN hM
  obtain ⟨q, hq⟩ : ∃ q, grp N = q := ⟨_, rfl⟩
  rw [hq] at KG HGL HCH ⊢
  have hqN := HGL.out
  clear hq HGL
  go_enter Try.func51, Try.ntmps51
  go_wp2
  go_loopw [5, 6, 7, 8] (fun vo sg _ _ wr => ∃ (g : Nat), g ≤ q ∧ sg = .int .i64 g ∧ wr.ownsRow w.heap.size 3 1 vo g (natsL ((List.range g).map fun g => bstN S T g M)) ∧ Below w.heap.size w wr) (fun _ sg _ _ _ => q - (intOf sg).toNat)
  case atStart => exact ⟨0, by omega, rfl, World.ownsRow_nil _ _ _ _, Below.refl _ _⟩
  case round =>
    obtain ⟨g, hg, rfl, hown, hbl⟩ := hrel
    have hsz := hbl.size
    go_wp2_with fail
    refine (KG.out _).mono ?_
    rintro e w1 ⟨rfl, rfl⟩
    by_cases hlt : g < q
    · have HZr := hidden (HZ.out.below (hbl.mono hB))
      have HTr := hidden (HT.out.below (hbl.mono hB))
      have HB1 : Hid (∀ k, 1 ≤ k → k ≤ M → bstN S T g k < M) := hidden (fun k hk1 hk2 => by have := bstN_lt S T g k (by omega); omega)
      have HO := hidden hown
      have HBL := hidden hbl
      clear hown hbl
      go_wp2
      go_loopw [7, 8] (fun sb sk wx => ∃ (k : Nat), 1 ≤ k ∧ k ≤ M ∧ sk = .int .i64 k ∧ sb = .int .i64 (bstN S T g k) ∧ ∃ d, wx = wr.drewN d) (fun _ sk _ => M - (intOf sk).toNat)
      case atStart => exact ⟨1, by omega, h1, rfl, rfl, 0, rfl⟩
      case round =>
        obtain ⟨k, hk1, hkM, rfl, rfl, d, rfl⟩ := hrel
        have hbM := HB1.out k hk1 hkM
        obtain ⟨b, hb⟩ : ∃ b, bstN S T g k = b := ⟨_, rfl⟩
        have HBS : Hid (bstN S T g (k + 1) = if bitG S (T.getD k []) g < bitG S (T.getD b []) g then k else b) := hidden (by rw [← hb]; exact bstN_succ S T g k hk1)
        have HBK := hidden hb
        rw [hb] at hbM ⊢
        clear hb
        by_cases hkl : k < M
        · obtain ⟨tb, to, at3, ct3, e3, htb, ck, hck, zk⟩ := HTr.out.at (i := k) (by rw [HM.out]; exact hkl)
          obtain ⟨tb2, to2, at4, ct4, e4, htb2, cb, hcb, zb⟩ := HTr.out.at (i := b) (by rw [HM.out]; exact hbM)
          rw [e3] at e4
          injection e4 with e4
          injection e4 with e5 e6
          subst e5 e6 e3
          have K1 := hidden (fun W hW => bits_k HOK.out (cap := cap) (cap2 := ct3) (g := g) HZr.out (by rw [HM.out]; exact hkl) zk (by omega) W hW)
          have K2 := hidden (fun W hW => bits_k HOK.out (cap := cap) (cap2 := ct4) (g := g) HZr.out (by rw [HM.out]; exact hbM) zb (by omega) W hW)
          have l1 := (HOK.out.1 k (by rw [HM.out]; exact hkl)).1
          have l2 := (HOK.out.1 b (by rw [HM.out]; exact hbM)).1
          rw [l1] at ck hck
          rw [l2] at cb hcb
          rw [HN.out] at K1 K2
          have f1 : (wr.drewN d).cell? ⟨tb, to + k, none⟩ = some (.slice at3 n ct3) := ck
          have f2 : (wr.drewN d).cell? ⟨tb, to + b, none⟩ = some (.slice at4 n ct4) := cb
          clear zk zb l1 l2 ck cb htb htb2
          obtain ⟨x, hx⟩ : ∃ x, bitG S (T.getD k []) g = x := ⟨_, rfl⟩
          obtain ⟨y, hy⟩ : ∃ y, bitG S (T.getD b []) g = y := ⟨_, rfl⟩
          rw [hx] at K1 HBS
          rw [hy] at K2 HBS
          clear hx hy
          by_cases hxy : x < y
          · have HN2 : Hid (bstN S T g (k + 1) = k) := hidden (by rw [HBS.out, if_pos hxy])
            go_wp2
            go_region_held3 (fun w' => w'.cell? ⟨tb, to + k, none⟩ = some (.slice at3 n ct3) ∧ w'.cell? ⟨tb, to + b, none⟩ = some (.slice at4 n ct4)) (exact ⟨f1, f2⟩) (first | (go_at_call 82; first | ((with_reducible refine (K1.out _ ?hW).mono ?_); (case hW => rfl); rintro e wX ⟨rfl, rfl⟩) | ((with_reducible refine (K2.out _ ?hW).mono ?_); (case hW => rfl); rintro e wX ⟨rfl, rfl⟩)))
            go_wp2
            go_roundw
            case rel => exact ⟨k + 1, by omega, by omega, by go_num, by rw [HN2.out], _, rfl⟩
            case measure => simp [intOf]; omega
          · have HN2 : Hid (bstN S T g (k + 1) = b) := hidden (by rw [HBS.out, if_neg hxy])
            go_wp2
            go_region_held3 (fun w' => w'.cell? ⟨tb, to + k, none⟩ = some (.slice at3 n ct3) ∧ w'.cell? ⟨tb, to + b, none⟩ = some (.slice at4 n ct4)) (exact ⟨f1, f2⟩) (first | (go_at_call 82; first | ((with_reducible refine (K1.out _ ?hW).mono ?_); (case hW => rfl); rintro e wX ⟨rfl, rfl⟩) | ((with_reducible refine (K2.out _ ?hW).mono ?_); (case hW => rfl); rintro e wX ⟨rfl, rfl⟩)))
            go_wp2
            go_roundw
            case rel => exact ⟨k + 1, by omega, by omega, by go_num, by rw [HN2.out], _, rfl⟩
            case measure => simp [intOf]; omega
        · obtain rfl : k = M := by omega
          have HL2 : Hid ((List.range (g + 1)).map (fun g => bstN S T g k) = (List.range g).map (fun g => bstN S T g k) ++ [b]) := hidden (by rw [List.range_succ, List.map_append, ← HBK.out]; rfl)
          have hown : (wr.drewN d).ownsRow w.heap.size 3 1 _ g (natsL ((List.range g).map fun g => bstN S T g k)) := HO.out
          have hbl : Below w.heap.size w (wr.drewN d) := ⟨HBL.out.os, HBL.out.tape, HBL.out.output, HBL.out.size, HBL.out.block⟩
          have hsz : w.heap.size ≤ (wr.drewN d).heap.size := hbl.size
          go_wp2_with (at_builtin; refine wpList_append_own _ rfl _ _ 24 rfl w.heap.size 3 i0 (.int .i64 0) 1 8 Try.underlying24 hi hz0 hz1 hz2 rfl (by decide) _ _ _ rfl (hown.alloc _) ⟨(wr.drewN d).heap.size, 0, none⟩ 1 1 [.int .i64 (b : Int)] rfl rfl ?c1 ?c2 ?c3 ?c4 ?c5 ?_)
          case c1 => exact cell_one_new _ _ _
          case c2 => exact fun u hu => by simp at hu; subst hu; rfl
          case c3 => unfold maxLen; omega
          case c4 => omega
          case c5 => first | omega | (simp; omega)
          intro v5 w5 hown5 hgrow _
          have hb5 := bel_app hbl hsz hown hgrow
          have hown6 : w5.ownsRow w.heap.size 3 1 v5 (g + 1) (natsL ((List.range (g + 1)).map (fun g => bstN S T g k))) := by rw [HL2.out, natsL_snoc8]; exact hown5
          have HO5 := hidden hown6
          clear hown hown5 hown6 hgrow hbl
          go_wp2
          go_roundw
          case rel => exact ⟨g + 1, by omega, by go_num, HO5.out, hb5⟩
          case measure => simp [intOf]; omega
    · obtain rfl : g = q := by omega
      go_wp2
      go_ret
      exact ⟨_, rfl, by rw [HCH.out]; exact hown, hbl⟩
end Go.Proofs.Ytaaahmfkdiogkaa
namespace Go.Proofs.Ytaaahmfkdiogkaa
set_option linter.unusedVariables false
set_option linter.unusedSimpArgs false
open Go.RowKit

theorem Try.infoTable : (Try.prog.info? 65).map (fun i => (i.zero, i.size, i.bytes)) = some (some (.agg #[.slice none 0 0]), 1, 24) := by kernel_rfl
/-- The cells V hold rows of one's own, the tables T. -/
def RowsAt (w : World) (base : Nat) (V : List Value) (T : List (List Int)) : Prop := V.length = T.length ∧ ∀ j, j < T.length → w.ownsRow base 3 1 (V.getD j undef) (T.getD j []).length (intsV (T.getD j []))
theorem RowsAt.nil (w : World) (base : Nat) : RowsAt w base [] [] := ⟨rfl, fun j h => by simp at h⟩
theorem RowsAt.below {w w' : World} {base : Nat} {V : List Value} {T : List (List Int)} (h : RowsAt w base V T) (hb : Below w.heap.size w w') : RowsAt w' base V T :=
  ⟨h.1, fun j hj => own_bel (h.2 j hj) hb⟩
theorem RowsAt.snoc {w : World} {base : Nat} {V : List Value} {T : List (List Int)} {v : Value} {z : List Int} (h : RowsAt w base V T) (hv : w.ownsRow base 3 1 v z.length (intsV z)) : RowsAt w base (V ++ [v]) (T ++ [z]) := by
  refine ⟨by rw [List.length_append, List.length_append, h.1]; rfl, fun j hj => ?_⟩
  by_cases e : j < T.length
  · have e1 : (V ++ [v]).getD j undef = V.getD j undef := by rw [List.getD_eq_getElem?_getD, List.getElem?_append_left (by rw [h.1]; exact e), ← List.getD_eq_getElem?_getD]
    have e2 : (T ++ [z]).getD j [] = T.getD j [] := by rw [List.getD_eq_getElem?_getD, List.getElem?_append_left e, ← List.getD_eq_getElem?_getD]
    rw [e1, e2]
    exact h.2 j e
  · have ej : j = T.length := by rw [List.length_append, List.length_singleton] at hj; omega
    have e1 : (V ++ [v]).getD j undef = v := by rw [ej, ← h.1, List.getD_eq_getElem?_getD, List.getElem?_append_right (Nat.le_refl _), Nat.sub_self]; rfl
    have e2 : (T ++ [z]).getD j [] = z := by rw [ej, List.getD_eq_getElem?_getD, List.getElem?_append_right (Nat.le_refl _), Nat.sub_self]; rfl
    rw [e1, e2]
    exact hv
theorem own_grown12 {w w' : World} {base size n : Nat} {e : TypeId} {v : Value} {xs : List Value} {row : Option Nat} (h : w.ownsRow base e size v n xs) (hg : w.grownBy w' row) (hne : ∀ g, v.ownBlock = some g → row ≠ some g) : w'.ownsRow base e size v n xs := by
  refine ⟨h.1, h.2.imp id ?_⟩
  rintro ⟨g, cap, cur, rfl, hb, hc, hr⟩
  have hlt : g < w.heap.size := (Array.getElem?_eq_some_iff.1 hc).1
  exact ⟨g, cap, cur, rfl, hb, (hg.block g hlt (fun e => hne g rfl e.symm)).trans hc, hr⟩
/-- Appending to a row of tables leaves the tables as they are. -/
theorem RowsAt.grown {w w' : World} {base b2 n : Nat} {V xs : List Value} {T : List (List Int)} {vo : Value} (h : RowsAt w base V T) (hown : w.ownsRow b2 65 1 vo n xs) (hg : w.grownBy w' vo.ownBlock) : RowsAt w' base V T :=
  ⟨h.1, fun j hj => own_grown12 (h.2 j hj) hg (fun g h1 => own_types (h.2 j hj) hown (by decide) h1)⟩
/-- The rows V lie apart from one another. -/
def ApartV (V : List Value) : Prop := ∀ i j, i < j → j < V.length → (V.getD i undef).ownBlock = none ∨ (V.getD i undef).ownBlock ≠ (V.getD j undef).ownBlock
theorem ApartV.nil : ApartV [] := fun i j _ h => by cases h
theorem ApartV.snoc {V : List Value} {v : Value} (h : ApartV V) (hne : ∀ j, j < V.length → (V.getD j undef).ownBlock = none ∨ (V.getD j undef).ownBlock ≠ v.ownBlock) : ApartV (V ++ [v]) := by
  intro i j hij hj
  rw [List.length_append, List.length_singleton] at hj
  have e1 : (V ++ [v]).getD i undef = V.getD i undef := by rw [List.getD_eq_getElem?_getD, List.getElem?_append_left (by omega), ← List.getD_eq_getElem?_getD]
  rw [e1]
  by_cases e : j < V.length
  · have e2 : (V ++ [v]).getD j undef = V.getD j undef := by rw [List.getD_eq_getElem?_getD, List.getElem?_append_left e, ← List.getD_eq_getElem?_getD]
    rw [e2]
    exact h i j hij e
  · have e2 : (V ++ [v]).getD j undef = v := by
      have : j = V.length := by omega
      subst this
      rw [List.getD_eq_getElem?_getD, List.getElem?_append_right (Nat.le_refl _), Nat.sub_self]; rfl
    rw [e2]
    exact hne i (by omega)
/-- A row made behind others lies apart from them. -/
theorem apart_new12 {w w' : World} {b1 s1 s2 n1 n2 : Nat} {e1 e2 : TypeId} {v1 v2 : Value} {xs ys : List Value} (h : w.ownsRow b1 e1 s1 v1 n1 xs) (h' : w'.ownsRow w.heap.size e2 s2 v2 n2 ys) : v1.ownBlock = none ∨ v1.ownBlock ≠ v2.ownBlock := by
  cases e : v1.ownBlock with
  | none => exact .inl rfl
  | some g =>
    refine .inr fun e2 => ?_
    have := (h.lt g e).2
    have := (h'.lt g e2.symm).1
    omega
theorem frq_nats (S G : List Int) (t n : Nat) : nats n (frqN S G t S.length) = intsV (frqL S G t n) := by
  unfold nats intsV frqL
  rw [List.map_map]
  rfl
theorem frq_on {S G : List Int} {t n : Nat} (h1 : 1 ≤ n) (h2 : n ≤ 260) (hS : S.length ≤ 2000) : lensOn (frqL S G t n) (20 : Nat) := by
  refine ⟨(fOk_iff _).2 ⟨by rw [frqL_len]; exact h1, by rw [frqL_len]; exact h2, fun k hk => ?_⟩, by decide, by decide, ?_⟩
  · rw [frqL_len] at hk
    have := frqN_le S G t S.length k
    unfold frqL
    rw [List.getD_eq_getElem?_getD, List.getElem?_map, List.getElem?_range hk]
    show 0 ≤ (frqN S G t S.length k : Int) ∧ _
    constructor
    · omega
    · show (frqN S G t S.length k : Int) ≤ 1000000
      omega
  · rw [frqL_len]
    have : (2 : Nat) ^ ((20 : Nat) : Int).toNat = 1048576 := by decide
    rw [this]
    omega
theorem own_base12 {w : World} {base base' : Nat} {e : TypeId} {size : Nat} {v : Value} {n : Nat} {xs : List Value} (h : w.ownsRow base e size v n xs) (hb : base' ≤ base) : w.ownsRow base' e size v n xs :=
  ⟨h.1, h.2.imp id fun ⟨g, cap, cur, a, b, c⟩ => ⟨g, cap, cur, a, Nat.le_trans hb b, c⟩⟩
theorem tabL_succ (S G : List Int) (n t : Nat) : tabL S G n (t + 1) = tabL S G n t ++ [lensF (frqL S G t n) 20] := by unfold tabL; rw [List.range_succ, List.map_append]; rfl
set_option maxHeartbeats 4000000 in
set_option maxRecDepth 100000 in
theorem l12tables_any (a a2 : Option Addr) (cap cap2 B n k : Nat) (S G : List Int) (w : World) (hz : Ints w B a S) (hz2 : Ints w B a2 G) (hB : B ≤ w.heap.size) (h1 : 1 ≤ n) (h2 : n ≤ 260) (hSl : S.length ≤ 2000) (hS : ∀ i, i < S.length → 0 ≤ S.getD i 0 ∧ S.getD i 0 < (n : Int)) (hG : G.length = grp S.length) (hk : k ≤ 4) :
    Calls Try.prog 52 #[.slice a S.length cap, .int .i64 n, .int .i64 k, .slice a2 G.length cap2] w fun e w' => ∃ v V, e = .returned v ∧ w'.ownsRow w.heap.size 65 1 v k V ∧ RowsAt w' w.heap.size V (tabL S G n k) ∧ ApartV V ∧ Below w.heap.size w w' := by
  obtain ⟨i0, hi, hz0, hz1, hz2'⟩ := info_parts Try.infoInt
  obtain ⟨j0, ji, jz0, jz1, jz2⟩ := info_parts Try.infoTable
  have HON := hidden (fun t => frq_on (S := S) (G := G) (t := t) h1 h2 hSl)
  have HGI : Hid (∀ i, i < S.length → i / 10 < G.length) := hidden (fun i hi => by rw [hG]; exact grp_lt hi)
  have HST := hidden (frqN_succ S G)
  have HLE := hidden (frqN_le S G)
  obtain ⟨N, hN⟩ : ∃ N, S.length = N := ⟨_, rfl⟩
  obtain ⟨M, hM⟩ : ∃ M, G.length = M := ⟨_, rfl⟩
  have HZ := hidden hz
  have HZ2 := hidden hz2
  have HS := hidden hS
  have HN := hidden hN
  have HM := hidden hM
  rw [hN] at HGI HS hSl ⊢
  rw [hM] at HGI ⊢
  clear hz hz2 hS hG hN hM
  go_enter Try.func52, Try.ntmps52
  go_wp2
  go_loopw [9, 10, 11, 12, 13, 14] (fun vo st _ _ _ _ wr => ∃ (t : Nat) (V : List Value), t ≤ k ∧ st = .int .i64 t ∧ wr.ownsRow w.heap.size 65 1 vo t V ∧ Hid (RowsAt wr w.heap.size V (tabL S G n t) ∧ ApartV V) ∧ Below w.heap.size w wr) (fun _ st _ _ _ _ _ => k - (intOf st).toNat)
  case atStart => exact ⟨0, [], by omega, rfl, World.ownsRow_nil _ _ _ _, hidden ⟨RowsAt.nil _ _, ApartV.nil⟩, Below.refl _ _⟩
  case round =>
    obtain ⟨t, V, ht, rfl, hown, HR, hbl⟩ := hrel
    obtain ⟨u, hu⟩ : ∃ u, u = wr := ⟨_, rfl⟩
    subst hu
    by_cases hlt : t < k
    · have hsz := hbl.size
      have HO := hidden hown
      have HBL := hidden hbl
      clear hown hbl
      go_wp2_with (at_make; refine wpList_make_full _ rfl _ _ 24 rfl u.heap.size 3 i0 (.int .i64 0) 1 Try.underlying24 hi hz0 hz1 .i64 .i64 _ _ n rfl rfl rfl rfl ?cb1 ?cb2 ?cb3 ?_)
      case cb1 => rw [hz2']; omega
      case cb2 => unfold maxLen; omega
      case cb3 => exact Nat.le_refl _
      intro w2 hown hgrow
      have hb2 := bel_made hgrow
      rw [made_nats] at hown
      clear hgrow
      go_wp2
      go_loopw [12] (fun si wx => ∃ (i : Nat), i ≤ N ∧ si = .int .i64 i ∧ wx.ownsRow u.heap.size 3 1 (.slice (some ⟨u.heap.size, 0, none⟩) n n) n (nats n (frqN S G t i)) ∧ Below u.heap.size u wx) (fun si _ => N - (intOf si).toNat)
      case atStart => exact ⟨0, by omega, rfl, hown, hb2⟩
      case round =>
        clear hown hb2
        obtain ⟨i, hi2, rfl, hown, hbx⟩ := hrel
        by_cases hil : i < N
        · have hx0 := (HS.out i hil).1
          have hx1 := (HS.out i hil).2
          obtain ⟨x, hx⟩ : ∃ x : Nat, S.getD i 0 = (x : Int) := ⟨(S.getD i 0).toNat, by omega⟩
          rw [hx] at hx0 hx1
          have hxn : x < n := by omega
          have hgi := HGI.out i hil
          obtain ⟨b, off, e1, hb, hcell⟩ := (HZ.out.below ((HBL.out.mono hB).trans (hbx.mono (Nat.le_trans hB hsz)))).2.2 (by rw [HN.out]; omega)
          obtain ⟨b2, off2, e2, hb3, hcell2⟩ := (HZ2.out.below ((HBL.out.mono hB).trans (hbx.mono (Nat.le_trans hB hsz)))).2.2 (by rw [HM.out]; omega)
          have c1 := hcell i (by rw [HN.out]; exact hil)
          have c2 := hcell2 (i / 10) (by rw [HM.out]; exact hgi)
          rw [hx] at c1
          have hry := HZ2.out.range (i / 10)
          have HIN : Hid (∀ s, inT S G t s i = (decide (G.getD (i / 10) 0 = (t : Int)) && decide ((x : Int) = (s : Int)))) := hidden (fun s => by unfold inT; rw [hx])
          obtain ⟨y, hy⟩ : ∃ y, G.getD (i / 10) 0 = y := ⟨_, rfl⟩
          rw [hy] at c2 hry HIN
          have hq : (i : Int).tdiv 10 = ((i / 10 : Nat) : Int) := by rw [Int.tdiv_eq_ediv_of_nonneg (by omega)]; omega
          have hq2 : (i : Int) / 10 = ((i / 10 : Nat) : Int) := by omega
          clear hcell hcell2 hx hy
          subst e1 e2
          obtain ⟨p, hp⟩ : ∃ p, i / 10 = p := ⟨_, rfl⟩
          rw [hp] at c2 hgi hq hq2
          clear hp
          have hle := HLE.out t i x
          by_cases hyt : y = (t : Int)
          · subst hyt
            have d0 := hown.cellAt x (by omega)
            rw [nats_get _ _ _ hxn] at d0
            have f0 := hown.frozenAt x
            have hownN := (hown.stored x (.int .i64 ((frqN S G t i x : Int) + 1))).1
            have HE : Hid ((nats n (frqN S G t i)).set x (.int .i64 ((frqN S G t i x : Int) + 1)) = nats n (frqN S G t (i + 1))) := hidden (by
              have e0 : ((frqN S G t i x : Int) + 1) = ((frqN S G t i x + 1 : Nat) : Int) := by omega
              rw [e0, nats_set]
              refine nats_congr fun s _ => ?_
              rw [HST.out, HIN.out]
              by_cases e : s = x
              · subst e; simp
              · have e' : ¬ (x : Int) = (s : Int) := by omega
                simp [e, e'])
            rw [HE.out] at hownN
            have hblN := hbx.setCell (p := ⟨u.heap.size, x, none⟩) (Nat.le_refl _) (.int .i64 ((frqN S G t i x : Int) + 1))
            have HON2 := hidden hownN
            have HBN2 := hidden hblN
            have hxI : (x : Int) < (n : Int) := by omega
            clear hown hbx hownN hblN
            obtain ⟨z, hz⟩ : ∃ z, frqN S G t i x = z := ⟨_, rfl⟩
            rw [hz] at d0 hle HON2 HBN2
            clear hz
            go_wp2
            go_roundw
            case rel => exact ⟨i + 1, by omega, by go_num, HON2.out, HBN2.out⟩
            case measure => simp [intOf]; omega
          · have HE : Hid (nats n (frqN S G t i) = nats n (frqN S G t (i + 1))) := hidden (by
              refine nats_congr fun s _ => ?_
              rw [HST.out, HIN.out, decide_eq_false hyt]
              simp)
            have HON2 := hidden hown
            rw [HE.out] at HON2
            go_wp2
            go_roundw
            case rel => exact ⟨i + 1, by omega, by go_num, HON2.out, hbx⟩
            case measure => simp [intOf]; omega
        · obtain rfl : i = N := by omega
          have hL : (frqL S G t n).length = n := frqL_len S G t n
          have hownI := hown
          rw [← HN.out, frq_nats] at hownI
          have hI := (Ints.ofOwn hownI (by omega) (fun x hx => by
            unfold frqL at hx
            rw [List.mem_map] at hx
            obtain ⟨s, _, rfl⟩ := hx
            have := HLE.out t S.length s
            rw [HN.out] at this ⊢
            omega)).2
          have K := hidden (specLens_on (some ⟨u.heap.size, 0, none⟩) n wr.heap.size 20 (frqL S G t n) wr hI (Nat.le_refl _) (HON.out t))
          rw [hL] at K
          have HRx := hidden (HR.out.1.below hbx)
          have HOx := hidden (own_bel HO.out hbx)
          have HBx := hidden (bel_then hbx hsz HBL.out)
          have hszx := hbx.size
          clear hown hbx hownI hI
          go_wp2_with fail
          refine K.out.mono ?_
          rintro e w3 ⟨vl, rfl, o3, b3⟩
          obtain ⟨al, cl, rfl⟩ := own_shape o3
          have hB3 := bel_then b3 HBx.out.size HBx.out
          have hs3 := hB3.size
          have HR3 := hidden (HRx.out.below b3)
          have hO3 := own_bel HOx.out b3
          have HV3 : Hid (w3.ownsRow w.heap.size 3 1 (.slice al n cl) (lensF (frqL S G t n) 20).length (intsV (lensF (frqL S G t n) 20))) := hidden (by
            rw [lensF_len, hL]
            exact own_base12 o3 HBx.out.size)
          have HAP : Hid (ApartV (V ++ [.slice al n cl])) := hidden (HR.out.2.snoc fun j hj => apart_new12 (HRx.out.2 j (by rw [← HRx.out.1]; exact hj)) o3)
          clear K o3 b3
          go_wp2_with (at_builtin; refine wpList_append_own _ rfl _ _ 25 rfl w.heap.size 65 j0 (.agg #[.slice none 0 0]) 1 24 Try.underlying25 ji jz0 jz1 jz2 rfl (by decide) _ _ _ rfl (hO3.alloc _) ⟨w3.heap.size, 0, none⟩ 1 1 [.slice al n cl] rfl rfl ?c1 ?c2 ?c3 ?c4 ?c5 ?_)
          case c1 => exact cell_one_new _ _ _
          case c2 => exact fun u hu => by simp at hu; subst hu; rfl
          case c3 => unfold maxLen; omega
          case c4 => omega
          case c5 => first | omega | (simp; omega)
          intro v5 w5 hown5 hgrow _
          have hb5 := bel_app hB3 hs3 hO3 hgrow
          have HR5 : Hid (RowsAt w5 w.heap.size (V ++ [.slice al n cl]) (tabL S G n (t + 1)) ∧ ApartV (V ++ [.slice al n cl])) := hidden (by
            refine ⟨?_, HAP.out⟩
            rw [tabL_succ]
            have ha : Below w3.heap.size w3 (w3.alloc (.cells #[.slice al n cl] 65)) := (Below.refl _ _).alloc (Nat.le_refl _) _
            exact RowsAt.snoc ((HR3.out.below ha).grown (hO3.alloc _) hgrow) (own_grown12 (own_bel HV3.out ha) hgrow (fun g h1 => own_types (own_bel HV3.out ha) (hO3.alloc _) (by decide) h1)))
          have HO5 := hidden hown5
          clear hO3 hown5 hgrow hB3
          go_wp2
          go_roundw
          case rel => exact ⟨t + 1, V ++ [.slice al n cl], by omega, by go_num, HO5.out, HR5, hb5⟩
          case measure => simp [intOf]; omega
    · obtain rfl : t = k := by omega
      go_wp2
      go_ret
      exact ⟨_, V, rfl, hown, HR.out.1, HR.out.2, hbl⟩
end Go.Proofs.Ytaaahmfkdiogkaa
namespace Go.Proofs.Ytaaahmfkdiogkaa
set_option linter.unusedVariables false
set_option linter.unusedSimpArgs false
open Go.RowKit

def selR (S : List Int) (n k : Nat) : Nat → List Int
  | 0 => sel0 S k
  | r + 1 => chL S (tabL S (selR S n k r) n k)
theorem selR_len (S : List Int) (n k : Nat) : ∀ r, (selR S n k r).length = grp S.length
  | 0 => by show (sel0 S k).length = _; unfold sel0; simp
  | r + 1 => by show (chL S _).length = _; unfold chL; rw [List.length_map, chN_len]
theorem selR_two (S : List Int) (n k : Nat) : selR S n k 2 = sel2 S n k := rfl
theorem chL_nats (S : List Int) (T : List (List Int)) : intsV (chL S T) = natsL (chN S T) := by simp [intsV, chL, natsL]
theorem chN_small {S : List Int} {T : List (List Int)} (h : 1 ≤ T.length) : ∀ x ∈ chL S T, 0 ≤ x ∧ x < (T.length : Int) := fun x hx => by
  unfold chL chN at hx
  rw [List.map_map, List.mem_map] at hx
  obtain ⟨g, _, rfl⟩ := hx
  have := bstN_lt S T g T.length (by omega)
  show 0 ≤ ((bstN S T g T.length : Nat) : Int) ∧ ((bstN S T g T.length : Nat) : Int) < _
  omega
theorem selR_small {S : List Int} {n k : Nat} (hk : 1 ≤ k) : ∀ r, ∀ x ∈ selR S n k r, 0 ≤ x ∧ x < (k : Int)
  | 0 => fun x hx => by
    have hx : x ∈ sel0 S k := hx
    unfold sel0 at hx
    rw [List.mem_map] at hx
    obtain ⟨i, hi, rfl⟩ := hx
    rw [List.mem_range] at hi
    have : i * k / grp S.length < k := by
      rw [Nat.div_lt_iff_lt_mul (by omega), Nat.mul_comm k]
      exact Nat.mul_lt_mul_of_pos_right hi (by omega)
    exact ⟨Int.natCast_nonneg _, Int.ofNat_lt.2 this⟩
  | r + 1 => fun x hx => by
    have := chN_small (S := S) (T := tabL S (selR S n k r) n k) (by rw [tabL_len]; exact hk) x hx
    rwa [tabL_len] at this
/-- A row of one's own as a value that is read. -/
theorem intsV_own {w : World} {base : Nat} {v : Value} {z : List Int} (h : w.ownsRow base 3 1 v z.length (intsV z)) (hl : z.length ≤ 140737488355328) (hr : ∀ x ∈ z, -9223372036854775808 ≤ x ∧ x ≤ 9223372036854775807) : IntsV w w.heap.size v z := by
  obtain ⟨a, c, rfl⟩ := own_shape h
  have hc : z.length ≤ c := by
    rcases h.2 with ⟨hv, h0⟩ | ⟨g, cap, cur, hv, _, _, hle, _⟩
    · omega
    · simp only [Value.slice.injEq] at hv
      obtain ⟨_, _, rfl⟩ := hv
      exact hle
  exact ⟨a, c, rfl, hc, (Ints.ofOwn h hl hr).2⟩
theorem own_len12 {w : World} {base n c : Nat} {e : TypeId} {a : Option Addr} {xs : List Value} (h : w.ownsRow base e 1 (.slice a n c) n xs) : n ≤ c := by
  rcases h.2 with ⟨hv, h0⟩ | ⟨g, cap, cur, hv, _, _, hle, _⟩
  · omega
  · simp only [Value.slice.injEq] at hv
    obtain ⟨_, _, rfl⟩ := hv
    exact hle
/-- Tables of one's own, read. -/
theorem tabs_own {w : World} {base c : Nat} {a : Option Addr} {V : List Value} {T : List (List Int)} (h : w.ownsRow base 65 1 (.slice a T.length c) T.length V) (hR : RowsAt w base V T) (hl : T.length ≤ 140737488355328)
    (hT : ∀ i, i < T.length → (T.getD i []).length ≤ 140737488355328 ∧ ∀ x ∈ T.getD i [], -9223372036854775808 ≤ x ∧ x ≤ 9223372036854775807) : Tabs w w.heap.size a T := by
  refine ⟨hl, fun h0 => ?_⟩
  rcases h.2 with ⟨hv, h0'⟩ | ⟨g, cap, cur, hv, hb, hg, hle, hm, hc, ht⟩
  · omega
  · simp only [Value.slice.injEq] at hv
    obtain ⟨rfl, _, rfl⟩ := hv
    refine ⟨g, 0, rfl, (Array.getElem?_eq_some_iff.1 hg).1, fun i hi => ⟨V.getD i undef, ?_, intsV_own (hR.2 i hi) (hT i hi).1 (hT i hi).2⟩⟩
    have := h.cellAt i (by omega)
    rw [Nat.zero_add, this, List.getD_eq_getElem?_getD, List.getElem?_eq_getElem (by rw [hR.1]; exact hi)]
    rfl
theorem tabL_ok {S G : List Int} {n k : Nat} (h1 : 1 ≤ n) (h2 : n ≤ 260) (hSl : S.length ≤ 2000) (i : Nat) (hi : i < k) : ((tabL S G n k).getD i []).length = n ∧ ∀ j, j < n → 1 ≤ ((tabL S G n k).getD i []).getD j 0 ∧ ((tabL S G n k).getD i []).getD j 0 ≤ 20 := by
  rw [tabL_get S G n k i hi]
  refine ⟨by rw [lensF_len, frqL_len], fun j hj => ?_⟩
  exact lensF_range (frq_on h1 h2 hSl) j (by rw [frqL_len]; exact hj)
theorem tabL_len20 {S G : List Int} {n k : Nat} (h1 : 1 ≤ n) (h2 : n ≤ 260) (hSl : S.length ≤ 2000) (i : Nat) (hi : i < k) : Len20 ((tabL S G n k).getD i []) := fun j hj => by
  obtain ⟨a, b⟩ := tabL_ok (G := G) h1 h2 hSl i hi
  rw [a] at hj
  have := b j hj
  omega
theorem tabL_fit {S G : List Int} {n k : Nat} (h1 : 1 ≤ n) (h2 : n ≤ 260) (hSl : S.length ≤ 2000) (i : Nat) (hi : i < (tabL S G n k).length) : ((tabL S G n k).getD i []).length ≤ 140737488355328 ∧ ∀ x ∈ (tabL S G n k).getD i [], -9223372036854775808 ≤ x ∧ x ≤ 9223372036854775807 := by
  rw [tabL_len] at hi
  obtain ⟨a, b⟩ := tabL_ok (G := G) h1 h2 hSl i hi
  refine ⟨by omega, fun x hx => ?_⟩
  obtain ⟨j, hj, rfl⟩ := mem_getD hx
  rw [a] at hj
  have := b j hj
  omega
def choOk (S : List Int) (n k : Int) : Bool := rowB S n && decide (1 ≤ k ∧ k ≤ 4)
set_option maxHeartbeats 4000000 in
set_option maxRecDepth 100000 in
theorem specChoose_yes (a : Option Addr) (cap B n k : Nat) (S : List Int) (w : World) (hz : Ints w B a S) (hB : B ≤ w.heap.size) (hrow : rowB S n = true) (hk1 : 1 ≤ k) (hk2 : k ≤ 4) :
    Calls Try.prog 16 #[.slice a S.length cap, .int .i64 n, .int .i64 k] w fun e w' => ∃ v V u, e = .returned (.tuple #[v, u]) ∧ w'.ownsRow w.heap.size 65 1 v k V ∧ RowsAt w' w.heap.size V (tab2 S n k) ∧ ApartV V ∧ (∀ j, j < V.length → u.ownBlock = none ∨ u.ownBlock ≠ (V.getD j undef).ownBlock) ∧
      w'.ownsRow w.heap.size 3 1 u (grp S.length) (intsV (sel2 S n k)) ∧ Below w.heap.size w w' := by
  obtain ⟨i0, hi, hz0, hz1, hz2⟩ := info_parts Try.infoInt
  have hr := (rowB_iff S n).1 hrow
  obtain ⟨⟨hn1, hn2⟩, hSl, hS⟩ := hr
  have hn1' : 1 ≤ n := by omega
  have hn2' : n ≤ 260 := by omega
  have KR : Hid (Calls Try.prog 50 #[.slice a S.length cap, .int .i64 n] w fun e w' => e = .returned (.bool true) ∧ w = w') := hidden (by
    have := l12row_any a cap B S n w hz (by omega) (by omega)
    rw [hrow] at this
    exact this.mono fun e w' h => ⟨h.1, h.2.symm⟩)
  have KG := hidden (fun W => l12groups_any S.length W (by omega))
  have hGN := grp_le S.length
  have KT : Hid (∀ (W : World) (a2 : Option Addr) (c2 B2 : Nat) (G : List Int), Below w.heap.size w W → Ints W B2 a2 G → B2 ≤ W.heap.size → B ≤ B2 → G.length = grp S.length →
      Calls Try.prog 52 #[.slice a S.length cap, .int .i64 n, .int .i64 k, .slice a2 (grp S.length) c2] W fun e w' => ∃ v V, e = .returned v ∧ w'.ownsRow W.heap.size 65 1 v k V ∧ RowsAt w' W.heap.size V (tabL S G n k) ∧ ApartV V ∧ Below W.heap.size W w') :=
    hidden (fun W a2 c2 B2 G hW hG hB2 hBB hGl => by
      have := l12tables_any a a2 cap c2 B2 n k S G W ((hz.below (hW.mono hB)).mono hBB) hG hB2 hn1' hn2' hSl hS hGl hk2
      rw [hGl] at this
      exact this)
  have KC : Hid (∀ (W : World) (at2 : Option Addr) (ct2 B2 : Nat) (G : List Int), Below w.heap.size w W → Tabs W B2 at2 (tabL S G n k) → B2 ≤ W.heap.size → B ≤ B2 → k ≤ ct2 →
      Calls Try.prog 51 #[.slice a S.length cap, .slice at2 k ct2] W fun e w' => ∃ v, e = .returned v ∧ w'.ownsRow W.heap.size 3 1 v (grp S.length) (intsV (chL S (tabL S G n k))) ∧ Below W.heap.size W w') :=
    hidden (fun W at2 ct2 B2 G hW hT hB2 hBB hc => by
      have := l12choice_any a at2 cap ct2 B2 n S (tabL S G n k) W ((hz.below (hW.mono hB)).mono hBB) hT ⟨fun i hi => by rw [tabL_len] at hi; exact ⟨(tabL_ok hn1' hn2' hSl i hi).1, tabL_len20 hn1' hn2' hSl i hi⟩, hS, hSl⟩ (by rw [tabL_len]; exact hk1) (by rw [tabL_len]; omega) hB2 (by rw [tabL_len]; exact hc)
      rw [tabL_len, ← chL_nats] at this
      exact this)
  have HFIT := hidden (fun G => tabL_fit (S := S) (G := G) (k := k) hn1' hn2' hSl)
  have HLR := hidden (selR_len S n k)
  have HSM := hidden (selR_small (S := S) (n := n) hk1)
  have HS0 : Hid (∀ q, grp S.length = q → intsV (selR S n k 0) = nats q (fun i => i * k / q)) := hidden (fun q hq => by
    subst hq
    show intsV (sel0 S k) = _
    unfold intsV sel0 nats
    rw [List.map_map]; rfl)
  obtain ⟨N, hN⟩ : ∃ N, S.length = N := ⟨_, rfl⟩
  rw [hN] at KR KG KT KC HLR HS0 hGN hSl ⊢
  obtain ⟨q, hq⟩ : ∃ q, grp N = q := ⟨_, rfl⟩
  rw [hq] at KG KT KC HLR hGN ⊢
  replace HS0 := hidden (HS0.out q hq)
  have HF : Hid (tab2 S n k = tabL S (selR S n k 2) n k ∧ sel2 S n k = selR S n k 2) := hidden ⟨rfl, rfl⟩
  clear hz hrow hS hq hN
  go_enter Try.func16, Try.ntmps16
  go_wp2_with fail
  refine KR.out.mono ?_
  rintro e w1 ⟨rfl, rfl⟩
  go_wp2_with fail
  refine (KG.out _).mono ?_
  rintro e w1 ⟨rfl, rfl⟩
  go_wp2_with (at_make; refine wpList_make_full _ rfl _ _ 24 rfl w.heap.size 3 i0 (.int .i64 0) 1 Try.underlying24 hi hz0 hz1 .i64 .i64 _ _ q rfl rfl rfl rfl ?cb1 ?cb2 ?cb3 ?_)
  case cb1 => rw [hz2]; omega
  case cb2 => unfold maxLen; omega
  case cb3 => exact Nat.le_refl _
  intro w2 hown hgrow
  have hb2 := bel_made hgrow
  rw [made_nats] at hown
  clear hgrow
  go_wp2
  go_loopw [10] (fun si wr => ∃ (i : Nat), i ≤ q ∧ si = .int .i64 i ∧ wr.ownsRow w.heap.size 3 1 (.slice (some ⟨w.heap.size, 0, none⟩) q q) q (nats q (fun j => if j < i then j * k / q else 0)) ∧ Below w.heap.size w wr) (fun si _ => q - (intOf si).toNat)
  case atStart => exact ⟨0, by omega, rfl, by simpa using hown, hb2⟩
  case round =>
    clear hown hb2
    obtain ⟨i, hi2, rfl, hown, hbl⟩ := hrel
    by_cases hlt : i < q
    · have d0 := hown.cellAt i (by omega)
      rw [nats_get _ _ _ hlt] at d0
      have f0 := hown.frozenAt i
      have hownN := (hown.stored i (.int .i64 ((i * k / q : Nat) : Int))).1
      rw [nats_set] at hownN
      have e : nats q (fun t => if t = i then i * k / q else if t < i then t * k / q else 0) = nats q (fun j => if j < i + 1 then j * k / q else 0) := nats_congr fun j _ => by
        by_cases h1 : j = i
        · subst h1; rw [if_pos rfl, if_pos (by omega)]
        · by_cases h2 : j < i
          · rw [if_neg h1, if_pos h2, if_pos (by omega)]
          · rw [if_neg h1, if_neg h2, if_neg (by omega)]
      rw [e] at hownN
      have hblN := hbl.setCell (p := ⟨w.heap.size, i, none⟩) (Nat.le_refl _) (.int .i64 ((i * k / q : Nat) : Int))
      have hmul : i * k ≤ 8000 := by
        have : i * k ≤ 2000 * 4 := Nat.mul_le_mul (by omega) hk2
        omega
      have hq0 : ¬ q = 0 := by omega
      have hdiv : ((i : Int) * (k : Int)).tdiv (q : Int) = ((i * k / q : Nat) : Int) := by
        rw [Int.tdiv_eq_ediv_of_nonneg (by rw [← Int.natCast_mul]; omega), ← Int.natCast_mul]; rfl
      have hw : IntKind.i64.wrap ((i : Int) * (k : Int)) = (i : Int) * (k : Int) := by
        rw [IntKind.wrap_i64, ← Int.natCast_mul]; omega
      have hdle : i * k / q ≤ 8000 := Nat.le_trans (Nat.div_le_self _ _) hmul
      have HN2 := hidden hownN
      have HB2 := hidden hblN
      clear e hown hbl hownN hblN
      obtain ⟨d, hd⟩ : ∃ d, i * k / q = d := ⟨_, rfl⟩
      rw [hd] at hdiv hdle HN2 HB2
      clear hd
      obtain ⟨m, hm⟩ : ∃ m : Int, (i : Int) * (k : Int) = m := ⟨_, rfl⟩
      have hm0 : 0 ≤ m ∧ m ≤ 8000 := by rw [← hm, ← Int.natCast_mul]; omega
      rw [hm] at hdiv hw
      go_wp2
      go_roundw
      case rel => exact ⟨i + 1, by omega, by go_num, HN2.out, HB2.out⟩
      case measure => simp [intOf]; omega
    · obtain rfl : i = q := by omega
      have HO : Hid (wr.ownsRow w.heap.size 3 1 (.slice (some ⟨w.heap.size, 0, none⟩) i i) i (intsV (selR S n k 0))) := hidden (by
        have e : nats i (fun j => if j < i then j * k / i else 0) = nats i (fun j => j * k / i) := nats_congr fun j hj => by rw [if_pos hj]
        rw [e, ← HS0.out] at hown
        exact hown)
      clear hown
      go_wp2
      go_loopw [9, 11] (fun vs sr wx => ∃ (r : Nat), r ≤ 2 ∧ sr = .int .i64 r ∧ Hid (wx.ownsRow w.heap.size 3 1 vs i (intsV (selR S n k r))) ∧ Below w.heap.size w wx) (fun _ sr _ => 2 - (intOf sr).toNat)
      case atStart => exact ⟨0, by omega, rfl, HO, hbl⟩
      case round =>
        clear HO hbl
        obtain ⟨r, hr2, rfl, HO, hbl⟩ := hrel
        obtain ⟨ag, cg, hsh⟩ := own_shape HO.out
        subst hsh
        have hsz := hbl.size
        have HI : Hid (∀ W, Below wr.heap.size wr W → Ints W W.heap.size ag (selR S n k r)) := hidden (fun W hW =>
          (Ints.ofOwn (own_bel HO.out hW) (by omega) (fun x hx => by have := HSM.out r x hx; omega)).2)
        have K1 := hidden (KT.out wr ag cg wr.heap.size (selR S n k r) hbl (HI.out wr (Below.refl _ _)) (Nat.le_refl _) (by omega) (HLR.out r))
        by_cases hrl : r < 2
        · go_wp2_with fail
          refine K1.out.mono ?_
          rintro e w3 ⟨v3, V3, rfl, o3, R3, A3, b3⟩
          have B3 := bel_then b3 hsz hbl
          obtain ⟨a3, c3, rfl⟩ := own_shape o3
          have hc3 := own_len12 o3
          have HT3 : Hid (Tabs w3 w3.heap.size a3 (tabL S (selR S n k r) n k)) := hidden (by
            have hk : (tabL S (selR S n k r) n k).length = k := tabL_len _ _ _ _
            exact tabs_own (by rw [hk]; exact o3) R3 (by rw [hk]; omega) (HFIT.out _))
          have hs3 := B3.size
          clear o3 R3 A3 b3 K1 HI
          go_wp2_with fail
          refine (KC.out w3 a3 c3 w3.heap.size _ B3 HT3.out (Nat.le_refl _) (by omega) hc3).mono ?_
          rintro e w4 ⟨v4, rfl, o4, b4⟩
          have B4 := bel_then b4 hs3 B3
          have HO4 : Hid (w4.ownsRow w.heap.size 3 1 v4 i (intsV (selR S n k (r + 1)))) := hidden (own_base12 o4 hs3)
          clear o4 b4
          go_wp2
          go_roundw
          case rel => exact ⟨r + 1, by omega, by go_num, HO4, B4⟩
          case measure => simp [intOf]; omega
        · obtain rfl : r = 2 := by omega
          go_wp2_with fail
          refine K1.out.mono ?_
          rintro e w3 ⟨v3, V3, rfl, o3, R3, A3, b3⟩
          have B3 := bel_then b3 hsz hbl
          have HO3 := hidden (own_bel HO.out b3)
          have HV3 := hidden (own_base12 o3 hsz)
          have HR3 : Hid (RowsAt w3 w.heap.size V3 (tabL S (selR S n k 2) n k)) := hidden ⟨R3.1, fun j hj => own_base12 (R3.2 j hj) hsz⟩
          have HA3 := hidden A3
          have HU3 : Hid (∀ j, j < V3.length → (Value.slice ag i cg).ownBlock = none ∨ (Value.slice ag i cg).ownBlock ≠ (V3.getD j undef).ownBlock) := hidden (fun j hj => apart_new12 HO.out (R3.2 j (by rw [← R3.1]; exact hj)))
          clear o3 R3 A3 b3 K1 HI
          go_wp2
          go_ret2
          exact ⟨v3, V3, _, rfl, HV3.out, HR3.out, HA3.out, HU3.out, HO3.out, B3⟩
end Go.Proofs.Ytaaahmfkdiogkaa
namespace Go.Proofs.Ytaaahmfkdiogkaa
set_option linter.unusedVariables false
set_option linter.unusedSimpArgs false
open Go.RowKit

set_option maxHeartbeats 1000000 in
set_option maxRecDepth 100000 in
theorem specChoose_no (a : Option Addr) (cap B : Nat) (S : List Int) (n k : Int) (w : World) (hz : Ints w B a S) (n1 : -9223372036854775808 ≤ n) (n2 : n ≤ 9223372036854775807) (h : choOk S n k = false) :
    Calls Try.prog 16 #[.slice a S.length cap, .int .i64 n, .int .i64 k] w fun e w' => e = .returned (.tuple #[.slice none 0 0, .slice none 0 0]) ∧ w = w' := by
  have KR : Hid (Calls Try.prog 50 #[.slice a S.length cap, .int .i64 n] w fun e w' => e = .returned (.bool (rowB S n)) ∧ w = w') := hidden (by
    exact (l12row_any a cap B S n w hz n1 n2).mono fun e w' h => ⟨h.1, h.2.symm⟩)
  unfold choOk at h
  by_cases hr : rowB S n = true
  · rw [hr] at KR h
    have hk : ¬ (1 ≤ k ∧ k ≤ 4) := by simpa using h
    by_cases h1 : k < 1
    · clear hz h hr
      go_enter Try.func16, Try.ntmps16
      go_wp2_with fail
      refine KR.out.mono ?_
      rintro e w1 ⟨rfl, rfl⟩
      go_wp2
      go_ret2
      exact ⟨rfl, rfl⟩
    · have h4 : 4 < k := by omega
      clear hz h hr
      go_enter Try.func16, Try.ntmps16
      go_wp2_with fail
      refine KR.out.mono ?_
      rintro e w1 ⟨rfl, rfl⟩
      go_wp2
      go_ret2
      exact ⟨rfl, rfl⟩
  · rw [Bool.eq_false_iff.2 hr] at KR
    clear hz h hr
    go_enter Try.func16, Try.ntmps16
    go_wp2_with fail
    refine KR.out.mono ?_
    rintro e w1 ⟨rfl, rfl⟩
    go_wp2
    go_ret2
    exact ⟨rfl, rfl⟩
def tbOk (T : List (List Int)) (n : Int) : Bool := decide (1 ≤ T.length ∧ T.length ≤ 4) && decide (∀ i, i < T.length → ((T.getD i []).length : Int) = n ∧ lOk (T.getD i []) = true)
theorem tbOk_iff (T : List (List Int)) (n : Int) : tbOk T n = true ↔ (1 ≤ T.length ∧ T.length ≤ 4) ∧ ∀ i, i < T.length → ((T.getD i []).length : Int) = n ∧ lOk (T.getD i []) = true := by
  unfold tbOk; rw [Bool.and_eq_true, decide_eq_true_eq, decide_eq_true_eq]
set_option maxHeartbeats 2000000 in
set_option maxRecDepth 100000 in
theorem specTablesOk_any (at2 : Option Addr) (capT B : Nat) (T : List (List Int)) (n : Int) (w : World) (hT : Tabs w B at2 T) :
    Calls Try.prog 26 #[.slice at2 T.length capT, .int .i64 n] w fun e w' => e = .returned (.bool (tbOk T n)) ∧ w = w' := by
  have HIF := hidden (tbOk_iff T n)
  have HT := hidden hT
  have hTl := hT.1
  obtain ⟨M, hM⟩ : ∃ M, T.length = M := ⟨_, rfl⟩
  have HM := hidden hM
  obtain ⟨r, hr⟩ : ∃ r, tbOk T n = r := ⟨_, rfl⟩
  rw [hr] at HIF ⊢
  rw [hM] at hTl HIF ⊢
  clear hT hM hr
  by_cases hb : 1 ≤ M ∧ M ≤ 4
  · obtain ⟨h1, h4⟩ := hb
    go_enter Try.func26, Try.ntmps26
    go_wp2
    go_loopw [5] (fun si wr => ∃ (i : Nat), i ≤ M ∧ si = .int .i64 i ∧ Hid (∀ j, j < i → ((T.getD j []).length : Int) = n ∧ lOk (T.getD j []) = true) ∧ wr = w) (fun si _ => M - (intOf si).toNat)
    case atStart => exact ⟨0, by omega, rfl, hidden (fun j h => by omega), rfl⟩
    case round =>
      obtain ⟨i, hi, rfl, HP, hw⟩ := hrel
      subst hw
      by_cases hlt : i < M
      · obtain ⟨b, off, a2, c2, e, hb, hc, hle, hz⟩ := HT.out.at (i := i) (by rw [HM.out]; exact hlt)
        subst e
        have K : Hid (Calls Try.prog 62 #[.slice a2 (T.getD i []).length c2] wr fun e w' => e = .returned (.bool (lOk (T.getD i []))) ∧ wr = w') := hidden ((specLensOk_any a2 c2 B (T.getD i []) wr hz).mono fun e w' h => ⟨h.1, h.2.symm⟩)
        obtain ⟨z, hz'⟩ : ∃ z, T.getD i [] = z := ⟨_, rfl⟩
        have HZ := hidden hz'
        rw [hz'] at hc hle K
        obtain ⟨L, hL⟩ : ∃ L, z.length = L := ⟨_, rfl⟩
        have HL := hidden hL
        rw [hL] at hc hle K
        have HP2 : Hid (∀ q, lOk z = q → (L : Int) = n → q = true → ∀ j, j < i + 1 → ((T.getD j []).length : Int) = n ∧ lOk (T.getD j []) = true) := hidden (fun q h1 h2 h3 j hj => by
          by_cases e : j = i
          · subst e; rw [HZ.out, h1, h3, HL.out]; exact ⟨h2, rfl⟩
          · exact HP.out j (by omega))
        have HF : Hid ((¬ ((L : Int) = n ∧ lOk z = true)) → r = false) := hidden (fun h => by
          rw [Bool.eq_false_iff]
          intro ht
          have := (HIF.out.1 ht).2 i hlt
          rw [HZ.out, HL.out] at this
          exact h this)
        clear hz hz' hL
        obtain ⟨q, hq⟩ : ∃ q, lOk z = q := ⟨_, rfl⟩
        rw [hq] at K HF
        replace HP2 := hidden (HP2.out q hq)
        clear hq
        by_cases hn : (L : Int) = n
        · cases q with
          | true =>
            go_wp2_with fail
            refine K.out.mono ?_
            rintro e w1 ⟨rfl, rfl⟩
            go_wp2
            go_roundw
            case rel => exact ⟨i + 1, by omega, by go_num, hidden (HP2.out hn (by trivial)), by trivial⟩
            case measure => simp [intOf]; omega
          | false =>
            have hr : r = false := HF.out (by simp)
            go_wp2_with fail
            refine K.out.mono ?_
            rintro e w1 ⟨rfl, rfl⟩
            go_wp2
            go_ret
            first | exact ⟨ret_bool hr.symm, rfl⟩ | exact ⟨rfl, rfl⟩
        · have hr : r = false := HF.out (fun h => hn h.1)
          have hn2 : ((L : Int) != n) = true := by simpa using hn
          go_wp2
          go_ret
          first | exact ⟨ret_bool hr.symm, rfl⟩ | exact ⟨rfl, rfl⟩
      · obtain rfl : i = M := by omega
        have hr : r = true := HIF.out.2 ⟨⟨h1, h4⟩, HP.out⟩
        go_wp2
        go_ret
        first | exact ⟨ret_bool hr.symm, rfl⟩ | exact ⟨rfl, rfl⟩
  · have hr : r = false := by
      rw [Bool.eq_false_iff]
      intro ht
      exact hb (HIF.out.1 ht).1
    by_cases h1 : M < 1
    · go_enter Try.func26, Try.ntmps26
      go_wp2
      go_ret
      first | exact ⟨ret_bool hr.symm, rfl⟩ | exact ⟨rfl, rfl⟩
    · have h4 : 4 < M := by omega
      go_enter Try.func26, Try.ntmps26
      go_wp2
      go_ret
      first | exact ⟨ret_bool hr.symm, rfl⟩ | exact ⟨rfl, rfl⟩
end Go.Proofs.Ytaaahmfkdiogkaa
namespace Go.Proofs.Ytaaahmfkdiogkaa
set_option linter.unusedVariables false
set_option linter.unusedSimpArgs false
open Go.RowKit

/-- The alphabet's size: the first table's. -/
def tbN (T : List (List Int)) : Nat := (T.getD 0 []).length
def cdOk (S : List Int) (T : List (List Int)) (G : List Int) : Bool := tbOk T (tbN T) && (rowB S (tbN T) && (decide (G.length = grp S.length) && symsB T.length G))
theorem cdOk_iff (S : List Int) (T : List (List Int)) (G : List Int) : cdOk S T G = true ↔ tbOk T (tbN T) = true ∧ rowB S (tbN T) = true ∧ G.length = grp S.length ∧ symsB T.length G = true := by
  unfold cdOk; rw [Bool.and_eq_true, Bool.and_eq_true, Bool.and_eq_true, decide_eq_true_eq]
theorem symsB_nil (n : Nat) : symsB n [] = true := by rw [symsB_iff]; exact ⟨by simp, fun k hk => by simp at hk⟩
set_option maxHeartbeats 4000000 in
set_option maxRecDepth 100000 in
theorem l12ok_any (a at2 a3 : Option Addr) (cap capT cap3 B : Nat) (S G : List Int) (T : List (List Int)) (w : World) (hz : Ints w B a S) (hT : Tabs w B at2 T) (hz3 : Ints w B a3 G) (hct : T.length ≤ capT) :
    Calls Try.prog 78 #[.slice a S.length cap, .slice at2 T.length capT, .slice a3 G.length cap3] w fun e w' => e = .returned (.bool (cdOk S T G)) ∧ w = w' := by
  have HDF : Hid (cdOk S T G = (tbOk T (tbN T) && (rowB S (tbN T) && (decide (G.length = grp S.length) && symsB T.length G)))) := hidden rfl
  have hTl := hT.1
  have hSl := hz.1
  have hGl := hz3.1
  by_cases h0 : T.length = 0
  · have hF : cdOk S T G = false := by
      rw [HDF.out]
      have : tbOk T (tbN T) = false := by rw [Bool.eq_false_iff, Ne, tbOk_iff]; omega
      rw [this]; rfl
    rw [h0, hF]
    clear hz hT hz3 HDF hF
    go_enter Try.func78, Try.ntmps78
    go_wp2
    go_ret
    exact ⟨rfl, rfl⟩
  · obtain ⟨b, off, a2, c2, e, hb, hc, hle, hz0⟩ := hT.at (i := 0) (by omega)
    subst e
    rw [Nat.add_zero] at hc
    have hN : (T.getD 0 []).length = tbN T := rfl
    rw [hN] at hc hle
    have hNl := hz0.1
    rw [hN] at hNl
    have K1 := hidden (specTablesOk_any (some ⟨b, off, none⟩) capT B T (tbN T) w hT)
    have K2 : Hid (Calls Try.prog 50 #[.slice a S.length cap, .int .i64 (tbN T)] w fun e w' => e = .returned (.bool (rowB S (tbN T))) ∧ w = w') := hidden ((l12row_any a cap B S (tbN T) w hz (by omega) (by omega)).mono fun e w' h => ⟨h.1, h.2.symm⟩)
    have K3 : Hid (S.length ≤ 2000 → Calls Try.prog 49 #[.int .i64 S.length] w fun e w' => e = .returned (.int .i64 (grp S.length)) ∧ w = w') := hidden (fun h => l12groups_any S.length w (by omega))
    have K4 : Hid (Calls Try.prog 84 #[.int .i64 T.length, .slice a3 G.length cap3] w fun e w' => e = .returned (.bool (symsB T.length G)) ∧ w = w') := hidden ((l4symsOk_any a3 cap3 B T.length G w hz3 hTl).mono fun e w' h => ⟨h.1, h.2.symm⟩)
    have HR : Hid (rowB S (tbN T) = true → S.length ≤ 2000) := hidden (fun h => ((rowB_iff _ _).1 h).2.1)
    have HG0 : Hid (G.length = 0 → symsB T.length G = true) := hidden (fun h => by rw [List.eq_nil_of_length_eq_zero h]; exact symsB_nil _)
    obtain ⟨n, hn⟩ : ∃ n, tbN T = n := ⟨_, rfl⟩
    obtain ⟨M, hM⟩ : ∃ M, T.length = M := ⟨_, rfl⟩
    obtain ⟨N, hN2⟩ : ∃ N, S.length = N := ⟨_, rfl⟩
    obtain ⟨Q, hQ⟩ : ∃ Q, G.length = Q := ⟨_, rfl⟩
    rw [hn] at hc hle hNl K1 K2 HR HDF
    rw [hM] at K1 K4 HG0 HDF h0 hTl hct ⊢
    rw [hN2] at K2 K3 HR HDF hSl ⊢
    rw [hQ] at K4 HG0 HDF hGl ⊢
    clear hz hT hz3 hz0 hN hn hM hN2 hQ
    obtain ⟨r, hr⟩ : ∃ r, cdOk S T G = r := ⟨_, rfl⟩
    obtain ⟨t1, ht1⟩ : ∃ t, tbOk T (n : Int) = t := ⟨_, rfl⟩
    obtain ⟨t2, ht2⟩ : ∃ t, rowB S (n : Int) = t := ⟨_, rfl⟩
    obtain ⟨t4, ht4⟩ : ∃ t, symsB M G = t := ⟨_, rfl⟩
    rw [hr, ht1, ht2, ht4] at HDF
    rw [ht1] at K1
    rw [ht2] at K2 HR
    rw [ht4] at K4 HG0
    rw [hr]
    clear hr ht1 ht2 ht4
    cases t1 with
    | false =>
      have hF : Hid (r = false) := hidden (by rw [HDF.out]; rfl)
      go_enter Try.func78, Try.ntmps78
      go_wp2_with fail
      refine K1.out.mono ?_
      rintro e w1 ⟨rfl, rfl⟩
      go_wp2
      go_ret
      exact ⟨ret_bool hF.out.symm, rfl⟩
    | true =>
      cases t2 with
      | false =>
        have hF : Hid (r = false) := hidden (by rw [HDF.out]; rfl)
        go_enter Try.func78, Try.ntmps78
        go_wp2_with fail
        refine K1.out.mono ?_
        rintro e w1 ⟨rfl, rfl⟩
        go_wp2_with fail
        refine K2.out.mono ?_
        rintro e w1 ⟨rfl, rfl⟩
        go_wp2
        go_ret
        exact ⟨ret_bool hF.out.symm, rfl⟩
      | true =>
        have K3' := hidden (K3.out (HR.out rfl))
        by_cases hg : Q = grp N
        · have hgI : ((Q : Int) != (grp N : Int)) = false := by rw [hg]; simp
          by_cases hq0 : Q = 0
          · have hF : Hid (r = true) := hidden (by rw [HDF.out, HG0.out hq0, decide_eq_true hg]; rfl)
            subst hq0
            have hgI2 : ((0 : Int) != (grp N : Int)) = false := hgI
            have hg0 : grp N = 0 := hg.symm
            have hM0 : ((M : Int) == 0) = false := beq_eq_false_iff_ne.2 (by omega)
            clear hg hgI
            go_enter Try.func78, Try.ntmps78
            go_wp2_with fail
            refine K1.out.mono ?_
            rintro e w1 ⟨rfl, rfl⟩
            go_wp2_with fail
            refine K2.out.mono ?_
            rintro e w1 ⟨rfl, rfl⟩
            go_wp2_with fail
            refine K3'.out.mono ?_
            rintro e w1 ⟨rfl, rfl⟩
            go_wp2
            go_ret
            exact ⟨ret_bool hF.out.symm, rfl⟩
          · have hF : Hid (r = t4) := hidden (by rw [HDF.out, decide_eq_true hg]; simp)
            have hq0I : ((Q : Int) == 0) = false := by rw [beq_eq_false_iff_ne]; omega
            clear hg
            go_enter Try.func78, Try.ntmps78
            go_wp2_with fail
            refine K1.out.mono ?_
            rintro e w1 ⟨rfl, rfl⟩
            go_wp2_with fail
            refine K2.out.mono ?_
            rintro e w1 ⟨rfl, rfl⟩
            go_wp2_with fail
            refine K3'.out.mono ?_
            rintro e w1 ⟨rfl, rfl⟩
            go_wp2_with fail
            refine K4.out.mono ?_
            rintro e w1 ⟨rfl, rfl⟩
            go_wp2
            go_ret
            exact ⟨ret_bool (by rw [hF.out]), rfl⟩
        · have hF : Hid (r = false) := hidden (by rw [HDF.out, decide_eq_false hg]; simp)
          have hgI : ((Q : Int) != (grp N : Int)) = true := by rw [bne_iff_ne]; omega
          clear hg
          go_enter Try.func78, Try.ntmps78
          go_wp2_with fail
          refine K1.out.mono ?_
          rintro e w1 ⟨rfl, rfl⟩
          go_wp2_with fail
          refine K2.out.mono ?_
          rintro e w1 ⟨rfl, rfl⟩
          go_wp2_with fail
          refine K3'.out.mono ?_
          rintro e w1 ⟨rfl, rfl⟩
          go_wp2
          go_ret
          exact ⟨ret_bool hF.out.symm, rfl⟩
/-- The bits of the first groups, each with its table. -/
def cbF (S : List Int) (T : List (List Int)) (G : List Int) : Nat → Int
  | 0 => 0
  | g + 1 => cbF S T G g + bitG S (T.getD (G.getD g 0).toNat []) g
def cbZ (S : List Int) (T : List (List Int)) (G : List Int) : Int := if cdOk S T G = true then cbF S T G G.length else -1
/-- What the checks give. -/
theorem cdOk_tab {S G : List Int} {T : List (List Int)} (h : cdOk S T G = true) : TabOk S T (tbN T) ∧ 1 ≤ T.length ∧ T.length ≤ 4 ∧ 1 ≤ tbN T ∧ tbN T ≤ 260 ∧ G.length = grp S.length ∧ (∀ g, g < G.length → 0 ≤ G.getD g 0 ∧ G.getD g 0 < (T.length : Int)) ∧ ∀ i, i < T.length → lOk (T.getD i []) = true := by
  obtain ⟨h1, h2, h3, h4⟩ := (cdOk_iff S T G).1 h
  obtain ⟨⟨h5, h6⟩, h7⟩ := (tbOk_iff _ _).1 h1
  obtain ⟨⟨h8, h9⟩, h10, h11⟩ := (rowB_iff _ _).1 h2
  have h12 := (symsB_iff _ _).1 h4
  refine ⟨⟨fun i hi => ⟨by have := (h7 i hi).1; omega, fun k hk => ?_⟩, h11, h10⟩, h5, h6, by omega, by omega, h3, h12.2, fun i hi => (h7 i hi).2⟩
  have := (lOk_range (h7 i hi).2).2.2 k hk
  omega
theorem cbF_range {S G : List Int} {T : List (List Int)} {n : Nat} (hT : TabOk S T n) (hG : ∀ g, g < G.length → 0 ≤ G.getD g 0 ∧ G.getD g 0 < (T.length : Int)) : ∀ g, g ≤ G.length → 0 ≤ cbF S T G g ∧ cbF S T G g ≤ 200 * g
  | 0, _ => by simp [cbF]
  | g + 1, h => by
    have ih := cbF_range hT hG g (by omega)
    have hg := hG g (by omega)
    have hb := bitF_range (S := S) ((hT.1 (G.getD g 0).toNat (by omega)).2) (10 * g) 10
    unfold cbF
    have e : bitG S (T.getD (G.getD g 0).toNat []) g = bitF S (T.getD (G.getD g 0).toNat []) (10 * g) 10 := rfl
    rw [e]
    omega
set_option maxHeartbeats 4000000 in
set_option maxRecDepth 100000 in
theorem specCodedBits_any (a at2 a3 : Option Addr) (cap capT cap3 B : Nat) (S G : List Int) (T : List (List Int)) (w : World) (hz : Ints w B a S) (hT : Tabs w B at2 T) (hz3 : Ints w B a3 G) (hct : T.length ≤ capT) :
    Calls Try.prog 39 #[.slice a S.length cap, .slice at2 T.length capT, .slice a3 G.length cap3] w fun e w' => e = .returned (.int .i64 (cbZ S T G)) ∧ w = w' := by
  have KO := hidden (l12ok_any a at2 a3 cap capT cap3 B S G T w hz hT hz3 hct)
  by_cases hok : cdOk S T G = true
  · have hZ : Hid (cbZ S T G = cbF S T G G.length) := hidden (by unfold cbZ; rw [if_pos hok])
    obtain ⟨hTab, h1, h4, hn1, hn2, hGl, hG, _⟩ := cdOk_tab hok
    rw [hok] at KO
    have HR := hidden (fun g => cbF_range hTab hG g)
    have HTB := hidden hTab
    have HG := hidden hG
    have hSl := hTab.2.2
    have hq : G.length ≤ 200 := by rw [hGl]; unfold grp; omega
    have HZ := hidden hz
    have HT := hidden hT
    have HZ3 := hidden hz3
    have HST : Hid (∀ g, cbF S T G (g + 1) = cbF S T G g + bitG S (T.getD (G.getD g 0).toNat []) g) := hidden (fun g => rfl)
    obtain ⟨Q, hQ⟩ : ∃ Q, G.length = Q := ⟨_, rfl⟩
    obtain ⟨M, hM⟩ : ∃ M, T.length = M := ⟨_, rfl⟩
    obtain ⟨N, hN⟩ : ∃ N, S.length = N := ⟨_, rfl⟩
    have HN := hidden hN
    have HM := hidden hM
    have HQ := hidden hQ
    rw [hQ] at KO hZ HR HG hq ⊢
    rw [hM] at KO HG h1 h4 hct ⊢
    rw [hN] at KO ⊢
    obtain ⟨n, hn⟩ : ∃ n, tbN T = n := ⟨_, rfl⟩
    rw [hn] at HTB
    clear hz hT hz3 hok hTab hG hGl hQ hM hN hn hn1 hn2 hSl
    go_enter Try.func39, Try.ntmps39
    go_wp2_with fail
    refine KO.out.mono ?_
    rintro e w1 ⟨rfl, rfl⟩
    go_wp2
    go_loopw [7, 8] (fun sn sg wr => ∃ (g : Nat), g ≤ Q ∧ sg = .int .i64 g ∧ sn = .int .i64 (cbF S T G g) ∧ wr = w) (fun _ sg _ => Q - (intOf sg).toNat)
    case atStart => exact ⟨0, by omega, rfl, rfl, rfl⟩
    case round =>
      obtain ⟨g, hg, rfl, rfl, hw⟩ := hrel
      subst hw
      by_cases hlt : g < Q
      · have hgr := HG.out g hlt
        obtain ⟨x, hx⟩ : ∃ x : Nat, G.getD g 0 = (x : Int) := ⟨(G.getD g 0).toNat, by omega⟩
        have hxM : x < M := by omega
        have hr1 := HR.out g (by omega)
        have hr2 := HR.out (g + 1) (by omega)
        have hst := HST.out g
        rw [hx, Int.toNat_natCast] at hst
        obtain ⟨b3, off3, e3, hb3, hcell3⟩ := HZ3.out.2.2 (by rw [HQ.out]; omega)
        have c3 := hcell3 g (by rw [HQ.out]; exact hlt)
        rw [hx] at c3
        obtain ⟨tb, to, at4, ct4, e4, htb, ck, hck, zk⟩ := HT.out.at (i := x) (by rw [HM.out]; exact hxM)
        have l1 := (HTB.out.1 x (by rw [HM.out]; exact hxM)).1
        rw [l1] at ck hck
        have K1 := hidden (fun W hW => bits_k HTB.out (cap := cap) (cap2 := ct4) (g := g) HZ.out (by rw [HM.out]; exact hxM) zk (by omega) W hW)
        rw [HN.out] at K1
        subst e3 e4
        have K2 := hidden (K1.out _ rfl)
        obtain ⟨y, hy⟩ : ∃ y, bitG S (T.getD x []) g = y := ⟨_, rfl⟩
        obtain ⟨z, hz⟩ : ∃ z, cbF S T G g = z := ⟨_, rfl⟩
        rw [hy] at K2 hst
        rw [hz] at hst hr1 ⊢
        rw [hst] at hr2
        have HS2 := hidden hst
        clear hcell3 hx hgr zk l1 K1 hy hz hst
        go_wp2_with fail
        refine K2.out.mono ?_
        rintro e w2 ⟨rfl, rfl⟩
        go_wp2
        go_roundw
        case rel => exact ⟨g + 1, by omega, by go_num, by rw [HS2.out], by trivial⟩
        case measure => simp [intOf]; omega
      · obtain rfl : g = Q := by omega
        go_wp2
        go_ret
        exact ⟨ret_int hZ.out.symm, rfl⟩
  · have hZ : Hid (cbZ S T G = -1) := hidden (by unfold cbZ; rw [if_neg hok])
    rw [Bool.eq_false_iff.2 hok] at KO
    obtain ⟨Q, hQ⟩ : ∃ Q, G.length = Q := ⟨_, rfl⟩
    obtain ⟨M, hM⟩ : ∃ M, T.length = M := ⟨_, rfl⟩
    obtain ⟨N, hN⟩ : ∃ N, S.length = N := ⟨_, rfl⟩
    rw [hQ, hM, hN] at KO ⊢
    clear hz hT hz3 hok hQ hM hN hct
    go_enter Try.func39, Try.ntmps39
    go_wp2_with fail
    refine KO.out.mono ?_
    rintro e w1 ⟨rfl, rfl⟩
    go_wp2
    go_ret
    exact ⟨ret_int hZ.out.symm, rfl⟩
end Go.Proofs.Ytaaahmfkdiogkaa
namespace Go.Proofs.Ytaaahmfkdiogkaa
set_option linter.unusedVariables false
set_option linter.unusedSimpArgs false
open Go.RowKit

/-- Each number as so many ones, and a zero. -/
def unaL : List Nat → List Nat
  | [] => []
  | x :: D => List.replicate x 1 ++ 0 :: unaL D
theorem unaL_snoc (D : List Nat) (x : Nat) : unaL (D ++ [x]) = unaL D ++ (List.replicate x 1 ++ [0]) := by
  induction D with
  | nil => simp [unaL]
  | cons y D ih => simp [unaL, ih]
theorem unaL_two (D : List Nat) : ∀ b ∈ unaL D, b < 2 := by
  induction D with
  | nil => simp [unaL]
  | cons y D ih =>
    intro b hb
    rcases List.mem_append.1 hb with h | h
    · rw [List.eq_of_mem_replicate h]; decide
    · rcases List.mem_cons.1 h with rfl | h
      · decide
      · exact ih b h
theorem unaL_len {D : List Nat} {k : Nat} (h : ∀ x ∈ D, x < k) : (unaL D).length ≤ D.length * k := by
  induction D with
  | nil => simp [unaL]
  | cons y D ih =>
    have h1 := h y (List.mem_cons_self ..)
    have h2 := ih (fun x hx => h x (List.mem_cons_of_mem _ hx))
    simp only [unaL, List.length_append, List.length_replicate, List.length_cons]
    rw [Nat.succ_mul]
    omega
/-- What is written of an assignment. -/
def mtfD (z : List Int) (k : Nat) : List Nat := runF mtfF (List.range k) (z.map Int.toNat)
def selOk (z : List Int) (k : Int) : Bool := decide (1 ≤ k ∧ k ≤ 4) && rOk z k
theorem mtfD_lt {z : List Int} {k : Nat} (h : rOk z k = true) : ∀ x ∈ mtfD z k, x < k := by
  obtain ⟨L, m, rfl, hm, _, _, _, hL⟩ := rOk_nats h
  obtain rfl : k = m := by omega
  unfold mtfD
  rw [ints_toNat]
  exact mtf_lt hL
theorem own_len10 {w : World} {base n c : Nat} {e : TypeId} {a : Option Addr} {xs : List Value} (h : w.ownsRow base e 1 (.slice a n c) n xs) : n ≤ c := by
  rcases h.2 with ⟨hv, h0⟩ | ⟨g, cap, cur, hv, _, _, hle, _⟩
  · omega
  · simp only [Value.slice.injEq] at hv
    obtain ⟨_, _, rfl⟩ := hv
    exact hle
theorem own_base10 {w : World} {base base' : Nat} {e : TypeId} {size : Nat} {v : Value} {n : Nat} {xs : List Value} (h : w.ownsRow base e size v n xs) (hb : base' ≤ base) : w.ownsRow base' e size v n xs :=
  ⟨h.1, h.2.imp id fun ⟨g, cap, cur, a, b, c⟩ => ⟨g, cap, cur, a, Nat.le_trans hb b, c⟩⟩
theorem mtfD_len (z : List Int) (k : Nat) : (mtfD z k).length = z.length := by unfold mtfD; rw [runF_len, List.length_map]
set_option maxHeartbeats 2000000 in
set_option maxRecDepth 100000 in
theorem l12putSels_any (a : Option Addr) (cap B k : Nat) (z : List Int) (w : World) (hz : Ints w B a z) (hB : B ≤ w.heap.size) (hk : k ≤ 4) (hok : rOk z k = true) :
    Calls Try.prog 67 #[.slice a z.length cap, .int .i64 k] w fun e w' => ∃ v, e = .returned v ∧ w'.ownsRow w.heap.size 5 1 v (unaL (mtfD z k)).length (u8s (unaL (mtfD z k))) ∧ Below w.heap.size w w' := by
  obtain ⟨i0, hi, hz0, hz1, hz2⟩ := info_parts Try.info5
  have h6 := ((rOk_iff z k).1 hok).2.2.1
  have KM := hidden (specMtf_any a cap B z k w hz hB (by omega) (by omega) (by omega))
  have hZ : mtfZ z k = ints (mtfD z k) := by unfold mtfZ mtfD; rw [if_pos hok, Int.toNat_natCast]
  rw [hZ, ints_len, intsV_ints, mtfD_len] at KM
  have HML : Hid (∀ x ∈ mtfD z k, x < 4) := hidden (fun x hx => by
    have := mtfD_lt hok x hx
    omega)
  have HDL := hidden (mtfD_len z k)
  obtain ⟨N, hN⟩ : ∃ N, z.length = N := ⟨_, rfl⟩
  rw [hN] at h6 KM HDL ⊢
  clear hz hok hN hZ
  generalize mtfD z k = D at KM HML HDL ⊢
  go_enter Try.func67, Try.ntmps67
  go_wp2_with fail
  refine KM.out.mono ?_
  rintro e w1 ⟨vm, rfl, om, bm⟩
  obtain ⟨am, cm, rfl⟩ := own_shape om
  have hcm := own_len10 om
  have HOM : Hid (∀ W, Below w1.heap.size w1 W → ∀ (i x : Nat), D[i]? = some x → ∃ g, am = some ⟨g, 0, none⟩ ∧ W.cell? ⟨g, i, none⟩ = some (.int .i64 (x : Int))) := hidden (fun W hW i x hx => by
    have h := own_bel om hW
    rcases h.2 with ⟨hv, h0⟩ | ⟨g, c, cur, hv, _⟩
    · have hl := (List.getElem?_eq_some_iff.1 hx).1
      rw [HDL.out] at hl
      omega
    · simp only [Value.slice.injEq] at hv
      obtain ⟨rfl, _, rfl⟩ := hv
      have hl := (List.getElem?_eq_some_iff.1 hx).1
      rw [HDL.out] at hl
      refine ⟨g, rfl, ?_⟩
      have := h.cellAt i (by omega)
      rw [this]
      unfold natsL
      rw [List.getElem?_map, hx]; rfl)
  clear om KM
  go_wp2
  go_loopw [5, 7, 8] (fun vo si _ wr => ∃ (i l : Nat), i ≤ N ∧ l ≤ i * 4 ∧ si = .int .i64 i ∧ Hid ((unaL (D.take i)).length = l) ∧ wr.ownsRow w1.heap.size 5 1 vo l (u8s (unaL (D.take i))) ∧ Below w1.heap.size w1 wr) (fun _ si _ _ => N - (intOf si).toNat)
  case atStart => exact ⟨0, 0, by omega, by omega, rfl, hidden rfl, World.ownsRow_nil _ _ _ _, Below.refl _ _⟩
  case round =>
    obtain ⟨i, l, hi2, hl4, rfl, HLU, hown, hbl⟩ := hrel
    obtain ⟨u, hu⟩ : ∃ u, u = wr := ⟨_, rfl⟩
    subst hu
    by_cases hlt : i < N
    · obtain ⟨x, hx⟩ : ∃ x, D[i]? = some x := ⟨D[i]'(by rw [HDL.out]; exact hlt), List.getElem?_eq_getElem _⟩
      have hx4 : x < 4 := HML.out x (List.mem_of_getElem? hx)
      have HX := hidden hx
      have HTK : Hid (unaL (D.take (i + 1)) = unaL (D.take i) ++ (List.replicate x 1 ++ [0])) := hidden (by
        rw [List.take_add_one, hx]; exact unaL_snoc _ _)
      clear hx
      obtain ⟨U, hU⟩ : ∃ U, unaL (D.take i) = U := ⟨_, rfl⟩
      rw [hU] at HLU HTK hown
      clear hU
      go_wp2
      go_loopw [5, 8] (fun vo sj wy => ∃ (j : Nat), j ≤ x ∧ sj = .int .i64 j ∧ wy.ownsRow w1.heap.size 5 1 vo (l + j) (u8s (U ++ List.replicate j 1)) ∧ Below w1.heap.size w1 wy) (fun _ sj _ => x - (intOf sj).toNat)
      case atStart => exact ⟨0, by omega, rfl, by simpa using hown, hbl⟩
      case round =>
        clear hown hbl
        obtain ⟨j, hj, rfl, hown, hbl⟩ := hrel
        have hsz := hbl.size
        obtain ⟨gm, rfl, cm1⟩ := HOM.out wr hbl i x HX.out
        by_cases hjx : j < x
        · have HRP : Hid (U ++ List.replicate (j + 1) 1 = (U ++ List.replicate j 1) ++ [1]) := hidden (by rw [List.append_assoc, List.replicate_succ'])
          go_wp2_with (at_builtin; refine wpList_append_own _ rfl _ _ 59 rfl w1.heap.size 5 i0 (.int .u8 0) 1 1 Try.underlying59 hi hz0 hz1 hz2 rfl (by decide) _ _ _ rfl (hown.alloc _) ⟨wr.heap.size, 0, none⟩ 1 1 [.int .u8 1] rfl rfl ?c1 ?c2 ?c3 ?c4 ?c5 ?_)
          case c1 => exact cell_one_new _ _ _
          case c2 => exact fun u hu => by simp at hu; subst hu; rfl
          case c3 => unfold maxLen; omega
          case c4 => omega
          case c5 => first | omega | (simp; omega)
          intro v5 w5 hown5 hgrow _
          have hb5 := bel_app hbl hsz hown hgrow
          have HO5 : Hid (w5.ownsRow w1.heap.size 5 1 v5 (l + (j + 1)) (u8s (U ++ List.replicate (j + 1) 1))) := hidden (by rw [HRP.out, u8s_snoc]; exact hown5)
          clear hown hown5 hgrow hbl
          go_wp2
          go_roundw
          case rel => exact ⟨j + 1, by omega, by go_num, HO5.out, hb5⟩
          case measure => simp [intOf]; omega
        · obtain rfl : j = x := by omega
          go_wp2_with (at_builtin; refine wpList_append_own _ rfl _ _ 59 rfl w1.heap.size 5 i0 (.int .u8 0) 1 1 Try.underlying59 hi hz0 hz1 hz2 rfl (by decide) _ _ _ rfl (hown.alloc _) ⟨wr.heap.size, 0, none⟩ 1 1 [.int .u8 0] rfl rfl ?c1 ?c2 ?c3 ?c4 ?c5 ?_)
          case c1 => exact cell_one_new _ _ _
          case c2 => exact fun u hu => by simp at hu; subst hu; rfl
          case c3 => unfold maxLen; omega
          case c4 => omega
          case c5 => first | omega | (simp; omega)
          intro v5 w5 hown5 hgrow _
          have hb5 := bel_app hbl hsz hown hgrow
          have HO5 : Hid (w5.ownsRow w1.heap.size 5 1 v5 (l + j + 1) (u8s (unaL (D.take (i + 1))))) := hidden (by rw [HTK.out, ← List.append_assoc, u8s_snoc]; exact hown5)
          have HL5 : Hid ((unaL (D.take (i + 1))).length = l + j + 1) := hidden (by rw [HTK.out]; simp [HLU.out]; omega)
          clear hown hown5 hgrow hbl
          go_wp2
          go_roundw
          case rel => exact ⟨i + 1, l + j + 1, by omega, by omega, by go_num, HL5, HO5.out, hb5⟩
          case measure => simp [intOf]; omega
    · obtain rfl : i = N := by omega
      have HT2 : Hid (D.take i = D) := hidden (List.take_of_length_le (by rw [HDL.out]; exact Nat.le_refl _))
      rw [HT2.out] at HLU hown
      have HO := hidden (own_base10 hown bm.size)
      have BB := bel_then hbl bm.size bm
      clear hown hbl
      go_wp2
      go_ret
      exact ⟨_, rfl, by rw [HLU.out]; exact HO.out, BB⟩
set_option maxHeartbeats 2000000 in
set_option maxRecDepth 100000 in
theorem specPutSels_yes (a : Option Addr) (cap B k : Nat) (z : List Int) (w : World) (hz : Ints w B a z) (hB : B ≤ w.heap.size) (hk1 : 1 ≤ k) (hk : k ≤ 4) (hok : rOk z k = true) :
    Calls Try.prog 29 #[.slice a z.length cap, .int .i64 k] w fun e w' => ∃ D, Packs D (unaL (mtfD z k)) ∧ e = .returned (.tuple #[.agg #[.string (strOf D), .int .i64 ((unaL (mtfD z k)).length : Int)], .bool true]) ∧ Below w.heap.size w w' := by
  have HI := hidden hz
  have bb : Below w.heap.size w (w.alloc (.cells #[.string ⟨#[]⟩, .int .i64 0] 40)) := (Below.refl _ _).alloc (Nat.le_refl _) _
  have hR := Has.fresh w 40 #[.string ⟨#[]⟩, .int .i64 0]
  have hzl := ((rOk_iff z k).1 hok).2.2.1
  have K1 : Hid (∀ W, Ints W B a z → Calls Try.prog 65 #[.slice a z.length cap, .int .i64 k] W fun e w' => e = .returned (.bool true) ∧ W = w') := hidden (fun W h => by
    have := specRanksOk_any a cap B z k W h (by omega) (by omega) (by omega)
    rw [hok] at this
    exact this)
  have K3 := hidden (fun W h h2 => l12putSels_any a cap B k z W h h2 hk hok)
  have hle : (unaL (mtfD z k)).length ≤ 2400 := by
    have := unaL_len (mtfD_lt hok)
    rw [mtfD_len] at this
    have h2 : z.length * k ≤ 600 * 4 := Nat.mul_le_mul hzl hk
    omega
  have K4 := hidden (fun (W : World) v base h => l1close_own (unaL (mtfD z k)) (unaL_two _) v base W (by omega) h)
  obtain ⟨P, hP⟩ : ∃ P, unaL (mtfD z k) = P := ⟨_, rfl⟩
  obtain ⟨n, hn⟩ : ∃ n, z.length = n := ⟨_, rfl⟩
  rw [hP] at K3 K4 ⊢
  rw [hn] at K1 K3 ⊢
  clear hz hok hle hP hn hzl
  go_enter Try.func29, Try.ntmps29
  go_wp2_with fail
  refine (K1.out _ (HI.out.below (bb.mono hB))).mono ?_
  rintro e w1 ⟨rfl, hw1⟩
  rw [hw1] at hR bb
  clear hw1
  have hs2 := bb.size
  go_wp2_with fail
  refine (K3.out _ (HI.out.below (bb.mono hB)) (Nat.le_trans hB hs2)).mono ?_
  rintro e w3 ⟨v, rfl, hown, b3⟩
  replace bb := bel_then b3 hs2 bb
  replace hR := hR.below b3 hR.lt
  have hs3 := bb.size
  clear b3
  go_wp2_with fail
  refine (K4.out _ _ _ hown).mono ?_
  rintro e w4 ⟨D, hD, rfl, b4⟩
  replace bb := bel_then b4 hs3 bb
  replace hR := hR.below b4 hR.lt
  have e0 := hR.cell 0
  have e1 := hR.cell 1
  have g0 := hR.free 0
  have g1 := hR.free 1
  simp at e0 e1
  have hs4 := bb.size
  clear b4 hown hR
  go_wp2
  refine bodyPost_ret (v := .tuple #[.agg #[.string (strOf D), .int .i64 (P.length : Int)], .bool true]) (by simp [results, Try.results29, go_sem, e0, e1, g0, g1]) rfl ⟨D, hD, rfl, ?_⟩
  repeat (first | exact Below.refl _ _ | assumption | refine Below.alloc ?_ (by (try simp); (try omega)) _ | refine Below.setCell ?_ (by (try simp); (try omega)) _ | refine Below.drew ?_ | refine bel_then (by assumption) (by (try simp); (try omega)) ?_)
set_option maxHeartbeats 2000000 in
set_option maxRecDepth 100000 in
theorem specPutSels_no (a : Option Addr) (cap B : Nat) (z : List Int) (k : Int) (w : World) (hz : Ints w B a z) (hB : B ≤ w.heap.size) (hl : z.length ≤ 1048576) (n1 : -9223372036854775808 ≤ k) (n2 : k ≤ 9223372036854775807) (h : selOk z k = false) :
    Calls Try.prog 29 #[.slice a z.length cap, .int .i64 k] w fun e w' => e = .returned (.tuple #[.agg #[.string ⟨#[]⟩, .int .i64 0], .bool false]) ∧ Below w.heap.size w w' := by
  have HI := hidden hz
  have bb : Below w.heap.size w (w.alloc (.cells #[.string ⟨#[]⟩, .int .i64 0] 40)) := (Below.refl _ _).alloc (Nat.le_refl _) _
  have hR := Has.fresh w 40 #[.string ⟨#[]⟩, .int .i64 0]
  have K1 := hidden (fun W h => specRanksOk_any a cap B z k W h hl n1 n2)
  have HS := hidden h
  unfold selOk at h
  obtain ⟨n, hn⟩ : ∃ n, z.length = n := ⟨_, rfl⟩
  by_cases hk : 1 ≤ k ∧ k ≤ 4
  · have hr : rOk z k = false := by rw [decide_eq_true hk, Bool.true_and] at h; exact h
    obtain ⟨h1, h4⟩ := hk
    rw [hr] at K1
    rw [hn] at K1 ⊢
    clear hz h hr hn
    go_enter Try.func29, Try.ntmps29
    go_wp2_with fail
    refine (K1.out _ (HI.out.below (bb.mono hB))).mono ?_
    rintro e w1 ⟨rfl, hw1⟩
    rw [hw1] at hR bb
    clear hw1
    have e0 := hR.cell 0
    have e1 := hR.cell 1
    have g0 := hR.free 0
    have g1 := hR.free 1
    simp at e0 e1
    have hs1 := bb.size
    clear hR
    go_wp2
    refine bodyPost_ret (v := .tuple #[.agg #[.string ⟨#[]⟩, .int .i64 0], .bool false]) (by simp [results, Try.results29, go_sem, e0, e1, g0, g1]) rfl ⟨rfl, ?_⟩
    repeat (first | exact Below.refl _ _ | assumption | refine Below.alloc ?_ (by (try simp); (try omega)) _ | refine Below.setCell ?_ (by (try simp); (try omega)) _ | refine Below.drew ?_ | refine bel_then (by assumption) (by (try simp); (try omega)) ?_)
  · rw [hn]
    have e0 := hR.cell 0
    have e1 := hR.cell 1
    have g0 := hR.free 0
    have g1 := hR.free 1
    simp at e0 e1
    have hs1 := bb.size
    clear hz h hn hR K1
    by_cases h1 : k < 1
    · go_enter Try.func29, Try.ntmps29
      go_wp2
      refine bodyPost_ret (v := .tuple #[.agg #[.string ⟨#[]⟩, .int .i64 0], .bool false]) (by simp [results, Try.results29, go_sem, e0, e1, g0, g1]) rfl ⟨rfl, ?_⟩
      repeat (first | exact Below.refl _ _ | assumption | refine Below.alloc ?_ (by (try simp); (try omega)) _ | refine Below.setCell ?_ (by (try simp); (try omega)) _ | refine Below.drew ?_ | refine bel_then (by assumption) (by (try simp); (try omega)) ?_)
    · have h4 : 4 < k := by omega
      go_enter Try.func29, Try.ntmps29
      go_wp2
      refine bodyPost_ret (v := .tuple #[.agg #[.string ⟨#[]⟩, .int .i64 0], .bool false]) (by simp [results, Try.results29, go_sem, e0, e1, g0, g1]) rfl ⟨rfl, ?_⟩
      repeat (first | exact Below.refl _ _ | assumption | refine Below.alloc ?_ (by (try simp); (try omega)) _ | refine Below.setCell ?_ (by (try simp); (try omega)) _ | refine Below.drew ?_ | refine bel_then (by assumption) (by (try simp); (try omega)) ?_)
end Go.Proofs.Ytaaahmfkdiogkaa
namespace Go.Proofs.Ytaaahmfkdiogkaa
set_option linter.unusedVariables false
set_option linter.unusedSimpArgs false
open Go.RowKit

/-- At bit a stand n ones, fewer than k, and a zero. -/
def UnaAt (s : ByteArray) (a k n : Nat) : Prop := n < k ∧ a + n + 1 ≤ 8 * s.size ∧ (∀ i, i < n → bit s (a + i) = 1) ∧ bit s (a + n) = 0
theorem UnaAt.one {s : ByteArray} {a k n m : Nat} (h : UnaAt s a k n) (h2 : UnaAt s a k m) : n = m := by
  rcases Nat.lt_trichotomy n m with e | e | e
  · have := h2.2.2.1 n e; rw [h.2.2.2] at this; omega
  · exact e
  · have := h.2.2.1 m e; rw [h2.2.2.2] at this; omega
/-- From bit a on stand these numbers, up to bit c. -/
def Unas (s : ByteArray) (k : Nat) : Nat → List Nat → Nat → Prop
  | a, [], c => c = a
  | a, n :: D, c => UnaAt s a k n ∧ Unas s k (a + n + 1) D c
theorem Unas.snoc {s : ByteArray} {k n : Nat} : ∀ {D : List Nat} {a c : Nat}, Unas s k a D c → UnaAt s c k n → Unas s k a (D ++ [n]) (c + n + 1)
  | [], a, c, h, h2 => by
    obtain rfl : c = a := h
    exact ⟨h2, rfl⟩
  | m :: D, a, c, h, h2 => ⟨h.1, h.2.snoc h2⟩
theorem Unas.one {s : ByteArray} {k : Nat} : ∀ {D E : List Nat} {a c d : Nat}, Unas s k a D c → Unas s k a E d → D.length = E.length → D = E ∧ c = d
  | [], [], a, c, d, h, h2, _ => ⟨rfl, Eq.trans h (Eq.symm h2)⟩
  | n :: D, m :: E, a, c, d, h, h2, hl => by
    have e := h.1.one h2.1
    subst e
    have := Unas.one h.2 h2.2 (by simpa using hl)
    exact ⟨by rw [this.1], this.2⟩
  | [], _ :: _, _, _, _, _, _, hl => by simp at hl
  | _ :: _, [], _, _, _, _, _, hl => by simp at hl
theorem Unas.lt {s : ByteArray} {k : Nat} : ∀ {D : List Nat} {a c : Nat}, Unas s k a D c → ∀ x ∈ D, x < k
  | [], _, _, _, x, hx => by simp at hx
  | n :: D, a, c, h, x, hx => by
    rcases List.mem_cons.1 hx with rfl | hx
    · exact h.1.1
    · exact h.2.lt x hx
/-- More numbers begin with these. -/
theorem Unas.take {s : ByteArray} {k : Nat} : ∀ {D : List Nat} {a c : Nat} (i : Nat), Unas s k a D c → ∃ d, Unas s k a (D.take i) d
  | D, a, _, 0, _ => ⟨a, rfl⟩
  | [], a, c, i + 1, h => ⟨c, h⟩
  | n :: D, a, c, i + 1, h => by
    obtain ⟨d, hd⟩ := h.2.take i
    exact ⟨d, h.1, hd⟩
/-- Where the next number is missing, so are all longer rows. -/
theorem Unas.stop {s : ByteArray} {k : Nat} {D E : List Nat} {a c d : Nat} (h : Unas s k a D c) (hno : ∀ n, ¬ UnaAt s c k n) (h2 : Unas s k a E d) : E.length ≤ D.length := by
  induction D generalizing E a with
  | nil =>
    obtain rfl : c = a := h
    cases E with
    | nil => exact Nat.le_refl _
    | cons m E => exact absurd h2.1 (hno m)
  | cons n D ih =>
    cases E with
    | nil => exact Nat.zero_le _
    | cons m E =>
      have e := h.1.one h2.1
      subst e
      have := ih h.2 h2.2
      simp only [List.length_cons]
      omega
theorem Unas.end_le {s : ByteArray} {k : Nat} : ∀ {D : List Nat} {a c : Nat}, Unas s k a D c → a ≤ 8 * s.size → c ≤ 8 * s.size
  | [], _, _, h, h2 => by
    have h : _ = _ := h
    omega
  | n :: D, a, c, h, _ => h.2.end_le h.1.2.1
set_option maxHeartbeats 4000000 in
set_option maxRecDepth 100000 in
theorem l12getSels_any (s : ByteArray) (at0 b N k : Nat) (T : TypeId) (w : World) (hs : s.size ≤ 1048576) (ha : at0 ≤ 8 * s.size) (hN : N ≤ 600) (hk1 : 1 ≤ k) (hk : k ≤ 4) (hb : Has w b T #[.string s, .int .i64 at0]) :
    Calls Try.prog 74 #[.pointer (some ⟨b, 0, none⟩), .int .i64 N, .int .i64 k] w fun e w' => Only b w w' ∧
      ((∃ D c v, D.length = N ∧ Unas s k at0 D c ∧ e = .returned (.tuple #[v, .bool true]) ∧ w'.ownsRow w.heap.size 3 1 v N (intsV (umtZ (ints D) k)) ∧ Has w' b T #[.string s, .int .i64 (c : Int)]) ∨
       ((∀ D c, D.length = N → ¬ Unas s k at0 D c) ∧ e = .returned (.tuple #[.slice none 0 0, .bool false]))) := by
  obtain ⟨i0, hi, hz0, hz1, hz2⟩ := info_parts Try.infoInt
  have hbl := hb.lt
  have K1 := hidden (fun (W : World) (c j : Nat) (h : c + j ≤ 8 * s.size) (hB : Has W b T #[.string s, .int .i64 ((c + j : Nat) : Int)]) => l6bit s c j b T W hs h hB)
  have HB := hidden hb
  clear hb
  go_enter Try.func74, Try.ntmps74
  go_wp2
  go_loopw [8, 9, 10, 11] (fun vo si _ _ wr => ∃ (i c : Nat) (D : List Nat), i ≤ N ∧ c ≤ 8 * s.size ∧ si = .int .i64 i ∧ Hid (D.length = i ∧ Unas s k at0 D c) ∧ wr.ownsRow w.heap.size 3 1 vo i (natsL D) ∧ Hid (Has wr b T #[.string s, .int .i64 (c : Int)]) ∧ Only b w wr) (fun _ si _ _ _ => N - (intOf si).toNat)
  case atStart => exact ⟨0, at0, [], by omega, ha, rfl, hidden ⟨rfl, rfl⟩, World.ownsRow_nil _ _ _ _, HB, Only.refl _ _⟩
  case round =>
    obtain ⟨i, c, D, hiN, hc, rfl, HD, hown, HBr, hO⟩ := hrel
    have hsz := hO.size
    by_cases hlt : i < N
    · have K2 := hidden (K1.out wr c 0 hc HBr.out)
      have HO := hidden hown
      go_wp2_with fail
      refine K2.out.mono ?_
      rintro e w1 ⟨x, rfl, hA, hO1⟩
      have HO1 := hidden (own_only HO.out hO1 hbl)
      have hO2 : Only b w w1 := World.grownBy.trans hO hO1
      clear hown hO1 hO K2 HO HBr
      go_wp2
      go_loopw [10, 11] (fun sj sx wr => ∃ (j : Nat) (x : Int), j < k ∧ sj = .int .i64 j ∧ sx = .int .i64 x ∧ Hid (∀ q, q < j → bit s (c + q) = 1) ∧ L6At s c b T j x wr ∧ Only b w wr ∧ Hid (wr.ownsRow w.heap.size 3 1 _ i (natsL D))) (fun sj _ _ => k - (intOf sj).toNat)
      case atStart => exact ⟨0, x, by omega, rfl, rfl, hidden (fun q hq => by omega), hA, hO2, HO1⟩
      case round =>
        clear hA hO2 HO1
        obtain ⟨j, x, hjk, rfl, rfl, HZ, hA, hO, HO⟩ := hrel
        have hsz := hO.size
        have hmiss : Hid ((8 * s.size < c + j + 1 ∨ bit s (c + j) = 1 ∧ j + 1 = k) → ∀ D2 c2, D2.length = N → ¬ Unas s k at0 D2 c2) := hidden (fun h D2 c2 hl h2 => by
          have hno : ∀ n, ¬ UnaAt s c k n := fun n hn => by
            have hjn : j ≤ n := by
              apply Decidable.byContradiction
              intro hc
              have := HZ.out n (by omega)
              rw [hn.2.2.2] at this; omega
            rcases h with h | ⟨h, h'⟩
            · have := hn.2.1; omega
            · have hn1 := hn.1
              obtain rfl : n = j := by omega
              rw [hn.2.2.2] at h; omega
          have := HD.out.2.stop hno h2
          have := HD.out.1
          omega)
        rcases hA with ⟨hroom, hx, hB⟩ | ⟨hroom, rfl, q, hB⟩
        · have hb2 := bit_lt s (c + j)
          by_cases hb1 : bit s (c + j) = 1
          · rw [hb1] at hx
            subst hx
            have HZ2 : Hid (∀ q, q < j + 1 → bit s (c + q) = 1) := hidden (fun q hq => by
              rcases Nat.lt_or_ge q j with h | h
              · exact HZ.out q h
              · obtain rfl : q = j := by omega
                exact hb1)
            have K3 := hidden (K1.out wr c (j + 1) (by omega) (by rw [← Nat.add_assoc]; exact hB))
            by_cases hjk2 : j + 1 = k
            · have HNO := hidden (hmiss.out (.inr ⟨hb1, hjk2⟩))
              have hjI : (j : Int) + 1 = (k : Int) := by omega
              clear hb1 hb2 hB hroom
              go_wp2_with fail
              refine K3.out.mono ?_
              rintro e w2 ⟨x2, rfl, hA2, hO3⟩
              have hO4 : Only b w w2 := World.grownBy.trans hO hO3
              clear hO hO3 K3 hA2
              go_wp2
              go_ret2
              exact ⟨hO4, .inr ⟨HNO.out, rfl⟩⟩
            · have hjI : ¬ (j : Int) + 1 = (k : Int) := by omega
              clear hb1 hb2 hB hroom
              go_wp2_with fail
              refine K3.out.mono ?_
              rintro e w2 ⟨x2, rfl, hA2, hO3⟩
              have hO4 : Only b w w2 := World.grownBy.trans hO hO3
              have HO2 := hidden (own_only HO.out hO3 hbl)
              clear hO hO3 K3
              go_wp2
              go_roundw
              case rel => exact ⟨j + 1, x2, by omega, by go_num, rfl, HZ2, hA2, hO4, HO2⟩
              case measure => simp [intOf]; omega
          · have hb0 : bit s (c + j) = 0 := by omega
            rw [hb0] at hx
            subst hx
            have HU : Hid (UnaAt s c k j) := hidden ⟨hjk, hroom, HZ.out, hb0⟩
            have HD2 : Hid ((D ++ [j]).length = i + 1 ∧ Unas s k at0 (D ++ [j]) (c + j + 1)) := hidden ⟨by rw [List.length_append, HD.out.1]; rfl, HD.out.2.snoc HU.out⟩
            have hown := HO.out
            have HB2 := hidden hB
            clear hb0 hb1 hb2 hB
            go_wp2_with (at_builtin; refine wpList_append_own _ rfl _ _ 24 rfl w.heap.size 3 i0 (.int .i64 0) 1 8 Try.underlying24 hi hz0 hz1 hz2 rfl (by decide) _ _ _ rfl (hown.alloc _) ⟨wr.heap.size, 0, none⟩ 1 1 [.int .i64 (j : Int)] rfl rfl ?c1 ?c2 ?c3 ?c4 ?c5 ?_)
            case c1 => exact cell_one_new _ _ _
            case c2 => exact fun u hu => by simp at hu; subst hu; rfl
            case c3 => unfold maxLen; omega
            case c4 => omega
            case c5 => first | omega | (simp; omega)
            intro v5 w5 hown5 hgrow _
            have hr : ∀ q, Value.ownBlock (_ : Value) = some q → w.heap.size ≤ q := fun q hq => (hown.lt q hq).1
            have hO5 : Only b w w5 := (hO.alloc _).grownNew hgrow hr
            have HB5 : Hid (Has w5 b T #[.string s, .int .i64 ((c + j + 1 : Nat) : Int)]) := hidden ((HB2.out.alloc _).grown hgrow (by intro e; have := hr b e.symm; omega))
            have HO5 : Hid (w5.ownsRow w.heap.size 3 1 v5 (i + 1) (natsL (D ++ [j]))) := hidden (by rw [natsL_snoc8]; exact hown5)
            clear hown hown5 hgrow hO hr
            go_wp2
            go_roundw
            case rel => exact ⟨i + 1, c + j + 1, D ++ [j], by omega, by omega, by go_num, HD2, HO5.out, HB5, hO5⟩
            case measure => simp [intOf]; omega
        · have HNO := hidden (hmiss.out (.inl hroom))
          go_wp2
          go_ret2
          exact ⟨hO, .inr ⟨HNO.out, rfl⟩⟩
    · obtain rfl : i = N := by omega
      obtain ⟨am, cm, hsh⟩ := own_shape hown
      subst hsh
      have hDl := HD.out.1
      have hok : rOk (ints D) k = true := by
        rw [rOk_iff]
        refine ⟨by omega, by omega, by rw [ints_len, hDl]; exact hN, fun x hx => ?_⟩
        unfold ints at hx
        rw [List.mem_map] at hx
        obtain ⟨y, hy, rfl⟩ := hx
        have := HD.out.2.lt y hy
        omega
      have hI := (Ints.ofOwn (zs := ints D) (by rw [intsV_ints]; exact hown) (by omega) (fun x hx => by
        have := ((rOk_iff _ _).1 hok).2.2.2 x hx
        omega)).2
      have K := hidden (specUnMtf_any am cm wr.heap.size (ints D) k wr hI (Nat.le_refl _) (by rw [ints_len]; omega) (by omega) (by omega))
      have hul : (umtZ (ints D) k).length = i := by unfold umtZ; rw [if_pos hok, ints_len, runF_len, List.length_map, ints_len, hDl]
      rw [ints_len, hDl, hul] at K
      clear hI hok hul hown hDl
      go_wp2_with fail
      refine K.out.mono ?_
      rintro e w5 ⟨v5, rfl, o5, b5⟩
      have HO5 : Hid (w5.ownsRow w.heap.size 3 1 v5 i (intsV (umtZ (ints D) k))) := hidden (own_base10 o5 hsz)
      have hO5 : Only b w w5 := ⟨b5.os.trans hO.os, b5.tape.trans hO.tape, b5.output.trans hO.output, Nat.le_trans hO.size b5.size, fun q hq hne => (b5.block q (Nat.lt_of_lt_of_le hq hO.size)).trans (hO.block q hq hne)⟩
      have HB5 : Hid (Has w5 b T #[.string s, .int .i64 (c : Int)]) := hidden (HBr.out.below b5 (by omega))
      clear o5 b5 K hO
      go_wp2
      go_ret2
      exact ⟨hO5, .inl ⟨D, c, v5, HD.out.1, HD.out.2, rfl, HO5.out, HB5.out⟩⟩
end Go.Proofs.Ytaaahmfkdiogkaa
namespace Go.Proofs.Ytaaahmfkdiogkaa
set_option linter.unusedVariables false
set_option linter.unusedSimpArgs false
open Go.RowKit

/-- What GetSels answers. -/
def GS12 (s : ByteArray) (at0 N k : Nat) (w : World) (e : Ending) (w' : World) : Prop :=
  ((∃ (D : List Nat) (c : Nat) (v : Value), D.length = N ∧ Unas s k at0 D c ∧ e = .returned (.tuple #[v, .agg #[.string s, .int .i64 (c : Int)], .bool true]) ∧ w'.ownsRow w.heap.size 3 1 v N (intsV (umtZ (ints D) k))) ∨
   ((∀ D c, D.length = N → ¬ Unas s k at0 D c) ∧ e = .returned (.tuple #[.slice none 0 0, .agg #[.string ⟨#[]⟩, .int .i64 0], .bool false]))) ∧ Below w.heap.size w w'
set_option maxHeartbeats 2000000 in
set_option maxRecDepth 100000 in
theorem specGetSels_any (s : ByteArray) (at0 n k : Nat) (w : World) (hs : s.size ≤ 1048576) (ha : at0 ≤ 8 * s.size) (hn2 : n ≤ 600) (hk1 : 1 ≤ k) (hk : k ≤ 4) :
    Calls Try.prog 33 #[.agg #[.string s, .int .i64 at0], .int .i64 n, .int .i64 k] w (GS12 s at0 n k w) := by
  have K2 := hidden (fun (W : World) (h : Has W w.heap.size 48 #[.string s, .int .i64 (at0 : Int)]) => l12getSels_any s at0 w.heap.size n k 48 W hs ha hn2 hk1 hk h)
  have hR := (Has.fresh w 48 #[.string s, .int .i64 at0]).alloc (.cells #[.string ⟨#[]⟩, .int .i64 0] 48)
  have bb : Below w.heap.size w ((w.alloc (.cells #[.string s, .int .i64 at0] 48)).alloc (.cells #[.string ⟨#[]⟩, .int .i64 0] 48)) := ((Below.refl _ _).alloc (Nat.le_refl _) _).alloc (by simp) _
  have hS := Has.freshAt (w := w.alloc (.cells #[.string s, .int .i64 at0] 48)) (g := w.heap.size + 1) (by simp) 48 #[.string ⟨#[]⟩, .int .i64 0]
  go_enter Try.func33, Try.ntmps33
  go_wp2_with fail
  refine (specRdOk_yes s at0 _ hs ha).mono ?_
  rintro e w2 ⟨rfl, b2⟩
  replace bb := bel_then b2 bb.size bb
  replace hR := hR.below b2 hR.lt
  replace hS := hS.below b2 hS.lt
  have hs2 := bb.size
  have hRl := hR.lt
  have hSl := hS.lt
  clear b2
  go_wp2_with fail
  refine (K2.out _ hR).mono ?_
  rintro e w3 ⟨hO, hcase⟩
  have hS3 := hO.has hS (by omega)
  have bb3 : Below w.heap.size w w3 := only_then hO (Nat.le_refl _) hs2 bb
  have hs3 := bb3.size
  have hSl3 := hS3.lt
  have e0 := hS3.cell 0
  have e1 := hS3.cell 1
  have g0 := hS3.free 0
  have g1 := hS3.free 1
  simp at e0 e1
  clear hR hS hO bb K2
  rcases hcase with ⟨D, c, v, hl, hr, rfl, hown, hR3⟩ | ⟨hno, rfl⟩
  · have HR := hidden hr
    have HL := hidden hl
    obtain ⟨am, cp, hv⟩ := own_shape hown
    subst hv
    have d0 := hR3.cell 0
    have d1 := hR3.cell 1
    simp at d0 d1
    have HOW := hidden hown
    clear hr hl hown hR3
    go_wp2
    go_region
    all_goals (try go_wp2)
    all_goals
      refine bodyPost_ret (v := .tuple #[.slice am n cp, .agg #[.string s, .int .i64 (c : Int)], .bool true]) (by simp [results, Try.results33, go_sem, d0, d1, e0, e1, g0, g1]) rfl ⟨.inl ⟨D, c, _, HL.out, HR.out, rfl, ?_⟩, ?_⟩
      · exact Joins.ownsRow_le (own_away (own_away HOW.out (p := ⟨w.heap.size + 1, 0, none⟩) (by simp; omega) _) (p := ⟨w.heap.size + 1, 1, none⟩) (by simp; omega) _).drew hs2
      · repeat (first | exact Below.refl _ _ | assumption | refine Below.alloc ?_ (by (try simp); (try omega)) _ | refine Below.setCell ?_ (by (try simp); (try omega)) _ | refine Below.drew ?_ | refine bel_then (by assumption) (by (try simp); (try omega)) ?_)
  · have HNO := hidden hno
    clear hno
    go_wp2
    refine bodyPost_ret (v := .tuple #[.slice none 0 0, .agg #[.string ⟨#[]⟩, .int .i64 0], .bool false]) (by simp [results, Try.results33, go_sem, e0, e1, g0, g1]) rfl ⟨.inr ⟨HNO.out, rfl⟩, ?_⟩
    repeat (first | exact Below.refl _ _ | assumption | refine Below.alloc ?_ (by (try simp); (try omega)) _ | refine Below.setCell ?_ (by (try simp); (try omega)) _ | refine Below.drew ?_ | refine bel_then (by assumption) (by (try simp); (try omega)) ?_)
set_option maxHeartbeats 2000000 in
set_option maxRecDepth 100000 in
theorem specGetSels_no (s : ByteArray) (at0 n k : Int) (w : World) (hs : s.size ≤ 1048576) (b1 : -9223372036854775808 ≤ at0) (b2 : at0 ≤ 9223372036854775807) (b3 : -9223372036854775808 ≤ n) (b4 : n ≤ 9223372036854775807)
    (b5 : -9223372036854775808 ≤ k) (b6 : k ≤ 9223372036854775807)
    (h : ¬ (0 ≤ at0 ∧ at0 ≤ 8 * s.size ∧ 0 ≤ n ∧ n ≤ 600 ∧ 1 ≤ k ∧ k ≤ 4)) :
    Calls Try.prog 33 #[.agg #[.string s, .int .i64 at0], .int .i64 n, .int .i64 k] w fun e w' => e = .returned (.tuple #[.slice none 0 0, .agg #[.string ⟨#[]⟩, .int .i64 0], .bool false]) ∧ Below w.heap.size w w' := by
  have bb : Below w.heap.size w ((w.alloc (.cells #[.string s, .int .i64 at0] 48)).alloc (.cells #[.string ⟨#[]⟩, .int .i64 0] 48)) := ((Below.refl _ _).alloc (Nat.le_refl _) _).alloc (by simp) _
  have hS := Has.freshAt (w := w.alloc (.cells #[.string s, .int .i64 at0] 48)) (g := w.heap.size + 1) (by simp) 48 #[.string ⟨#[]⟩, .int .i64 0]
  by_cases hat : 0 ≤ at0 ∧ at0 ≤ 8 * s.size
  · obtain ⟨q, rfl⟩ : ∃ q : Nat, at0 = q := ⟨at0.toNat, by omega⟩
    have hq : q ≤ 8 * s.size := by omega
    have hn : n < 0 ∨ (¬ n < 0 ∧ 600 < n) ∨ (¬ n < 0 ∧ ¬ 600 < n ∧ k < 1) ∨ (¬ n < 0 ∧ ¬ 600 < n ∧ ¬ k < 1 ∧ 4 < k) := by omega
    clear h hat
    rcases hn with hn | ⟨hn, hn2⟩ | ⟨hn, hn2, hn3⟩ | ⟨hn, hn2, hn3, hn4⟩
    all_goals
      go_enter Try.func33, Try.ntmps33
      go_wp2_with fail
      refine (specRdOk_yes s q _ hs hq).mono ?_
      rintro e w2 ⟨rfl, b2⟩
      replace bb := bel_then b2 bb.size bb
      replace hS := hS.below b2 hS.lt
      have hs2 := bb.size
      have e0 := hS.cell 0
      have e1 := hS.cell 1
      have g0 := hS.free 0
      have g1 := hS.free 1
      simp at e0 e1
      clear b2 hS
      go_wp2
      refine bodyPost_ret (v := .tuple #[.slice none 0 0, .agg #[.string ⟨#[]⟩, .int .i64 0], .bool false]) (by simp [results, Try.results33, go_sem, e0, e1, g0, g1]) rfl ⟨rfl, ?_⟩
      repeat (first | exact Below.refl _ _ | assumption | refine Below.alloc ?_ (by (try simp); (try omega)) _ | refine Below.setCell ?_ (by (try simp); (try omega)) _ | refine Below.drew ?_ | refine bel_then (by assumption) (by (try simp); (try omega)) ?_)
  · have HX := hidden hat
    clear h hat
    go_enter Try.func33, Try.ntmps33
    go_wp2_with fail
    refine (specRdOk_no s at0 _ hs b1 b2 HX.out).mono ?_
    rintro e w2 ⟨rfl, b2⟩
    replace bb := bel_then b2 bb.size bb
    replace hS := hS.below b2 hS.lt
    have hs2 := bb.size
    have e0 := hS.cell 0
    have e1 := hS.cell 1
    have g0 := hS.free 0
    have g1 := hS.free 1
    simp at e0 e1
    clear b2 hS
    go_wp2
    refine bodyPost_ret (v := .tuple #[.slice none 0 0, .agg #[.string ⟨#[]⟩, .int .i64 0], .bool false]) (by simp [results, Try.results33, go_sem, e0, e1, g0, g1]) rfl ⟨rfl, ?_⟩
    repeat (first | exact Below.refl _ _ | assumption | refine Below.alloc ?_ (by (try simp); (try omega)) _ | refine Below.setCell ?_ (by (try simp); (try omega)) _ | refine Below.drew ?_ | refine bel_then (by assumption) (by (try simp); (try omega)) ?_)
end Go.Proofs.Ytaaahmfkdiogkaa
namespace Go.Proofs.Ytaaahmfkdiogkaa
set_option linter.unusedVariables false
set_option linter.unusedSimpArgs false
open Go.RowKit

set_option maxHeartbeats 1000000 in
theorem implGroups_any (n : Int) (w : World) (n1 : -9223372036854775808 ≤ n) (n2 : n ≤ 9223372036854775807) :
    Calls Try.prog 15 #[.int .i64 n] w fun e w' => e = .returned (.int .i64 (grpZ n)) ∧ w = w' := by
  by_cases h : 0 ≤ n ∧ n ≤ 2000
  · obtain ⟨m, rfl⟩ : ∃ m : Nat, n = m := ⟨n.toNat, by omega⟩
    have hZ : Hid (grpZ m = (grp m : Int)) := hidden (by unfold grpZ; rw [if_pos h, Int.toNat_natCast])
    have h2 : (m : Int) ≤ 2000 := h.2
    have h3 : ¬ (2000 : Int) < (m : Int) := by omega
    clear h n1 n2
    go_enter Try.func15, Try.ntmps15
    go_wp2
    go_ret
    refine ⟨ret_int ?_, rfl⟩
    rw [hZ.out]
    unfold grp
    omega
  · have hZ : Hid (grpZ n = -1) := hidden (by unfold grpZ; rw [if_neg h])
    by_cases h1 : n < 0
    · go_enter Try.func15, Try.ntmps15
      go_wp2
      go_ret
      exact ⟨ret_int hZ.out.symm, rfl⟩
    · have h2 : 2000 < n := by omega
      clear h
      go_enter Try.func15, Try.ntmps15
      go_wp2
      go_ret
      exact ⟨ret_int hZ.out.symm, rfl⟩
set_option maxHeartbeats 1000000 in
theorem tableCountOk_any (k : Int) (w : World) :
    Calls Try.prog 54 #[.int .i64 k] w fun e w' => e = .returned (.bool (decide (1 ≤ k ∧ k ≤ 4))) ∧ w = w' := by
  by_cases h1 : 1 ≤ k
  · by_cases h4 : k ≤ 4
    · rw [show decide (1 ≤ k ∧ k ≤ 4) = true by simp [h1, h4]]
      go_enter Try.func54, Try.ntmps54
      go_wp2
      go_ret
      exact ⟨rfl, rfl⟩
    · rw [show decide (1 ≤ k ∧ k ≤ 4) = false by simp [h1, h4]]
      go_enter Try.func54, Try.ntmps54
      go_wp2
      go_ret
      exact ⟨rfl, rfl⟩
  · rw [show decide (1 ≤ k ∧ k ≤ 4) = false by simp [h1]]
    go_enter Try.func54, Try.ntmps54
    go_wp2
    go_ret
    exact ⟨rfl, rfl⟩
set_option maxHeartbeats 2000000 in
set_option maxRecDepth 100000 in
theorem implTablesOk_any (at2 : Option Addr) (capT B : Nat) (T : List (List Int)) (n : Int) (w : World) (hT : Tabs w B at2 T) (hB : B ≤ w.heap.size) :
    Calls Try.prog 28 #[.slice at2 T.length capT, .int .i64 n] w fun e w' => e = .returned (.bool (tbOk T n)) ∧ Below w.heap.size w w' := by
  have HIF := hidden (tbOk_iff T n)
  have HT := hidden hT
  have hTl := hT.1
  have KT := hidden (fun W => tableCountOk_any (T.length : Int) W)
  obtain ⟨M, hM⟩ : ∃ M, T.length = M := ⟨_, rfl⟩
  have HM := hidden hM
  obtain ⟨r, hr⟩ : ∃ r, tbOk T n = r := ⟨_, rfl⟩
  rw [hr] at HIF ⊢
  rw [hM] at hTl HIF KT ⊢
  clear hT hM hr
  by_cases hb : 1 ≤ M ∧ M ≤ 4
  · have hb2 : (1 : Int) ≤ (M : Int) ∧ (M : Int) ≤ 4 := by omega
    rw [decide_eq_true hb2] at KT
    clear hb2
    obtain ⟨h1, h4⟩ := hb
    go_enter Try.func28, Try.ntmps28
    go_wp2_with fail
    refine (KT.out _).mono ?_
    rintro e w0 ⟨rfl, rfl⟩
    go_wp2
    go_loopw [6, 13] (fun _ si wr => ∃ (i : Nat), i ≤ M ∧ si = .int .i64 i ∧ Hid (∀ j, j < i → ((T.getD j []).length : Int) = n ∧ lOk (T.getD j []) = true) ∧ Below w.heap.size w wr) (fun _ si _ => M - (intOf si).toNat)
    case atStart => exact ⟨0, by omega, rfl, hidden (fun j h => by omega), Below.refl _ _⟩
    case round =>
      obtain ⟨i, hi, rfl, HP, hbl⟩ := hrel
      have hsz := hbl.size
      by_cases hlt : i < M
      · obtain ⟨b, off, a2, c2, e, hb, hc, hle, hz⟩ := HT.out.at (i := i) (by rw [HM.out]; exact hlt)
        subst e
        have hc2 : wr.cell? ⟨b, off + i, none⟩ = some (.slice a2 (T.getD i []).length c2) := (hbl.cell (p := ⟨b, off + i, none⟩) (by simp; omega)).trans hc
        obtain ⟨wa, hwa⟩ : ∃ wa, wr.alloc (.cells #[.slice a2 (T.getD i []).length c2] 65) = wa := ⟨_, rfl⟩
        have hba : Below w.heap.size w wa := by rw [← hwa]; exact hbl.alloc hsz _
        have K : Hid (Calls Try.prog 64 #[.slice a2 (T.getD i []).length c2] wa fun e w' => e = .returned (.bool (lOk (T.getD i []))) ∧ wa = w') := hidden ((implLensOk_any a2 c2 B (T.getD i []) wa (hz.below ((hba.mono hB)))).mono fun e w' h => ⟨h.1, h.2.symm⟩)
        obtain ⟨z, hz'⟩ : ∃ z, T.getD i [] = z := ⟨_, rfl⟩
        have HZ := hidden hz'
        rw [hz'] at hc2 hle K hwa
        obtain ⟨L, hL⟩ : ∃ L, z.length = L := ⟨_, rfl⟩
        have HL := hidden hL
        rw [hL] at hc2 hle K hwa
        have HP2 : Hid (∀ q, lOk z = q → (L : Int) = n → q = true → ∀ j, j < i + 1 → ((T.getD j []).length : Int) = n ∧ lOk (T.getD j []) = true) := hidden (fun q h1 h2 h3 j hj => by
          by_cases e : j = i
          · subst e; rw [HZ.out, h1, h3, HL.out]; exact ⟨h2, rfl⟩
          · exact HP.out j (by omega))
        have HF : Hid ((¬ ((L : Int) = n ∧ lOk z = true)) → r = false) := hidden (fun h => by
          rw [Bool.eq_false_iff]
          intro ht
          have := (HIF.out.1 ht).2 i hlt
          rw [HZ.out, HL.out] at this
          exact h this)
        have ca : wa.cell? ⟨wr.heap.size, 0, none⟩ = some (.slice a2 L c2) := by rw [← hwa]; exact (Has.fresh wr _ _).cell 0
        clear hz hz' hL hc
        obtain ⟨q, hq⟩ : ∃ q, lOk z = q := ⟨_, rfl⟩
        rw [hq] at K HF
        replace HP2 := hidden (HP2.out q hq)
        clear hq
        by_cases hn : (L : Int) = n
        · cases q with
          | true =>
            go_wp2_with fail
            refine K.out.mono ?_
            rintro e w1 ⟨rfl, rfl⟩
            go_wp2
            go_roundw
            case rel => exact ⟨i + 1, by omega, by go_num, hidden (HP2.out hn (by trivial)), hba⟩
            case measure => simp [intOf]; omega
          | false =>
            have hr : r = false := HF.out (by simp)
            go_wp2_with fail
            refine K.out.mono ?_
            rintro e w1 ⟨rfl, rfl⟩
            go_wp2
            go_ret
            exact ⟨ret_bool hr.symm, hba⟩
        · have hr : r = false := HF.out (fun h => hn h.1)
          have hn2 : ((L : Int) != n) = true := by simpa using hn
          go_wp2
          go_ret
          exact ⟨ret_bool hr.symm, hba⟩
      · obtain rfl : i = M := by omega
        have hr : r = true := HIF.out.2 ⟨⟨h1, h4⟩, HP.out⟩
        go_wp2
        go_ret
        exact ⟨ret_bool hr.symm, hbl⟩
  · have hr : r = false := by
      rw [Bool.eq_false_iff]
      intro ht
      exact hb (HIF.out.1 ht).1
    have hb2 : ¬ ((1 : Int) ≤ (M : Int) ∧ (M : Int) ≤ 4) := by omega
    rw [decide_eq_false hb2] at KT
    clear hb2
    go_enter Try.func28, Try.ntmps28
    go_wp2_with fail
    refine (KT.out _).mono ?_
    rintro e w0 ⟨rfl, rfl⟩
    go_wp2
    go_ret
    exact ⟨ret_bool hr.symm, Below.refl _ _⟩
/-- A group's bits with a table's lengths. -/
theorem bitF_succ {S L : List Int} {A c : Nat} (h : A + c < S.length) : bitF S L A (c + 1) = bitF S L A c + L.getD (S.getD (A + c) 0).toNat 0 := by
  show bitF S L A c + (if A + c < S.length then _ else 0) = _
  rw [if_pos h]
set_option maxHeartbeats 2000000 in
set_option maxRecDepth 100000 in
theorem bitsWith_any (al : Option Addr) (cl Bl bg og c A n : Nat) (S L : List Int) (w : World) (hl : Ints w Bl al L) (hL : Len20 L) (hLn : L.length = n) (hc : c ≤ 10) (hA : A + c ≤ S.length)
    (hg : ∀ j, j < c → w.cell? ⟨bg, og + j, none⟩ = some (.int .i64 (S.getD (A + j) 0))) (hs : ∀ k, k < S.length → 0 ≤ S.getD k 0 ∧ S.getD k 0 < (n : Int)) :
    Calls Try.prog 83 #[.slice al n cl, .slice (some ⟨bg, og, none⟩) c c] w fun e w' => e = .returned (.int .i64 (bitF S L A c)) ∧ w = w' := by
  have HB := hidden (fun c => bitF_range hL A (S := S) c)
  have HS := hidden hs
  have HG := hidden hg
  have HLL : Hid (∀ k, k < n → 0 ≤ L.getD k 0 ∧ L.getD k 0 ≤ 20) := hidden (by rw [← hLn]; exact hL)
  have HST := hidden (fun i (h : A + i < S.length) => bitF_succ (L := L) h)
  have HZ := hidden hl
  have HN := hidden hLn
  obtain ⟨N, hN⟩ : ∃ N, S.length = N := ⟨_, rfl⟩
  rw [hN] at HS hA HST
  clear hl hL hLn hg hs hN
  go_enter Try.func83, Try.ntmps83
  go_wp2
  go_loop [5, 7, 10] (fun sv _ si => ∃ (i : Nat) (z : Int), i ≤ c ∧ si = .int .i64 i ∧ sv = .int .i64 z ∧ Hid (bitF S L A i = z)) (fun _ _ si => c - (intOf si).toNat)
  case atStart => exact ⟨0, 0, by omega, rfl, rfl, hidden rfl⟩
  case round =>
    obtain ⟨i, z, hi, rfl, rfl, HZi⟩ := hrel
    have hr := HB.out i
    rw [HZi.out] at hr
    by_cases h1 : i < c
    · obtain ⟨x, hx⟩ : ∃ x : Nat, S.getD (A + i) 0 = (x : Int) := ⟨(S.getD (A + i) 0).toNat, by have := (HS.out (A + i) (by omega)).1; omega⟩
      have hxM : x < n := by have := (HS.out (A + i) (by omega)).2; omega
      obtain ⟨b2, off2, rfl, hb2, hcell2⟩ := HZ.out.2.2 (by rw [HN.out]; omega)
      have c1 := HG.out i h1
      have c2 := hcell2 x (by rw [HN.out]; exact hxM)
      rw [hx] at c1
      have hl2 := HLL.out x hxM
      have e := HST.out i (by omega)
      rw [hx, Int.toNat_natCast, HZi.out] at e
      obtain ⟨y, hy⟩ : ∃ y, L.getD x 0 = y := ⟨_, rfl⟩
      rw [hy] at c2 hl2 e
      have HE := hidden e
      clear hcell2 hx hy e
      go_wp2
      go_round
      case rel => exact ⟨i + 1, z + y, by omega, by go_num, rfl, HE⟩
      case measure => simp [intOf]; omega
    · obtain rfl : i = c := by omega
      go_wp2
      go_ret
      exact ⟨ret_int HZi.out.symm, rfl⟩
end Go.Proofs.Ytaaahmfkdiogkaa
namespace Go.Proofs.Ytaaahmfkdiogkaa
set_option linter.unusedVariables false
set_option linter.unusedSimpArgs false
open Go.RowKit

set_option maxHeartbeats 1000000 in
set_option maxRecDepth 100000 in
theorem implRanksOk_any (a : Option Addr) (cap B : Nat) (z : List Int) (n : Int) (w : World) (hz : Ints w B a z) (hl : z.length ≤ 1048576) (n1 : -9223372036854775808 ≤ n) (n2 : n ≤ 9223372036854775807) :
    Calls Try.prog 68 #[.slice a z.length cap, .int .i64 n] w fun e w' => e = .returned (.bool (rOk z n)) ∧ w = w' := by
  have HIT := hidden (rOk_iff z n)
  obtain ⟨m, hm⟩ : ∃ m, z.length = m := ⟨_, rfl⟩
  have HN := hidden hm
  have HZ := hidden hz
  rw [hm] at hl ⊢
  clear hm hz
  by_cases h1 : n < 1
  · have HF : Hid (rOk z n = false) := hidden (bool_false (fun h => by have := HIT.out.1 h; omega))
    go_enter Try.func68, Try.ntmps68
    go_wp2
    go_ret
    exact ⟨ret_bool HF.out.symm, rfl⟩
  · by_cases h2 : (256 : Int) < n
    · have HF : Hid (rOk z n = false) := hidden (bool_false (fun h => by have := HIT.out.1 h; omega))
      go_enter Try.func68, Try.ntmps68
      go_wp2
      go_ret
      exact ⟨ret_bool HF.out.symm, rfl⟩
    · by_cases h3 : (600 : Int) < m
      · have HF : Hid (rOk z n = false) := hidden (bool_false (fun h => by have := (HIT.out.1 h).2.2.1; rw [HN.out] at this; omega))
        go_enter Try.func68, Try.ntmps68
        go_wp2
        go_ret
        exact ⟨ret_bool HF.out.symm, rfl⟩
      · go_enter Try.func68, Try.ntmps68
        go_wp2
        go_loopw [6, 20] (fun _ sk wr => ∃ k : Nat, k ≤ m ∧ sk = .int .i64 k ∧ Hid (∀ j, j < k → 0 ≤ z.getD j 0 ∧ z.getD j 0 < n) ∧ w = wr) (fun _ sk _ => m - (intOf sk).toNat)
        case atStart => exact ⟨0, by omega, rfl, hidden (fun j hj => by omega), by first | trivial | rfl⟩
        case round =>
          obtain ⟨k, hk, rfl, HA, rfl⟩ := hrel
          by_cases hlt : k < m
          · obtain ⟨b, off, rfl, hb, hc⟩ := HZ.out.2.2 (by rw [HN.out]; omega)
            have ck := hc k (by rw [HN.out]; exact hlt)
            have HMK : Hid (z.getD k 0 ∈ z) := hidden (getD_mem (by rw [HN.out]; exact hlt))
            obtain ⟨x, hx⟩ : ∃ x, z.getD k 0 = x := ⟨_, rfl⟩
            rw [hx] at ck HMK
            have HX := hidden hx
            clear hx hc
            by_cases hx0 : x < 0
            · have HF : Hid (rOk z n = false) := hidden (bool_false (fun h => by have := (HIT.out.1 h).2.2.2 x HMK.out; omega))
              go_wp2
              go_ret
              exact ⟨ret_bool HF.out.symm, rfl⟩
            · by_cases hxn : n ≤ x
              · have HF : Hid (rOk z n = false) := hidden (bool_false (fun h => by have := (HIT.out.1 h).2.2.2 x HMK.out; omega))
                go_wp2
                go_ret
                exact ⟨ret_bool HF.out.symm, rfl⟩
              · have HA2 : Hid (∀ j, j < k + 1 → 0 ≤ z.getD j 0 ∧ z.getD j 0 < n) := hidden (fun j hj => by
                  rcases Nat.lt_or_ge j k with h | h
                  · exact HA.out j h
                  · rw [show j = k by omega, HX.out]; omega)
                go_wp2
                go_roundw
                case rel => exact ⟨k + 1, by omega, by go_num, HA2, by first | trivial | rfl⟩
                case measure => simp [intOf]; omega
          · have hkm : k = m := by omega
            subst hkm
            have HT : Hid (rOk z n = true) := hidden (HIT.out.2 ⟨by omega, by omega, by rw [HN.out]; omega, fun x hx => by
              obtain ⟨j, hj, rfl⟩ := mem_getD hx
              exact HA.out j (by rw [← HN.out]; exact hj)⟩)
            go_wp2
            go_ret
            exact ⟨ret_bool HT.out.symm, rfl⟩
theorem mtf_meth (v : Value) (w : World) : (Go.method 305 135 v "loop.example/g00674/impl.encode").run Try.prog w = .ok (166, v) w := by kernel_rfl
theorem frontListOf_at (n : Nat) (w : World) (hn : n ≤ 256) (g : Nat) (hg : w.heap.size = g) :
    Calls Try.prog 168 #[.int .i64 n] w fun e w' => e = .returned (.pointer (some ⟨g, 0, none⟩)) ∧ FL w' g w'.heap.size g (List.range n) ∧ Below g w w' := by
  subst hg
  exact frontListOf_any n w hn
theorem cf_rankOf (args : Array Value) (W : World) : (callFunc 170 args).run Try.prog W = .ok (.enter 170 args) W := by kernel_rfl
theorem cf_symbolAt (args : Array Value) (W : World) : (callFunc 169 args).run Try.prog W = .ok (.enter 169 args) W := by kernel_rfl
set_option maxHeartbeats 1000000 in
set_option maxRecDepth 100000 in
theorem mtfEncode_any (r0 : Value) (a : Option Addr) (cap B m : Nat) (L : List Nat) (w : World) (hr0 : r0 = .agg #[]) (hz : Ints w B a (ints L)) (hB : B ≤ w.heap.size) (hm2 : m ≤ 256) (hL6 : L.length ≤ 600) (hLm : ∀ x ∈ L, x < m) :
    Calls Try.prog 166 #[r0, .slice a L.length cap, .int .i64 m] w fun e w' => ∃ g, e = .returned (.agg #[.slice none 0 0, .slice (some ⟨g, 0, none⟩) L.length L.length]) ∧ w'.ownsRow w.heap.size 3 1 (.slice (some ⟨g, 0, none⟩) L.length L.length) L.length (natsL (runF mtfF (List.range m) L)) ∧ Below w.heap.size w w' := by
  subst hr0
  have bb : Below w.heap.size w ((w.alloc (.cells #[] 135)).alloc (.cells #[.slice none 0 0, .slice none 0 0] 132)) := ((Below.refl _ _).alloc (Nat.le_refl _) _).alloc (by simp) _
  have hR := Has.freshAt (w := w.alloc (.cells #[] 135)) (g := w.heap.size + 1) (by simp) 132 #[.slice none 0 0, .slice none 0 0]
  have hX : ((w.alloc (.cells #[] 135)).alloc (.cells #[.slice none 0 0, .slice none 0 0] 132)).heap.size = w.heap.size + 2 := by simp
  have HZ := hidden hz
  have KF := hidden (fun (W : World) (g : Nat) (hg : W.heap.size = g) => frontListOf_at m W hm2 g hg)
  have HP := hidden (PermN.start m)
  obtain ⟨n, hn⟩ : ∃ n, L.length = n := ⟨_, rfl⟩
  have KE := hidden (fun (h base E : Nat) (W : World) hz' hB' hbE hE h0 => each_any 170 (.pointer (some ⟨h, 0, none⟩)) (fun W s => FL W base E h s ∧ PermN m s) mtfF base E B a cap L W (List.range m) hz' hB' hbE hE hL6 h0 cf_rankOf
    (fun W W' s hs hk => ⟨hs.1.keep hk, hs.2⟩) (fun W s x hs hx => (rankOf_any base E h m x s W hs.1 hs.2 hm2 (hLm x hx)).mono fun e W' q => ⟨q.1, ⟨q.2.1, hs.2.front (hs.2.idx (hLm x hx))⟩, q.2.2⟩))
  rw [hn] at KE ⊢
  clear hz hn
  go_enter Try.func166, Try.ntmps166
  go_wp2_with fail
  refine (KF.out _ (w.heap.size + 2) hX).mono ?_
  rintro e w1 ⟨rfl, hF1, b1⟩
  have s1 : w.heap.size + 2 ≤ w1.heap.size := by rw [← hX]; exact b1.size
  replace bb := bb.trans (b1.mono (by omega))
  replace hR := hR.below b1 (by omega)
  have hz1 := HZ.out.below (bb.mono hB)
  have K2 := hidden (KE.out (w.heap.size + 2) (w.heap.size + 2) w1.heap.size w1 hz1 (by omega) s1 (Nat.le_refl _) ⟨hF1, HP.out⟩)
  clear hF1 b1 hz1 hX
  go_wp2_with fail
  refine K2.out.mono ?_
  rintro e w2 ⟨g, rfl, hown, b2⟩
  have hs1 : w.heap.size ≤ w1.heap.size := bb.size
  replace bb := bb.trans (b2.mono (by omega))
  replace hR := hR.below b2 (by omega)
  have HO := hidden (Joins.ownsRow_le hown hs1)
  have hgw := (hown.lt g rfl).1
  have e0 := hR.cell 0
  have e1 := hR.cell 1
  have g0 := hR.free 0
  have g1 := hR.free 1
  simp at e0 e1
  have hs2 := bb.size
  clear b2 hown
  go_wp2
  refine bodyPost_ret (v := .agg #[.slice none 0 0, .slice (some ⟨g, 0, none⟩) n n]) (by simp [results, Try.results166, go_sem, e0, e1, g0, g1]) rfl ⟨g, rfl, ?_, ?_⟩
  · exact ownsRow_setCell_other (ownsRow_setCell_other HO.out (by simp [Value.ownBlock]; omega) _) (by simp [Value.ownBlock]; omega) _
  · exact (bb.setCell (by simp) _).setCell (by simp) _
set_option maxHeartbeats 1000000 in
set_option maxRecDepth 100000 in
theorem mtfDecode_no (r0 : Value) (a : Option Addr) (cap B : Nat) (z : List Int) (m : Int) (w : World) (hr0 : r0 = .agg #[]) (hz : Ints w B a z) (hB : B ≤ w.heap.size) (hl : z.length ≤ 1048576) (n1 : -9223372036854775808 ≤ m) (n2 : m ≤ 9223372036854775807) (hno : rOk z m = false) :
    Calls Try.prog 165 #[r0, .agg #[.slice none 0 0, .slice a z.length cap], .int .i64 m] w fun e w' => e = .returned (.tuple #[.slice none 0 0, .bool false]) ∧ Below w.heap.size w w' := by
  subst hr0
  have bb : Below w.heap.size w ((w.alloc (.cells #[] 135)).alloc (.cells #[.slice none 0 0, .slice a z.length cap] 132)) := ((Below.refl _ _).alloc (Nat.le_refl _) _).alloc (by simp) _
  have KR := hidden (fun W hz' => implRanksOk_any a cap B z m W hz' hl n1 n2)
  rw [hno] at KR
  have HZ := hidden (hz.below (bb.mono hB))
  obtain ⟨n, hn⟩ : ∃ n, z.length = n := ⟨_, rfl⟩
  rw [hn] at KR HZ bb ⊢
  clear hz hn hno
  go_enter Try.func165, Try.ntmps165
  go_wp2_with fail
  refine (KR.out _ HZ.out).mono ?_
  rintro e w1 ⟨rfl, rfl⟩
  go_wp2
  go_ret2
  exact ⟨rfl, bb⟩
set_option maxHeartbeats 1000000 in
set_option maxRecDepth 100000 in
theorem mtfDecode_yes (r0 : Value) (a : Option Addr) (cap B m : Nat) (L : List Nat) (w : World) (hr0 : r0 = .agg #[]) (hz : Ints w B a (ints L)) (hB : B ≤ w.heap.size) (hok : rOk (ints L) m = true) (hm2 : m ≤ 256) (hL6 : L.length ≤ 600) (hLm : ∀ x ∈ L, x < m) :
    Calls Try.prog 165 #[r0, .agg #[.slice none 0 0, .slice a L.length cap], .int .i64 m] w fun e w' => ∃ g, e = .returned (.tuple #[.slice (some ⟨g, 0, none⟩) L.length L.length, .bool true]) ∧ w'.ownsRow w.heap.size 3 1 (.slice (some ⟨g, 0, none⟩) L.length L.length) L.length (natsL (runF umtF (List.range m) L)) ∧ Below w.heap.size w w' := by
  subst hr0
  have bb : Below w.heap.size w ((w.alloc (.cells #[] 135)).alloc (.cells #[.slice none 0 0, .slice a L.length cap] 132)) := ((Below.refl _ _).alloc (Nat.le_refl _) _).alloc (by simp) _
  have hX : ((w.alloc (.cells #[] 135)).alloc (.cells #[.slice none 0 0, .slice a L.length cap] 132)).drew.heap.size = w.heap.size + 2 := by simp
  have KR := hidden (fun W hz' => implRanksOk_any a cap B (ints L) m W hz' (by rw [ints_len]; omega) (by omega) (by omega))
  rw [hok, ints_len] at KR
  have HZ := hidden hz
  have HZ0 := hidden (hz.below (bb.mono hB))
  have KF := hidden (fun (W : World) (g : Nat) (hg : W.heap.size = g) => frontListOf_at m W hm2 g hg)
  have HP := hidden (PermN.start m)
  obtain ⟨n, hn⟩ : ∃ n, L.length = n := ⟨_, rfl⟩
  have KE := hidden (fun (h base E : Nat) (W : World) hz' hB' hbE hE h0 => each_any 169 (.pointer (some ⟨h, 0, none⟩)) (fun W s => FL W base E h s ∧ PermN m s) umtF base E B a cap L W (List.range m) hz' hB' hbE hE hL6 h0 cf_symbolAt
    (fun W W' s hs hk => ⟨hs.1.keep hk, hs.2⟩) (fun W s x hs hx => (symbolAt_any base E h m x s W hs.1 hs.2 hm2 (hLm x hx)).mono fun e W' q => ⟨q.1, ⟨q.2.1, hs.2.front (hLm x hx)⟩, q.2.2⟩))
  rw [hn] at KE KR HZ0 bb hX ⊢
  clear hz hn hok
  go_enter Try.func165, Try.ntmps165
  go_wp2_with fail
  refine (KR.out _ HZ0.out).mono ?_
  rintro e w1 ⟨rfl, rfl⟩
  have hc1 : ((w.alloc (.cells #[] 135)).alloc (.cells #[.slice none 0 0, .slice a n cap] 132)).cell? ⟨w.heap.size + 1, 1, none⟩ = some (.slice a n cap) := (Has.freshAt (w := w.alloc (.cells #[] 135)) (g := w.heap.size + 1) (by simp) _ _).cell 1
  clear HZ0
  go_wp2
  have hle2 : w.heap.size ≤ w.heap.size + 2 := Nat.le_add_right _ _
  have hlt2 : w.heap.size + 1 < w.heap.size + 2 := Nat.lt_succ_self _
  go_region_held3 (fun w' => w'.cell? ⟨w.heap.size + 1, 1, none⟩ = some (.slice a n cap)) (go_keep) (first | (go_at_call 168; refine (KF.out _ (w.heap.size + 2) ?hg).mono ?_; (case hg => first | exact hX | simp); rintro e w2 ⟨rfl, hF1, b1⟩; have s1 : w.heap.size + 2 ≤ w2.heap.size := Nat.le_trans (Nat.le_of_eq hX.symm) b1.size; have ec2 : w2.cell? ⟨w.heap.size + 1, 1, none⟩ = some (.slice a n cap) := (b1.cell (p := ⟨w.heap.size + 1, 1, none⟩) hlt2).trans hc1; have bm := b1.mono hle2; replace bb : Below w.heap.size w w2 := ⟨bm.os.trans bb.os, bm.tape.trans bb.tape, bm.output.trans bb.output, Nat.le_trans bb.size bm.size, fun i hi => (bm.block i hi).trans (bb.block i hi)⟩; have hz1 := HZ.out.below (bb.mono hB); have K2 := hidden (KE.out (w.heap.size + 2) (w.heap.size + 2) w2.heap.size w2 hz1 (Nat.le_trans hB hle2) s1 (Nat.le_refl _) ⟨hF1, HP.out⟩); clear hF1 b1 hz1 hX bm) | (go_at_call 167; refine K2.out.mono ?_; rintro e w3 ⟨g, rfl, hown, b2⟩; have hs1 : w.heap.size ≤ w2.heap.size := bb.size; have ec3 : w3.cell? ⟨w.heap.size + 1, 1, none⟩ = some (.slice a n cap) := (b2.cell (p := ⟨w.heap.size + 1, 1, none⟩) hlt2).trans ec2; have bm2 := b2.mono hle2; replace bb := bb.trans bm2; have HO := hidden (Joins.ownsRow_le hown hs1); clear b2 hown bm2))
  all_goals
    go_wp2
    go_ret2
    exact ⟨g, rfl, HO.out, bb⟩
end Go.Proofs.Ytaaahmfkdiogkaa
