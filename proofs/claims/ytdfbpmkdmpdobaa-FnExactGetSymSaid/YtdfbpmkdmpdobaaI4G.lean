/- Chapter 4, the program: symbols are read. -/
import Derived.Test.YtdfbpmkdmpdobaaI4N
import Derived.Test.YtdfbpmkdmpdobaaC1IRd
namespace Go.Proofs.Ytdfbpmkdmpdobaa
set_option linter.unusedVariables false
set_option linter.unusedSimpArgs false
open Go.RowKit Go.Maps

/-- What reading n symbols answers. -/
def SymsPost (ls : List Int) (s : ByteArray) (at0 n : Nat) (w : World) (e : Ending) (w' : World) : Prop :=
  ((∃ (ys : List Nat) (c : Nat) (v : Value), ys.length = n ∧ Reads ls s at0 ys c ∧ e = .returned (.tuple #[v, .agg #[.string s, .int .i64 (c : Int)], .bool true]) ∧ w'.ownsRow w.heap.size 3 1 v n (natsL ys)) ∨
   ((¬ ∃ (ys : List Nat) (c : Nat), ys.length = n ∧ Reads ls s at0 ys c) ∧ e = .returned (.tuple #[.slice none 0 0, .agg #[.string ⟨#[]⟩, .int .i64 0], .bool false]))) ∧ Below w.heap.size w w'
theorem reads_stop {ls : List Int} (h : lOk ls = true) {s : ByteArray} {a c n : Nat} {ys : List Nat} (hr : Reads ls s a ys c) (hn : ys.length < n) (hno : ∀ m i, ¬ hit ls s c m i) : ¬ ∃ (zs : List Nat) (c : Nat), zs.length = n ∧ Reads ls s a zs c := by
  rintro ⟨zs, c2, hl, h2⟩
  rw [← List.take_append_drop ys.length zs] at h2
  obtain ⟨c3, h3, h4⟩ := h2.split
  obtain ⟨_, rfl⟩ := Reads.one h hr h3 (by rw [List.length_take]; omega)
  cases hd : zs.drop ys.length with
  | nil =>
    have := congrArg List.length hd
    rw [List.length_drop] at this
    simp at this; omega
  | cons x T =>
    rw [hd] at h4
    cases h4 with
    | cons _ m _ _ _ hh _ => exact hno _ _ hh
set_option maxHeartbeats 4000000 in
set_option maxRecDepth 100000 in
theorem getSyms_any (a : Option Addr) (cap B at0 n : Nat) (ls : List Int) (s : ByteArray) (w : World) (hz : Ints w B a ls) (hB : B ≤ w.heap.size) (hok : lOk ls = true) (hs : s.size ≤ 1048576) (ha : at0 ≤ 8 * s.size) (hn2 : n ≤ 2000) :
    Calls Try.prog 20 #[.slice a ls.length cap, .agg #[.string s, .int .i64 at0], .int .i64 n] w (SymsPost ls s at0 n w) := by
  obtain ⟨i0, hi, hz0, hz1, hz2⟩ := info_parts Try.infoInt
  have K1 := hidden (fun W h => implLensOk_any a cap B ls W h)
  rw [hok] at K1
  have K2 := hidden (fun W => implRdOk_yes s at0 W hs ha)
  have K3 := hidden (fun W h h2 => codeMapOf_any a cap B ls W h h2 hok)
  have K4 := hidden (fun (W : World) (c mb g : Nat) (hc : c ≤ 8 * s.size) (hM : MapAt W mb ls) (hR : Has W g 73 #[.string s, .int .i64 c]) (hne : mb ≠ g) => next_any s c mb g 73 ls W hok hs hc hM hR hne)
  have HSTOP := hidden (fun (c : Nat) (ys : List Nat) (h1 : Reads ls s at0 ys c) (h2 : ys.length < n) h3 => reads_stop hok h1 h2 h3)
  have HMEM := hidden (fun (ys : List Nat) (c : Nat) (h1 : Reads ls s at0 ys c) => h1.le ha)
  have HI := hidden hz
  have hR := (Has.fresh w 37 #[.string s, .int .i64 at0]).alloc (.cells #[.string ⟨#[]⟩, .int .i64 0] 37)
  have bb : Below w.heap.size w ((w.alloc (.cells #[.string s, .int .i64 at0] 37)).alloc (.cells #[.string ⟨#[]⟩, .int .i64 0] 37)) := ((Below.refl _ _).alloc (Nat.le_refl _) _).alloc (by simp) _
  have hS := Has.freshAt (w := w.alloc (.cells #[.string s, .int .i64 at0] 37)) (g := w.heap.size + 1) (by simp) 37 #[.string ⟨#[]⟩, .int .i64 0]
  obtain ⟨m, hm⟩ : ∃ m, ls.length = m := ⟨_, rfl⟩
  rw [hm] at K1 K3 ⊢
  clear hz hm hok
  go_enter Try.func20, Try.ntmps20
  go_wp2_with fail
  refine (K1.out _ (HI.out.below (bb.mono hB))).mono ?_
  rintro e w1 ⟨rfl, hw1⟩
  rw [← hw1] at hR hS bb
  clear hw1
  have c0 := hR.cell 0
  have c1 := hR.cell 1
  simp at c0 c1
  have hs1 := bb.size
  go_wp2_with fail
  refine (K2.out _).mono ?_
  rintro e w2 ⟨rfl, b2⟩
  replace bb := bel_then b2 hs1 bb
  replace hR := hR.below b2 hR.lt
  replace hS := hS.below b2 hS.lt
  have hs2 := bb.size
  clear c0 c1 b2
  go_wp2_with fail
  refine (K3.out _ (HI.out.below (bb.mono hB)) (Nat.le_trans hB hs2)).mono ?_
  rintro e w3 ⟨mb, rfl, hmb, hM, b3⟩
  replace bb := bel_then b3 hs2 bb
  replace hR := hR.below b3 hR.lt
  replace hS := hS.below b3 hS.lt
  have hs3 := bb.size
  have hRl := hR.lt
  have hSl := hS.lt
  have hMl := hM.lt
  have c0 := hR.cell 0
  have c1 := hR.cell 1
  simp at c0 c1
  have hG := Has.fresh w3 73 #[.string s, .int .i64 at0]
  have hM4 := hM.alloc (.cells #[.string s, .int .i64 at0] 73)
  have hS4 := hS.alloc (.cells #[.string s, .int .i64 at0] 73)
  have bb4 : Below w.heap.size w (w3.alloc (.cells #[.string s, .int .i64 at0] 73)) := bb.alloc hs3 _
  clear b3 hR hS hM
  go_wp2_with (at_make; refine wpList_make_own _ rfl _ _ 23 rfl (w3.heap.size + 1) 3 i0 (.int .i64 0) 1 Try.underlying23 hi hz0 hz1 _ _ _ n rfl rfl rfl ?b2 ?b3 ?b4 ?_)
  case b2 => rw [hz2]; omega
  case b3 => unfold maxLen; omega
  case b4 => simp
  intro w4 hownA hg0
  have hB4 : Below w.heap.size w w4 := bb4.grown hg0 (by simp; omega) (by simp)
  have hG5 := hG.grown hg0 (by simp)
  have hS5 := hS4.grown hg0 (by simp)
  have hM5 : MapAt w4 mb ls := by
    obtain ⟨q, hq⟩ := hM4
    exact ⟨q, hq.kept hg0 (by simp)⟩
  have hs45 := hg0.size
  simp at hs45
  obtain ⟨g, hg⟩ : ∃ g, w3.heap.size = g := ⟨_, rfl⟩
  rw [hg] at hownA hG5 hs45 hRl hSl hMl hs3
  simp only [hg]
  clear hG hM4 hS4 bb4 hg0 c0 c1 hs1 hs2 bb
  go_wp2
  go_loopw [11, 12, 13, 37] (fun v _ _ si wr => ∃ (k c : Nat) (ys : List Nat), k ≤ n ∧ si = .int .i64 k ∧ Hid (ys.length = k) ∧ Hid (Reads ls s at0 ys c) ∧ wr.ownsRow (g + 1) 3 1 v k (natsL ys) ∧ Has wr g 73 #[.string s, .int .i64 (c : Int)] ∧ Has wr (w.heap.size + 1) 37 #[.string ⟨#[]⟩, .int .i64 0] ∧ MapAt wr mb ls ∧ Below w.heap.size w wr ∧ g + 1 ≤ wr.heap.size) (fun _ _ _ si _ => n - (intOf si).toNat)
  case atStart => exact ⟨0, at0, [], by omega, rfl, hidden rfl, hidden (.nil _), hownA, hG5, hS5, hM5, hB4, by omega⟩
  case round =>
    obtain ⟨k, c, ys, hk, rfl, HL, HRD, hown, hG, hS, hM, hbl, hgs⟩ := hrel
    by_cases hlt : k < n
    · have hcle := HMEM.out ys c HRD.out
      have K5 := hidden (K4.out _ c mb g hcle hM hG (by omega))
      have HGX := hidden hG
      clear hcle hG
      go_wp2_with fail
      refine K5.out.mono ?_
      rintro e w5 ⟨hO5, hcase⟩
      have hsz5 := hO5.size
      have hS6 := hO5.has hS (by omega)
      have hM6 := hM.only hO5 (by omega)
      have hbl6 : Below w.heap.size w w5 := only_then hO5 (by omega) hbl.size hbl
      have hown6 : w5.ownsRow (g + 1) 3 1 u11 k (natsL ys) := hown.kept hO5 (.inr fun e => by have := (hown.lt g e).1; omega)
      have hgs6 : g + 1 ≤ w5.heap.size := by omega
      clear hown hS hM hbl hO5 K5
      rcases hcase with ⟨q, i, hh, rfl, hG6⟩ | ⟨hno, rfl⟩
      · have HH := hidden hh
        clear hh
        go_wp2_with (at_builtin; refine wpList_append_own_at _ rfl _ _ 23 rfl (g + 1) 3 i0 (.int .i64 0) 1 8 Try.underlying23 hi hz0 hz1 hz2 rfl (by decide) _ _ _ rfl (hown6.alloc _) ⟨w5.heap.size, 0, none⟩ 1 1 [.int .i64 (i : Int)] rfl rfl ?ca2 ?ca3 ?ca4 ?ca5 ?ca6 ?_)
        case ca2 => exact cell_one _ _ _
        case ca3 => exact fun u hu => by simp at hu; subst hu; rfl
        case ca4 => unfold maxLen; omega
        case ca5 => omega
        case ca6 => simp; omega
        intro v6 w6 hown7 hgrow _ _
        have hne : ∀ x, x < g + 1 → some x ≠ u11.ownBlock := fun x hx e => by have := (hown6.lt x e.symm).1; omega
        have hbl7 : Below w.heap.size w w6 := (hbl6.alloc (by omega) _).grown hgrow (by simp; omega) (fun b hb => by have := (hown6.lt b hb).1; omega)
        have hG7 := (hG6.alloc (.cells #[.int .i64 (i : Int)] 3)).grown hgrow (hne g (by omega))
        have hS7 := (hS6.alloc (.cells #[.int .i64 (i : Int)] 3)).grown hgrow (hne _ (by omega))
        have hM7 : MapAt w6 mb ls := by
          obtain ⟨x, hx⟩ := hM6.alloc (.cells #[.int .i64 (i : Int)] 3)
          exact ⟨x, hx.kept hgrow (hne _ (by omega))⟩
        have hgs7 : g + 1 ≤ w6.heap.size := by have := hgrow.size; simp at this; omega
        have hown8 : w6.ownsRow (g + 1) 3 1 v6 (k + 1) (natsL (ys ++ [i])) := by rw [natsL_append]; exact hown7
        clear hne hbl6 hG6 hS6 hM6 hgrow hown7 hown6
        go_wp2
        go_roundw
        case rel => exact ⟨k + 1, c + q, ys ++ [i], by omega, by go_num, hidden (by rw [List.length_append, HL.out]; rfl), hidden (HRD.out.snoc HH.out), hown8, hG7, hS7, hM7, hbl7, hgs7⟩
        case measure => simp [intOf]; omega
      · have HP := hidden (HSTOP.out c ys HRD.out (by rw [HL.out]; exact hlt) hno)
        have e0 := hS6.cell 0
        have e1 := hS6.cell 1
        have f0 := hS6.free 0
        have f1 := hS6.free 1
        simp at e0 e1
        have hsb := hbl6.size
        clear hno hS6 hM6 hown6
        go_wp2
        refine bodyPost_ret (v := .tuple #[.slice none 0 0, .agg #[.string ⟨#[]⟩, .int .i64 0], .bool false]) (by simp [results, Try.results20, go_sem, e0, e1, f0, f1]) rfl ⟨.inr ⟨HP.out, rfl⟩, ?_⟩
        repeat (first | exact Below.refl _ _ | assumption | refine Below.alloc ?_ (by (try simp); (try omega)) _ | refine Below.setCell ?_ (by (try simp); (try omega)) _ | refine Below.drew ?_ | refine bel_then (by assumption) (by (try simp); (try omega)) ?_)
    · have e : k = n := by omega
      subst e
      have d0 := hG.cell 0
      have d1 := hG.cell 1
      have e0 := hS.cell 0
      have e1 := hS.cell 1
      have f0 := hS.free 0
      have f1 := hS.free 1
      simp at d0 d1 e0 e1
      have hsb := hbl.size
      have HOWN := hidden hown
      clear hG hS hM hown
      go_wp2
      go_region
      all_goals (try go_wp2)
      all_goals
        refine bodyPost_ret (v := .tuple #[u11, .agg #[.string s, .int .i64 (c : Int)], .bool true]) (by simp [results, Try.results20, go_sem, d0, d1, e0, e1, f0, f1]) rfl ⟨.inl ⟨ys, c, u11, HL.out, HRD.out, rfl, ?_⟩, ?_⟩
        · exact Joins.ownsRow_le (own_away (own_away HOWN.out (p := ⟨w.heap.size + 1, 0, none⟩) (by simp; omega) _) (p := ⟨w.heap.size + 1, 1, none⟩) (by simp; omega) _).drew (show w.heap.size ≤ g + 1 by omega)
        · repeat (first | exact Below.refl _ _ | assumption | refine Below.alloc ?_ (by (try simp); (try omega)) _ | refine Below.setCell ?_ (by (try simp); (try omega)) _ | refine Below.drew ?_ | refine bel_then (by assumption) (by (try simp); (try omega)) ?_)
end Go.Proofs.Ytdfbpmkdmpdobaa
