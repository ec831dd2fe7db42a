/- Chapter 4: GetSyms of the model. -/
import Derived.Test.YtdfbpmkdmpdobaaC4H
import Derived.Test.YtdfbpmkdmpdobaaStr
namespace Go.Proofs.Ytdfbpmkdmpdobaa
set_option linter.unusedVariables false
set_option linter.unusedSimpArgs false
open Go.RowKit

/-- The model's own reading, one more symbol of xs. -/
theorem l4get_hit (a : Option Addr) (cap B cb b at0 n0 i0 : Nat) (T : TypeId) (vc : Value) (ls : List Int) (s : ByteArray) (w : World) (hz : Ints w B a ls) (hok : lOk ls = true) (hown : w.ownsRow cb 3 1 vc ls.length (nats ls.length (cdF ls)))
    (hbB : B ≤ b) (hne : vc.ownBlock ≠ some b) (hs : s.size ≤ 1048576) (ha : at0 ≤ 8 * s.size) (hb : Has w b T #[.string s, .int .i64 at0]) (hh : hit ls s at0 n0 i0) :
    Calls Try.prog 60 #[.slice a ls.length cap, vc, .pointer (some ⟨b, 0, none⟩)] w fun e w' => Only b w w' ∧ e = .returned (.int .i64 i0) ∧ Has w' b T #[.string s, .int .i64 ((at0 + n0 : Nat) : Int)] := by
  refine (l4get_any a cap B cb b at0 T vc ls s w hz hok hown hbB hne hs ha hb).mono ?_
  rintro e w' ⟨hO, ⟨n, i, hni, rfl, hH⟩ | ⟨hno, _⟩⟩
  · obtain ⟨rfl, rfl⟩ := hit_one hok hni hh
    exact ⟨hO, rfl, hH⟩
  · exact absurd hh (hno _ _)
theorem reads_at {ls : List Int} {s : ByteArray} {c b : Nat} {xs : List Nat} (k : Nat) (hk : k < xs.length) (h : Reads ls s c (xs.drop k) b) : ∃ n, hit ls s c n xs[k] ∧ Reads ls s (c + n) (xs.drop (k + 1)) b := by
  rw [← List.getElem_cons_drop (h := hk)] at h
  cases h with
  | cons _ n _ _ _ hh hr => exact ⟨n, hh, hr⟩
theorem l4get_none (a : Option Addr) (cap B cb b at0 : Nat) (T : TypeId) (vc : Value) (ls : List Int) (s : ByteArray) (w : World) (hz : Ints w B a ls) (hok : lOk ls = true) (hown : w.ownsRow cb 3 1 vc ls.length (nats ls.length (cdF ls)))
    (hbB : B ≤ b) (hne : vc.ownBlock ≠ some b) (hs : s.size ≤ 1048576) (ha : at0 ≤ 8 * s.size) (hb : Has w b T #[.string s, .int .i64 at0]) (hh : ∀ n i, ¬ hit ls s at0 n i) :
    Calls Try.prog 60 #[.slice a ls.length cap, vc, .pointer (some ⟨b, 0, none⟩)] w fun e w' => Only b w w' ∧ e = .returned (.int .i64 (-1)) := by
  refine (l4get_any a cap B cb b at0 T vc ls s w hz hok hown hbB hne hs ha hb).mono ?_
  rintro e w' ⟨hO, ⟨n, i, hni, rfl, hH⟩ | ⟨hno, rfl, _⟩⟩
  · exact absurd hni (hh _ _)
  · exact ⟨hO, rfl⟩
set_option maxHeartbeats 4000000 in
set_option maxRecDepth 100000 in
theorem specGetSyms_yes (a : Option Addr) (cap B at0 n c0 : Nat) (ls : List Int) (xs : List Nat) (s : ByteArray) (w : World) (hz : Ints w B a ls) (hB : B ≤ w.heap.size) (hok : lOk ls = true) (hs : s.size ≤ 1048576) (ha : at0 ≤ 8 * s.size) (hn : n ≤ 2000) (hx : xs.length = n) (hrd : Reads ls s at0 xs c0) :
    Calls Try.prog 23 #[.slice a ls.length cap, .agg #[.string s, .int .i64 at0], .int .i64 n] w fun e w' => ∃ v, e = .returned (.tuple #[v, .agg #[.string s, .int .i64 c0], .bool true]) ∧ w'.ownsRow w.heap.size 3 1 v n (natsL xs) ∧ Below w.heap.size w w' := by
  obtain ⟨i0, hi, hz0, hz1, hz2⟩ := info_parts Try.infoInt
  have hlr := lOk_range hok
  have K1 := hidden (fun W h => specLensOk_any a cap B ls W h)
  rw [hok] at K1
  have K2 := hidden (fun W h1 h2 => specCodes_yes a cap B ls W h1 h2 hok)
  have K3 := hidden (fun (W : World) (b cb c n x : Nat) (vc : Value) (h1 : Ints W B a ls) (h2 : W.ownsRow cb 3 1 vc ls.length (nats ls.length (cdF ls))) (h3 : B ≤ b) (h4 : vc.ownBlock ≠ some b) (h5 : Has W b 37 #[.string s, .int .i64 c]) (h6 : c ≤ 8 * s.size) (h7 : hit ls s c n x) => l4get_hit a cap B cb b c n x _ vc ls s W h1 hok h2 h3 h4 hs h6 h5 h7)
  have HI := hidden hz
  have HX := hidden hx
  have HRD := hidden hrd
  have HMEM : Hid (∀ x ∈ xs, x < 260) := hidden (fun x hxm => Nat.lt_of_lt_of_le (hrd.mem x hxm) hlr.2.1)
  obtain ⟨m, hm⟩ : ∃ m, ls.length = m := ⟨_, rfl⟩
  have hm1 : 1 ≤ m := by rw [← hm]; exact hlr.1
  rw [hm] at K1 K2 K3 ⊢
  have hR := (Has.fresh w 37 #[.string s, .int .i64 at0]).alloc (.cells #[.string ⟨#[]⟩, .int .i64 0] 37)
  have bb : Below w.heap.size w ((w.alloc (.cells #[.string s, .int .i64 at0] 37)).alloc (.cells #[.string ⟨#[]⟩, .int .i64 0] 37)) := ((Below.refl _ _).alloc (Nat.le_refl _) _).alloc (by simp) _
  have hS := Has.freshAt (w := w.alloc (.cells #[.string s, .int .i64 at0] 37)) (g := w.heap.size + 1) (by simp) 37 #[.string ⟨#[]⟩, .int .i64 0]
  clear hz hm hok hlr hx hrd
  go_enter Try.func23, Try.ntmps23
  go_wp2_with fail
  refine (K1.out _ (HI.out.below (bb.mono hB))).mono ?_
  rintro e w1 ⟨rfl, hw1⟩
  rw [← hw1] at hR hS bb
  clear hw1
  have q0 := hR.cell 0
  have q1 := hR.cell 1
  simp at q0 q1
  have hs1 := bb.size
  go_wp2_with fail
  refine (specRdOk_yes s at0 _ hs ha).mono ?_
  rintro e w2 ⟨rfl, b2⟩
  replace bb := bel_then b2 hs1 bb
  replace hR := hR.below b2 hR.lt
  replace hS := hS.below b2 hS.lt
  have hs2 := bb.size
  have hRl := hR.lt
  have hSl := hS.lt
  clear q0 q1 b2
  go_wp2_with fail
  refine (K2.out _ (HI.out.below (bb.mono hB)) (Nat.le_trans hB hs2)).mono ?_
  rintro e w3 ⟨vc, rfl, hown, b3⟩
  obtain ⟨gc, cc, hvc⟩ := Joins.ownsRow_form hown hm1
  subst hvc
  have hgc := hown.lt gc rfl
  replace bb := bel_then b3 hs2 bb
  replace hR := hR.below b3 hR.lt
  replace hS := hS.below b3 hS.lt
  have hs3 := bb.size
  have hRl3 := hR.lt
  have hSl3 := hS.lt
  clear b3
  go_wp2
  go_loopw [9, 11] (fun vo sk wr => ∃ k c : Nat, k ≤ n ∧ sk = .int .i64 k ∧ c ≤ 8 * s.size ∧ Hid (Reads ls s c (xs.drop k) c0) ∧ wr.ownsRow w3.heap.size 3 1 vo k (natsL (xs.take k)) ∧ Hid (wr.ownsRow w2.heap.size 3 1 (.slice (some ⟨gc, 0, none⟩) m cc) m (nats m (cdF ls))) ∧
    Has wr w.heap.size 37 #[.string s, .int .i64 c] ∧ Has wr (w.heap.size + 1) 37 #[.string ⟨#[]⟩, .int .i64 0] ∧ Below w.heap.size w wr ∧ w3.heap.size ≤ wr.heap.size) (fun _ sk _ => n - (intOf sk).toNat)
  case atStart => exact ⟨0, at0, Nat.zero_le _, rfl, ha, HRD, World.ownsRow_nil _ _ _ _, hidden hown, hR, hS, bb, Nat.le_refl _⟩
  case round =>
    obtain ⟨k, c, hk, rfl, hc, Hrd, hownO, HownC, hR', hS', bb', hs'⟩ := hrel
    clear hR hS bb hown
    by_cases hlt : k < n
    · have hkx : k < xs.length := by rw [HX.out]; exact hlt
      obtain ⟨n1, hh, hnext⟩ := reads_at k hkx Hrd.out
      obtain ⟨x, hxe⟩ : ∃ x, xs[k] = x := ⟨_, rfl⟩
      rw [hxe] at hh
      have hx260 := HMEM.out x (by rw [← hxe]; exact List.getElem_mem _)
      have hcn := hh.2.2.1
      have HNEXT := hidden hnext
      have HTK : Hid (natsL (xs.take (k + 1)) = natsL (xs.take k) ++ [.int .i64 (x : Int)]) := hidden (by rw [List.take_succ_eq_append_getElem hkx, natsL_append, hxe]; rfl)
      have hx0 : ¬ (x : Int) < 0 := by omega
      have KK := hidden (K3.out wr w.heap.size _ c n1 x _ (HI.out.below (bb'.mono hB)) HownC.out hB (by simp [Value.ownBlock]; omega) hR' hc hh)
      clear hnext hh hxe
      go_wp2_with fail
      refine KK.out.mono ?_
      rintro e w4 ⟨hO, rfl, hR4⟩
      have hS4 := hO.has hS' (by omega)
      have hownO4 := own_away_has hownO hO (fun he => by have := (hownO.lt _ he).1; omega)
      have HownC4 := own_away_has HownC.out hO (by simp [Value.ownBlock]; omega)
      have bb4 : Below w.heap.size w w4 := only_then hO (Nat.le_refl _) bb'.size bb'
      have hs4 : w3.heap.size ≤ w4.heap.size := Nat.le_trans hs' hO.size
      clear hO hR' hS' hownO HownC bb' KK
      go_wp2_with (at_builtin; refine wpList_append_own_at _ rfl _ _ 23 rfl w3.heap.size 3 i0 (.int .i64 0) 1 8 Try.underlying23 hi hz0 hz1 hz2 rfl (by decide) _ _ _ rfl (hownO4.alloc _) ⟨w4.heap.size, 0, none⟩ 1 1 [.int .i64 (x : Int)] rfl rfl ?ca2 ?ca3 ?ca4 ?ca5 ?ca6 ?_)
      case ca2 => exact cell_one _ _ _
      case ca3 => exact fun u hu => by simp at hu; subst hu; rfl
      case ca4 => unfold maxLen; omega
      case ca5 => omega
      case ca6 => simp; omega
      intro v5 w5 hown5 hgrow _ _
      have hR5 := (hR4.alloc (.cells #[.int .i64 (x : Int)] 3)).grown hgrow (own_ne hownO4 (by omega))
      have hS5 := (hS4.alloc (.cells #[.int .i64 (x : Int)] 3)).grown hgrow (own_ne hownO4 (by omega))
      have HownC5 := (HownC4.alloc (.cells #[.int .i64 (x : Int)] 3)).kept hgrow (.inr (own_neq hownO4 (by omega)))
      have hs5 : w3.heap.size ≤ w5.heap.size := by have := hgrow.size; simp at this; omega
      have bb5 : Below w.heap.size w w5 := (bb4.alloc (by omega) _).grown hgrow (by simp; omega) (fun b hb => by have := (hownO4.lt b hb).1; omega)
      rw [← HTK.out] at hown5
      clear hgrow hownO4 HownC4 hR4 hS4 bb4
      go_wp2
      go_roundw
      case rel => exact ⟨k + 1, c + n1, by omega, by go_num, hcn, HNEXT, hown5, hidden HownC5, hR5, hS5, bb5, hs5⟩
      case measure => simp [intOf]; omega
    · have hkn : k = n := by omega
      subst hkn
      have hcc : c = c0 := by
        have h1 := Hrd.out
        rw [List.drop_eq_nil_of_le (by rw [HX.out]; exact Nat.le_refl _)] at h1
        cases h1; rfl
      subst hcc
      have d0 := hR'.cell 0
      have d1 := hR'.cell 1
      have e0 := hS'.cell 0
      have e1 := hS'.cell 1
      have g0 := hS'.free 0
      have g1 := hS'.free 1
      simp at d0 d1 e0 e1
      have hSl' := hS'.lt
      rw [List.take_of_length_le (by rw [HX.out]; exact Nat.le_refl _)] at hownO
      clear hR' hS' HownC
      go_wp2
      (try go_region)
      all_goals (try go_wp2)
      all_goals
        refine bodyPost_ret (v := .tuple #[u9, .agg #[.string s, .int .i64 c], .bool true]) (by simp [results, Try.results23, go_sem, d0, d1, e0, e1, g0, g1]) rfl ⟨u9, rfl, ?_, ?_⟩
        · refine Joins.ownsRow_le (base := w3.heap.size) ?_ hs3
          first
          | exact own_away (own_away hownO (p := ⟨w.heap.size + 1, 0, none⟩) (by show w.heap.size + 1 < w3.heap.size; omega) _) (p := ⟨w.heap.size + 1, 1, none⟩) (by show w.heap.size + 1 < w3.heap.size; omega) _
          | (trace_state; sorry)
        repeat (first | exact Below.refl _ _ | assumption | refine Below.alloc ?_ (by (try simp); (try omega)) _ | refine Below.setCell ?_ (by (try simp); (try omega)) _ | refine Below.drew ?_)
set_option maxHeartbeats 4000000 in
set_option maxRecDepth 100000 in
theorem specGetSyms_stop (a : Option Addr) (cap B at0 n : Nat) (ls : List Int) (s : ByteArray) (w : World) (hz : Ints w B a ls) (hB : B ≤ w.heap.size) (hok : lOk ls = true) (hs : s.size ≤ 1048576) (ha : at0 ≤ 8 * s.size) (hn : n ≤ 2000) (hno : ¬ ∃ xs c0, xs.length = n ∧ Reads ls s at0 xs c0) :
    Calls Try.prog 23 #[.slice a ls.length cap, .agg #[.string s, .int .i64 at0], .int .i64 n] w fun e w' => e = .returned (.tuple #[.slice none 0 0, .agg #[.string ⟨#[]⟩, .int .i64 0], .bool false]) ∧ Below w.heap.size w w' := by
  obtain ⟨i0, hi, hz0, hz1, hz2⟩ := info_parts Try.infoInt
  have hlr := lOk_range hok
  have K1 := hidden (fun W h => specLensOk_any a cap B ls W h)
  rw [hok] at K1
  have K2 := hidden (fun W h1 h2 => specCodes_yes a cap B ls W h1 h2 hok)
  have K3 := hidden (fun (W : World) (b cb c n x : Nat) (vc : Value) (h1 : Ints W B a ls) (h2 : W.ownsRow cb 3 1 vc ls.length (nats ls.length (cdF ls))) (h3 : B ≤ b) (h4 : vc.ownBlock ≠ some b) (h5 : Has W b 37 #[.string s, .int .i64 c]) (h6 : c ≤ 8 * s.size) (h7 : hit ls s c n x) => l4get_hit a cap B cb b c n x _ vc ls s W h1 hok h2 h3 h4 hs h6 h5 h7)
  have HI := hidden hz
  have HNO := hidden hno
  have H260 := hidden hlr.2.1
  have K4 := hidden (fun (W : World) (b cb c : Nat) (vc : Value) (h1 : Ints W B a ls) (h2 : W.ownsRow cb 3 1 vc ls.length (nats ls.length (cdF ls))) (h3 : B ≤ b) (h4 : vc.ownBlock ≠ some b) (h5 : Has W b 37 #[.string s, .int .i64 c]) (h6 : c ≤ 8 * s.size) (h7 : ∀ n x, ¬ hit ls s c n x) => l4get_none a cap B cb b c _ vc ls s W h1 hok h2 h3 h4 hs h6 h5 h7)
  obtain ⟨m, hm⟩ : ∃ m, ls.length = m := ⟨_, rfl⟩
  have hm1 : 1 ≤ m := by rw [← hm]; exact hlr.1
  rw [hm] at K1 K2 K3 K4 ⊢
  have hR := (Has.fresh w 37 #[.string s, .int .i64 at0]).alloc (.cells #[.string ⟨#[]⟩, .int .i64 0] 37)
  have bb : Below w.heap.size w ((w.alloc (.cells #[.string s, .int .i64 at0] 37)).alloc (.cells #[.string ⟨#[]⟩, .int .i64 0] 37)) := ((Below.refl _ _).alloc (Nat.le_refl _) _).alloc (by simp) _
  have hS := Has.freshAt (w := w.alloc (.cells #[.string s, .int .i64 at0] 37)) (g := w.heap.size + 1) (by simp) 37 #[.string ⟨#[]⟩, .int .i64 0]
  clear hz hm hok hlr hno
  go_enter Try.func23, Try.ntmps23
  go_wp2_with fail
  refine (K1.out _ (HI.out.below (bb.mono hB))).mono ?_
  rintro e w1 ⟨rfl, hw1⟩
  rw [← hw1] at hR hS bb
  clear hw1
  have q0 := hR.cell 0
  have q1 := hR.cell 1
  simp at q0 q1
  have hs1 := bb.size
  go_wp2_with fail
  refine (specRdOk_yes s at0 _ hs ha).mono ?_
  rintro e w2 ⟨rfl, b2⟩
  replace bb := bel_then b2 hs1 bb
  replace hR := hR.below b2 hR.lt
  replace hS := hS.below b2 hS.lt
  have hs2 := bb.size
  have hRl := hR.lt
  have hSl := hS.lt
  clear q0 q1 b2
  go_wp2_with fail
  refine (K2.out _ (HI.out.below (bb.mono hB)) (Nat.le_trans hB hs2)).mono ?_
  rintro e w3 ⟨vc, rfl, hown, b3⟩
  obtain ⟨gc, cc, hvc⟩ := Joins.ownsRow_form hown hm1
  subst hvc
  have hgc := hown.lt gc rfl
  replace bb := bel_then b3 hs2 bb
  replace hR := hR.below b3 hR.lt
  replace hS := hS.below b3 hS.lt
  have hs3 := bb.size
  have hRl3 := hR.lt
  have hSl3 := hS.lt
  clear b3
  go_wp2
  go_loopw [9, 11] (fun vo sk wr => ∃ (k c : Nat) (ys : List Nat), k ≤ n ∧ sk = .int .i64 k ∧ c ≤ 8 * s.size ∧ Hid (ys.length = k ∧ Reads ls s at0 ys c) ∧ wr.ownsRow w3.heap.size 3 1 vo k (natsL ys) ∧ Hid (wr.ownsRow w2.heap.size 3 1 (.slice (some ⟨gc, 0, none⟩) m cc) m (nats m (cdF ls))) ∧
    Has wr w.heap.size 37 #[.string s, .int .i64 c] ∧ Has wr (w.heap.size + 1) 37 #[.string ⟨#[]⟩, .int .i64 0] ∧ Below w.heap.size w wr ∧ w3.heap.size ≤ wr.heap.size) (fun _ sk _ => n - (intOf sk).toNat)
  case atStart => exact ⟨0, at0, [], Nat.zero_le _, rfl, ha, hidden ⟨rfl, .nil _⟩, World.ownsRow_nil _ _ _ _, hidden hown, hR, hS, bb, Nat.le_refl _⟩
  case round =>
    obtain ⟨k, c, ys, hk, rfl, hc, Hrd, hownO, HownC, hR', hS', bb', hs'⟩ := hrel
    clear hR hS bb hown
    by_cases hlt : k < n
    · by_cases hex : ∃ n1 x, hit ls s c n1 x
      · obtain ⟨n1, x, hh⟩ := hex
        have hx260 : x < 260 := Nat.lt_of_lt_of_le hh.1 H260.out
        have hcn := hh.2.2.1
        have HNEXT := hidden (And.intro (show (ys ++ [x]).length = k + 1 by simp [Hrd.out.1]) (Hrd.out.2.snoc hh))
        have HTK : Hid (natsL (ys ++ [x]) = natsL ys ++ [.int .i64 (x : Int)]) := hidden (by rw [natsL_append]; rfl)
        have hx0 : ¬ (x : Int) < 0 := by omega
        have KK := hidden (K3.out wr w.heap.size _ c n1 x _ (HI.out.below (bb'.mono hB)) HownC.out hB (by simp [Value.ownBlock]; omega) hR' hc hh)
        clear hh
        go_wp2_with fail
        refine KK.out.mono ?_
        rintro e w4 ⟨hO, rfl, hR4⟩
        have hS4 := hO.has hS' (by omega)
        have hownO4 := own_away_has hownO hO (fun he => by have := (hownO.lt _ he).1; omega)
        have HownC4 := own_away_has HownC.out hO (by simp [Value.ownBlock]; omega)
        have bb4 : Below w.heap.size w w4 := only_then hO (Nat.le_refl _) bb'.size bb'
        have hs4 : w3.heap.size ≤ w4.heap.size := Nat.le_trans hs' hO.size
        clear hO hR' hS' hownO HownC bb' KK
        go_wp2_with (at_builtin; refine wpList_append_own_at _ rfl _ _ 23 rfl w3.heap.size 3 i0 (.int .i64 0) 1 8 Try.underlying23 hi hz0 hz1 hz2 rfl (by decide) _ _ _ rfl (hownO4.alloc _) ⟨w4.heap.size, 0, none⟩ 1 1 [.int .i64 (x : Int)] rfl rfl ?ca2 ?ca3 ?ca4 ?ca5 ?ca6 ?_)
        case ca2 => exact cell_one _ _ _
        case ca3 => exact fun u hu => by simp at hu; subst hu; rfl
        case ca4 => unfold maxLen; omega
        case ca5 => omega
        case ca6 => simp; omega
        intro v5 w5 hown5 hgrow _ _
        have hR5 := (hR4.alloc (.cells #[.int .i64 (x : Int)] 3)).grown hgrow (own_ne hownO4 (by omega))
        have hS5 := (hS4.alloc (.cells #[.int .i64 (x : Int)] 3)).grown hgrow (own_ne hownO4 (by omega))
        have HownC5 := (HownC4.alloc (.cells #[.int .i64 (x : Int)] 3)).kept hgrow (.inr (own_neq hownO4 (by omega)))
        have hs5 : w3.heap.size ≤ w5.heap.size := by have := hgrow.size; simp at this; omega
        have bb5 : Below w.heap.size w w5 := (bb4.alloc (by omega) _).grown hgrow (by simp; omega) (fun b hb => by have := (hownO4.lt b hb).1; omega)
        rw [← HTK.out] at hown5
        clear hgrow hownO4 HownC4 hR4 hS4 bb4
        go_wp2
        go_roundw
        case rel => exact ⟨k + 1, c + n1, ys ++ [x], by omega, by go_num, hcn, HNEXT, hown5, hidden HownC5, hR5, hS5, bb5, hs5⟩
        case measure => simp [intOf]; omega
      · have KK := hidden (K4.out wr w.heap.size _ c _ (HI.out.below (bb'.mono hB)) HownC.out hB (by simp [Value.ownBlock]; omega) hR' hc (fun n1 x hh => hex ⟨n1, x, hh⟩))
        clear hex
        go_wp2_with fail
        refine KK.out.mono ?_
        rintro e w4 ⟨hO, rfl⟩
        have hS4 := hO.has hS' (by omega)
        have bb4 : Below w.heap.size w w4 := only_then hO (Nat.le_refl _) bb'.size bb'
        have e0 := hS4.cell 0
        have e1 := hS4.cell 1
        have g0 := hS4.free 0
        have g1 := hS4.free 1
        simp at e0 e1
        clear hO hR' hS' hS4 hownO HownC bb' KK
        go_wp2
        refine bodyPost_ret (v := .tuple #[.slice none 0 0, .agg #[.string ⟨#[]⟩, .int .i64 0], .bool false]) (by simp [results, Try.results23, go_sem, e0, e1, g0, g1]) rfl ⟨rfl, ?_⟩
        repeat (first | exact Below.refl _ _ | assumption | refine Below.alloc ?_ (by (try simp); (try omega)) _ | refine Below.setCell ?_ (by (try simp); (try omega)) _ | refine Below.drew ?_)
    · have hkn : k = n := by omega
      exact absurd ⟨ys, c, by rw [Hrd.out.1, hkn], Hrd.out.2⟩ HNO.out
theorem specGetSyms_no (a : Option Addr) (cap B : Nat) (at0 n : Int) (ls : List Int) (s : ByteArray) (w : World) (hz : Ints w B a ls) (hB : B ≤ w.heap.size) (hs : s.size ≤ 1048576) (b1 : -9223372036854775808 ≤ at0) (b2 : at0 ≤ 9223372036854775807) (b3 : -9223372036854775808 ≤ n) (b4 : n ≤ 9223372036854775807)
    (h : ¬ (lOk ls = true ∧ 0 ≤ at0 ∧ at0 ≤ 8 * s.size ∧ 0 ≤ n ∧ n ≤ 2000 ∧ ∃ xs c, xs.length = n.toNat ∧ Reads ls s at0.toNat xs c)) :
    Calls Try.prog 23 #[.slice a ls.length cap, .agg #[.string s, .int .i64 at0], .int .i64 n] w fun e w' => e = .returned (.tuple #[.slice none 0 0, .agg #[.string ⟨#[]⟩, .int .i64 0], .bool false]) ∧ Below w.heap.size w w' := by
  by_cases hgood : lOk ls = true ∧ 0 ≤ at0 ∧ at0 ≤ 8 * s.size ∧ 0 ≤ n ∧ n ≤ 2000
  · obtain ⟨hok, h0, h1, h2, h3⟩ := hgood
    obtain ⟨q, rfl⟩ : ∃ q : Nat, at0 = q := ⟨at0.toNat, by omega⟩
    obtain ⟨m, rfl⟩ : ∃ q : Nat, n = q := ⟨n.toNat, by omega⟩
    exact specGetSyms_stop a cap B q m ls s w hz hB hok hs (by omega) (by omega) (fun hx => h ⟨hok, h0, h1, h2, h3, by simpa using hx⟩)
  · have K1 := hidden (fun W h => specLensOk_any a cap B ls W h)
    have HI := hidden hz
    have hR := (Has.fresh w 37 #[.string s, .int .i64 at0]).alloc (.cells #[.string ⟨#[]⟩, .int .i64 0] 37)
    have bb : Below w.heap.size w ((w.alloc (.cells #[.string s, .int .i64 at0] 37)).alloc (.cells #[.string ⟨#[]⟩, .int .i64 0] 37)) := ((Below.refl _ _).alloc (Nat.le_refl _) _).alloc (by simp) _
    have hS := Has.freshAt (w := w.alloc (.cells #[.string s, .int .i64 at0] 37)) (g := w.heap.size + 1) (by simp) 37 #[.string ⟨#[]⟩, .int .i64 0]
    obtain ⟨m, hm⟩ : ∃ n, ls.length = n := ⟨_, rfl⟩
    by_cases hok : lOk ls = true
    · rw [hok, hm] at K1
      rw [hm]
      by_cases ha : 0 ≤ at0 ∧ at0 ≤ 8 * s.size
      · obtain ⟨q, rfl⟩ : ∃ q : Nat, at0 = q := ⟨at0.toNat, by omega⟩
        have hq : q ≤ 8 * s.size := by omega
        have hnn : n < 0 ∨ (¬ n < 0 ∧ 2000 < n) := by
          rcases Int.lt_or_le n 0 with g | g
          · exact .inl g
          · refine .inr ⟨by omega, ?_⟩
            apply Classical.byContradiction
            intro g2
            exact hgood ⟨hok, ha.1, ha.2, g, by omega⟩
        clear hz hm hok h hgood ha
        rcases hnn with hn0 | ⟨hn0, hn1⟩
        all_goals
          go_enter Try.func23, Try.ntmps23
          go_wp2_with fail
          refine (K1.out _ (HI.out.below (bb.mono hB))).mono ?_
          rintro e w1 ⟨rfl, hw1⟩
          rw [← hw1] at hR hS bb
          clear hw1
          have c0 := hR.cell 0
          have c1 := hR.cell 1
          simp at c0 c1
          have hs1 := bb.size
          go_wp2_with fail
          refine (specRdOk_yes s q _ hs hq).mono ?_
          rintro e w2 ⟨rfl, b5⟩
          replace bb := bel_then b5 hs1 bb
          replace hS := hS.below b5 hS.lt
          have e0 := hS.cell 0
          have e1 := hS.cell 1
          have g0 := hS.free 0
          have g1 := hS.free 1
          simp at e0 e1
          have hs2 := bb.size
          clear c0 c1 b5 hR hS
          go_wp2
          refine bodyPost_ret (v := .tuple #[.slice none 0 0, .agg #[.string ⟨#[]⟩, .int .i64 0], .bool false]) (by simp [results, Try.results23, go_sem, e0, e1, g0, g1]) rfl ⟨rfl, ?_⟩
          repeat (first | exact Below.refl _ _ | assumption | refine Below.alloc ?_ (by (try simp); (try omega)) _ | refine Below.setCell ?_ (by (try simp); (try omega)) _ | refine Below.drew ?_)
      · clear hz hm hok h hgood
        go_enter Try.func23, Try.ntmps23
        go_wp2_with fail
        refine (K1.out _ (HI.out.below (bb.mono hB))).mono ?_
        rintro e w1 ⟨rfl, hw1⟩
        rw [← hw1] at hR hS bb
        clear hw1
        have c0 := hR.cell 0
        have c1 := hR.cell 1
        simp at c0 c1
        have hs1 := bb.size
        go_wp2_with fail
        refine (specRdOk_no s at0 _ hs b1 b2 ha).mono ?_
        rintro e w2 ⟨rfl, b5⟩
        replace bb := bel_then b5 hs1 bb
        replace hS := hS.below b5 hS.lt
        have e0 := hS.cell 0
        have e1 := hS.cell 1
        have g0 := hS.free 0
        have g1 := hS.free 1
        simp at e0 e1
        have hs2 := bb.size
        clear c0 c1 b5 hR hS
        go_wp2
        refine bodyPost_ret (v := .tuple #[.slice none 0 0, .agg #[.string ⟨#[]⟩, .int .i64 0], .bool false]) (by simp [results, Try.results23, go_sem, e0, e1, g0, g1]) rfl ⟨rfl, ?_⟩
        repeat (first | exact Below.refl _ _ | assumption | refine Below.alloc ?_ (by (try simp); (try omega)) _ | refine Below.setCell ?_ (by (try simp); (try omega)) _ | refine Below.drew ?_)
    · have hok' : lOk ls = false := by simpa using hok
      rw [hok', hm] at K1
      rw [hm]
      clear hz hm hok h hok' hgood
      go_enter Try.func23, Try.ntmps23
      go_wp2_with fail
      refine (K1.out _ (HI.out.below (bb.mono hB))).mono ?_
      rintro e w1 ⟨rfl, hw1⟩
      rw [← hw1] at hR hS bb
      clear hw1
      have e0 := hS.cell 0
      have e1 := hS.cell 1
      have g0 := hS.free 0
      have g1 := hS.free 1
      simp at e0 e1
      have hs1 := bb.size
      clear hR hS
      go_wp2
      refine bodyPost_ret (v := .tuple #[.slice none 0 0, .agg #[.string ⟨#[]⟩, .int .i64 0], .bool false]) (by simp [results, Try.results23, go_sem, e0, e1, g0, g1]) rfl ⟨rfl, ?_⟩
      repeat (first | exact Below.refl _ _ | assumption | refine Below.alloc ?_ (by (try simp); (try omega)) _ | refine Below.setCell ?_ (by (try simp); (try omega)) _ | refine Below.drew ?_)
end Go.Proofs.Ytdfbpmkdmpdobaa
