/- Texts of the proof, merged. -/
import Derived.Maps.AppendAt
import Derived.Deep.LoopGhost
import Derived.BigQuiet
import Derived.Deep.QuietTactic
import Derived.Test.YtembljihmnmmfaaGreatKS4
import Derived.Lib.Strings
import Derived.Test.YtembljihmnmmfaaGreatKS12
import Derived.Lib.SmallJoins
import Derived.Carry
namespace Go.Proofs.YtembljihmnmmfaaGreat
set_option linter.unusedVariables false
set_option linter.unusedSimpArgs false
open Go.RowKit

theorem bytes_at (s : ByteArray) (k : Nat) (h : k < s.size) : (bytesOf s).take (k + 1) = (bytesOf s).take k ++ [s[k].toNat] := by
  have hk : k < (bytesOf s).length := by rw [bytesOf_len]; exact h
  rw [List.take_succ_eq_append_getElem hk]
  congr 2
  have := bytesOf_get s k
  rw [List.getD_eq_getElem?_getD, List.getElem?_eq_getElem hk, Option.getD_some] at this
  rw [this, byteAt_get _ _ h]
theorem nats_up (s : ByteArray) (k : Nat) (h : k < s.size) : nats 256 (fun b => ((bytesOf s).take (k + 1)).count b) = (nats 256 (fun b => ((bytesOf s).take k).count b)).set s[k].toNat (.int .i64 ((((bytesOf s).take k).count s[k].toNat + 1 : Nat) : Int)) := by
  rw [nats_set]
  refine nats_congr fun t ht => ?_
  rw [bytes_at s k h, List.count_append]
  by_cases e : t = s[k].toNat
  · subst e; simp
  · simp [e, List.count_cons, Ne.symm e]
set_option maxHeartbeats 1000000 in
set_option maxRecDepth 100000 in
theorem l7counts_any (s : ByteArray) (w : World) (hs : s.size ≤ 1048576) :
    Calls Tryz.prog 91 #[.string s] w fun e w' => e = .returned (.slice (some ⟨w.heap.size, 0, none⟩) 256 256) ∧ w'.ownsRow w.heap.size 3 1 (.slice (some ⟨w.heap.size, 0, none⟩) 256 256) 256 (nats 256 (fun b => (bytesOf s).count b)) ∧ Below w.heap.size w w' := by
  obtain ⟨j0, ji, jz0, jz1, jz2⟩ := info_parts Tryz.infoInt
  have HALL : Hid ((bytesOf s).take s.size = bytesOf s) := hidden (by rw [← bytesOf_len]; exact List.take_length)
  go_enter Tryz.func91, Tryz.ntmps91
  go_wp2_with (at_make; refine wpList_make_full _ rfl _ _ 24 rfl w.heap.size 3 j0 (.int .i64 0) 1 Tryz.underlying24 ji jz0 jz1 .i64 .i64 _ _ 256 rfl rfl rfl rfl ?cb1 ?cb2 ?cb3 ?_)
  case cb1 => rw [jz2]; omega
  case cb2 => unfold maxLen; omega
  case cb3 => exact Nat.le_refl _
  intro w1 hown hgrow
  have hbl : Below w.heap.size w w1 := ⟨hgrow.os, hgrow.tape, hgrow.output, hgrow.size, fun i hi => hgrow.block i hi (by simp)⟩
  rw [made_nats] at hown
  clear hgrow
  go_wp2
  go_loopw [4] (fun si wr => ∃ k : Nat, k ≤ s.size ∧ si = .int .i64 k ∧ wr.ownsRow w.heap.size 3 1 (.slice (some ⟨w.heap.size, 0, none⟩) 256 256) 256 (nats 256 (fun b => ((bytesOf s).take k).count b)) ∧ Below w.heap.size w wr) (fun si _ => s.size - (intOf si).toNat)
  case atStart => exact ⟨0, by omega, rfl, by simpa using hown, hbl⟩
  case round =>
    obtain ⟨k, hk, rfl, hownD, hblD⟩ := hrel
    by_cases hlt : k < s.size
    · have hx : s[k].toNat < 256 := UInt8.toNat_lt _
      have HUP := hidden (nats_up s k hlt)
      have d0 := hownD.cellAt s[k].toNat (by omega)
      rw [nats_get _ _ _ hx] at d0
      have f0 := hownD.frozenAt s[k].toNat
      have hc : ((bytesOf s).take k).count s[k].toNat ≤ k := by
        have := List.count_le_length (a := s[k].toNat) (l := (bytesOf s).take k)
        rw [List.length_take] at this; omega
      obtain ⟨c, hcc⟩ : ∃ c, ((bytesOf s).take k).count s[k].toNat = c := ⟨_, rfl⟩
      rw [hcc] at hc d0 HUP
      clear hcc
      go_wp2
      go_roundw
      case rel => exact ⟨k + 1, by omega, by go_num, by rw [HUP.out]; exact (hownD.stored _ _).1, hblD.setCell (Nat.le_refl _) _⟩
      case measure => simp [intOf]; omega
    · have hkn : k = s.size := by omega
      subst hkn
      rw [HALL.out] at hownD
      go_wp2
      go_ret
      exact ⟨rfl, hownD, hblD⟩

theorem run_string_nil7 (w : World) : (convert 61 9 (.slice none 0 0)).run Tryz.prog w = .ok (.string ⟨#[]⟩) w := by
  rw [run_convert_bytes_string w _ _ _ _ _ _ Tryz.underlying61 Tryz.underlying5 Tryz.underlying9]
  rfl
/-- 'string(b)' of a row of one's own, a nil one too. -/
theorem run_str {w : World} {base n : Nat} {v : Value} {D : List Nat} (h : w.ownsRow base 5 1 v n (u8s D)) : (convert 61 9 v).run Tryz.prog w = .ok (.string (strOf D)) w := by
  have hl : D.length = n := by have := h.1; rw [u8s_len] at this; omega
  rcases h.2 with ⟨hv, h0⟩ | ⟨gd, cp, cur, hv, _⟩
  · subst hv
    have : D = [] := List.length_eq_zero_iff.1 (by omega)
    subst this
    exact run_string_nil7 w
  · subst hv
    exact run_string_own (P := Tryz.prog) (src := 61) (dst := 9) Tryz.underlying61 Tryz.underlying5 Tryz.underlying9 h hl
/-- Where one element has been appended to a row of one's own behind a world. -/
theorem bel_app {B : Nat} {a wr w3 : World} {v : Value} {n : Nat} {E : TypeId} {S : Nat} {xs : List Value} {cs : Array Value} {T : TypeId} (h : Below B a wr) (hB : B ≤ wr.heap.size) (hown : wr.ownsRow B E S v n xs) (hg : (wr.alloc (.cells cs T)).grownBy w3 v.ownBlock) : Below B a w3 :=
  (h.alloc hB _).grown hg (by simp; omega) (fun g hg => (hown.lt g hg).1)
set_option maxHeartbeats 1000000 in
set_option maxRecDepth 100000 in
theorem specUsed_any (s : ByteArray) (w : World) (hs : s.size ≤ 1048576) :
    Calls Tryz.prog 48 #[.string s] w fun e w' => e = .returned (.string (strOf (usedL (bytesOf s)))) ∧ Below w.heap.size w w' := by
  obtain ⟨i0, hi, hz0, hz1, hz2⟩ := info_parts Tryz.info5
  have K := hidden (fun W : World => l7counts_any s W hs)
  obtain ⟨L, hL⟩ : ∃ L, bytesOf s = L := ⟨_, rfl⟩
  rw [hL] at K ⊢
  clear hL
  have HS : Hid (∀ k, usedTo L (k + 1) = if 0 < L.count k then usedTo L k ++ [k] else usedTo L k) := hidden (usedTo_succ L)
  have HE : Hid (usedTo L 256 = usedL L) := hidden rfl
  obtain ⟨f, hf⟩ : ∃ f : Nat → Nat, (fun b => L.count b) = f := ⟨_, rfl⟩
  have HF : Hid (∀ k, f k = L.count k) := hidden (fun k => by rw [← hf])
  rw [hf] at K
  clear hf
  go_enter Tryz.func48, Tryz.ntmps48
  go_wp2_with fail
  refine (K.out _).mono ?_
  rintro e w1 ⟨rfl, hC, b1⟩
  have hs1 := b1.size
  go_wp2
  go_loopw [4, 5] (fun v si wr => ∃ k : Nat, k ≤ 256 ∧ si = .int .i64 k ∧ wr.ownsRow w1.heap.size 5 1 v (usedTo L k).length (u8s (usedTo L k)) ∧ Below w1.heap.size w1 wr) (fun _ si _ => 256 - (intOf si).toNat)
  case atStart => exact ⟨0, by omega, rfl, World.ownsRow_nil _ _ _ _, Below.refl _ _⟩
  case round =>
    obtain ⟨k, hk, rfl, hown, hbl⟩ := hrel
    have hsz := hbl.size
    by_cases hlt : k < 256
    · have hle := usedTo_len L k
      have d0 := (own_bel hC hbl).cellAt k hlt
      rw [nats_get _ _ _ hlt] at d0
      have hk8 : (k : Int) % 256 = k := by omega
      by_cases hc : 0 < f k
      · have HN : Hid (usedTo L (k + 1) = usedTo L k ++ [k]) := hidden (by rw [HS.out, if_pos (by rw [← HF.out]; exact hc)])
        go_wp2_with (at_builtin; refine wpList_append_own _ rfl _ _ 61 rfl w1.heap.size 5 i0 (.int .u8 0) 1 1 Tryz.underlying61 hi hz0 hz1 hz2 rfl (by decide) _ _ _ rfl (hown.alloc _) ⟨wr.heap.size, 0, none⟩ 1 1 [.int .u8 (k : Int)] rfl rfl ?c1 ?c2 ?c3 ?c4 ?c5 ?_)
        case c1 => exact cell_one_new _ _ _
        case c2 => exact fun x hx => by simp at hx; subst hx; rfl
        case c3 => unfold maxLen; omega
        case c4 => omega
        case c5 => simp; omega
        intro v' w3 hown' hgrow _
        have hb3 := bel_app hbl hsz hown hgrow
        rw [← u8s_snoc, ← HN.out] at hown'
        have HO : Hid (w3.ownsRow w1.heap.size 5 1 v' (usedTo L (k + 1)).length (u8s (usedTo L (k + 1)))) := hidden (by have := hown'; rwa [show (usedTo L k).length + 1 = (usedTo L (k + 1)).length by rw [HN.out]; simp] at this)
        clear hown hgrow hbl hown'
        go_wp2
        go_roundw
        case rel => exact ⟨k + 1, by omega, by go_num, HO.out, hb3⟩
        case measure => simp [intOf]; omega
      · have HN : Hid (usedTo L (k + 1) = usedTo L k) := hidden (by rw [HS.out, if_neg (by rw [← HF.out]; exact hc)])
        have hc0 : f k = 0 := by omega
        go_wp2
        go_roundw
        case rel => exact ⟨k + 1, by omega, by go_num, by rw [HN.out]; exact hown, hbl⟩
        case measure => simp [intOf]; omega
    · have hkn : k = 256 := by omega
      subst hkn
      rw [HE.out] at hown
      have hrun := run_str hown
      go_wp2
      go_ret
      exact ⟨rfl, bel_then hbl hs1 b1⟩

set_option maxHeartbeats 2000000 in
set_option maxRecDepth 100000 in
theorem specByCount_any (s : ByteArray) (w : World) (hs : s.size ≤ 1048576) :
    Calls Tryz.prog 47 #[.string s] w fun e w' => ∃ R, Ranked (bytesOf s) R ∧ e = .returned (.string (strOf R)) ∧ Below w.heap.size w w' := by
  obtain ⟨i0, hi, hz0, hz1, hz2⟩ := info_parts Tryz.info5
  have K := hidden (fun W : World => l7counts_any s W hs)
  have HB := hidden (byt_bytesOf s)
  obtain ⟨L, hL⟩ : ∃ L, bytesOf s = L := ⟨_, rfl⟩
  rw [hL] at K HB ⊢
  clear hL
  rw [← remF_nil] at K
  go_enter Tryz.func47, Tryz.ntmps47
  go_wp2_with fail
  refine (K.out _).mono ?_
  rintro e w1 ⟨rfl, hC, b1⟩
  have hs1 := b1.size
  obtain ⟨c0, hc0⟩ : ∃ c0, w.heap.size = c0 := ⟨_, rfl⟩
  rw [hc0] at hC b1 ⊢
  have hlt0 : c0 < w1.heap.size := (hC.lt c0 rfl).2
  go_wp2
  go_loopg [4, 5, 6] 257 (fun gk v _ _ wr => ∃ R : List Nat, Hid (Sel L R) ∧ Hid (R.length + gk = 257) ∧ R.length ≤ 256 ∧ wr.ownsRow w1.heap.size 5 1 v R.length (u8s R) ∧ wr.ownsRow c0 3 1 (.slice (some ⟨c0, 0, none⟩) 256 256) 256 (nats 256 (remF L R)) ∧ Below c0 w1 wr ∧ w1.heap.size ≤ wr.heap.size)
  case atStart => exact ⟨[], hidden (sel_nil L), hidden rfl, by simp, World.ownsRow_nil _ _ _ _, hC, Below.refl _ _, Nat.le_refl _⟩
  case round =>
    obtain ⟨R, HSel, HG, hRl, hown, hcnt, hbl, hsz⟩ := hrel
    obtain ⟨f, hf⟩ : ∃ f : Nat → Nat, remF L R = f := ⟨_, rfl⟩
    have HF := hidden hf
    rw [hf] at hcnt
    clear hf hC K
    go_wp2
    go_loopw [5, 6] (fun sb sk wq => ∃ b k : Nat, sb = .int .i64 b ∧ sk = .int .i64 k ∧ b < k ∧ 1 ≤ k ∧ k ≤ 256 ∧ Hid (∀ x, x < k → f x ≤ f b ∧ (f x = f b → b ≤ x)) ∧ Hid (∃ q, wq = wr.drewN q)) (fun _ sk _ => 256 - (intOf sk).toNat)
    case atStart => exact ⟨0, 1, rfl, rfl, by omega, by omega, by omega, hidden (fun x hx => by rw [show x = 0 by omega]; exact ⟨Nat.le_refl _, fun _ => Nat.le_refl _⟩), hidden ⟨0, rfl⟩⟩
    case round =>
      obtain ⟨b, k, rfl, rfl, hb, hk1, hk, HM, HQ⟩ := hrel
      obtain ⟨q, rfl⟩ := HQ.out
      have db := hcnt.cellAt b (by omega)
      rw [nats_get _ _ _ (by omega)] at db
      by_cases hlt : k < 256
      · have dk := hcnt.cellAt k (by omega)
        rw [nats_get _ _ _ hlt] at dk
        obtain ⟨x, hx⟩ : ∃ x, f k = x := ⟨_, rfl⟩
        obtain ⟨y, hy⟩ : ∃ y, f b = y := ⟨_, rfl⟩
        have HX := hidden hx
        have HY := hidden hy
        rw [hx] at dk
        rw [hy] at db
        clear hx hy
        by_cases hgt : y < x
        · have hgd : decide ((y : Int) < x) = true := by simp; omega
          have hgi : (y : Int) < x := by omega
          go_wp2
          go_quiet (fail)
          go_wp2
          go_roundw
          case rel => exact ⟨k, k + 1, rfl, by go_num, by omega, by omega, by omega, hidden (fun z hz => by
              have h1 := HX.out; have h2 := HY.out
              rcases Nat.lt_or_ge z k with h | h
              · have := HM.out z h; exact ⟨by omega, fun e => by omega⟩
              · obtain rfl : z = k := by omega
                exact ⟨Nat.le_refl _, fun _ => Nat.le_refl _⟩), hidden ⟨_, rfl⟩⟩
          case measure => simp [intOf]; omega
        · have hgd : decide ((y : Int) < x) = false := by simp; omega
          have hgi : ¬ (y : Int) < x := by omega
          go_wp2
          go_quiet (fail)
          go_wp2
          go_roundw
          case rel => exact ⟨b, k + 1, rfl, by go_num, by omega, by omega, by omega, hidden (fun z hz => by
              have h1 := HX.out; have h2 := HY.out
              rcases Nat.lt_or_ge z k with h | h
              · exact HM.out z h
              · obtain rfl : z = k := by omega
                exact ⟨by omega, fun e => by omega⟩), hidden ⟨_, rfl⟩⟩
          case measure => simp [intOf]; omega
      · have hk256 : k = 256 := by omega
        subst hk256
        by_cases hz : f b = 0
        · have HR : Hid (Ranked L R) := hidden (by
            have h := HM.out; rw [← HF.out] at h hz
            exact sel_end HB.out HSel.out h hz)
          have hrun := run_str (w := wr.drewN q) hown
          rw [hz] at db
          go_wp2
          go_ret
          exact ⟨R, HR.out, rfl, by rw [hc0]; exact b1.trans (bel_drewN hbl q)⟩
        · have hp : 0 < f b := by omega
          have HS2 : Hid (Sel L (R ++ [b]) ∧ R.length + 1 ≤ 256) := hidden (by
            have h := HM.out; rw [← HF.out] at h hp
            exact sel_step HB.out HSel.out h hp)
          have HF2 : Hid (nats 256 (remF L (R ++ [b])) = (nats 256 f).set b (.int .i64 ((0 : Nat) : Int))) := hidden (by
            rw [nats_set]
            refine nats_congr fun t _ => ?_
            rw [remF_snoc, HF.out])
          have hb8 : (b : Int) % 256 = b := by omega
          have hlen := HS2.out.2
          have hnz : ¬ (f b : Int) = 0 := by omega
          obtain ⟨y, hy⟩ : ∃ y, f b = y := ⟨_, rfl⟩
          rw [hy] at db hnz
          clear hy hz hp
          go_wp2_with (at_builtin; refine wpList_append_own _ rfl _ _ 61 rfl w1.heap.size 5 i0 (.int .u8 0) 1 1 Tryz.underlying61 hi hz0 hz1 hz2 rfl (by decide) _ _ _ rfl (hown.alloc _) ⟨wr.heap.size, 0, none⟩ 1 1 [.int .u8 (b : Int)] rfl rfl ?c1 ?c2 ?c3 ?c4 ?c5 ?_)
          case c1 => exact cell_one_new _ _ _
          case c2 => exact fun x hx => by simp at hx; subst hx; rfl
          case c3 => unfold maxLen; omega
          case c4 => omega
          case c5 => simp; omega
          intro v' w3 hown' hgrow _
          have hlo := fun g hg => (hown.lt g hg).1
          have hb3 : Below c0 w1 w3 := ((bel_drewN hbl q).alloc (by simp; omega) _).grown hgrow (by simp; omega) (fun g hg => by have := hlo g hg; omega)
          have hc3 : w3.ownsRow c0 3 1 (.slice (some ⟨c0, 0, none⟩) 256 256) 256 (nats 256 f) := World.ownsRow.kept (World.ownsRow.alloc (w := wr.drewN q) hcnt _) hgrow (.inr (fun e => by have := hlo c0 e.symm; omega))
          have hs3 : w1.heap.size ≤ w3.heap.size := by have := hgrow.size; simp at this; omega
          rw [← u8s_snoc] at hown'
          have d3 := hc3.cellAt b (by omega)
          rw [nats_get _ _ _ (by omega)] at d3
          have f3 := hc3.frozenAt b
          clear hown hcnt hgrow hlo db
          go_wp2
          go_roundg (gk - 1)
          case measure => have := HG.out; omega
          case rel => exact ⟨R ++ [b], hidden HS2.out.1, hidden (by have := HG.out; simp; omega), by simp; omega, by simpa using own_away hown' (p := ⟨c0, b, none⟩) (by simpa using hlt0) _, by rw [HF2.out]; exact (hc3.stored b _).1, hb3.setCell (Nat.le_refl _) _, by simpa using hs3⟩
end Go.Proofs.YtembljihmnmmfaaGreat
namespace Go.Proofs.YtembljihmnmmfaaGreat
set_option linter.unusedVariables false
set_option linter.unusedSimpArgs false
open Go.RowKit

theorem getD_small {D : List Nat} (h : Byt D) (j : Nat) : D.getD j 0 < 256 := by
  rcases Nat.lt_or_ge j D.length with hj | hj
  · rw [List.getD_eq_getElem?_getD, List.getElem?_eq_getElem hj]; exact h _ (List.getElem_mem hj)
  · rw [List.getD_eq_getElem?_getD, List.getElem?_eq_none hj]; decide
theorem bytes_str {D : List Nat} (h : Byt D) : bytesOf (strOf D) = D := bytesOf_strOf D (getD_small h)
theorem ordOk_str (s : ByteArray) : ordOk (bytesOf s) = true ↔ 0 < s.size ∧ (usedL (bytesOf s)).length = s.size := by
  rw [ordOk_iff, ← used_len_eq (byt_bytesOf s), bytesOf_len]
  have : bytesOf s ≠ [] ↔ 0 < s.size := by rw [← bytesOf_len, List.length_pos_iff]
  rw [this]
set_option maxHeartbeats 1000000 in
set_option maxRecDepth 100000 in
theorem specOrderOk_any (s : ByteArray) (w : World) (hs : s.size ≤ 1048576) :
    Calls Tryz.prog 49 #[.string s] w fun e w' => e = .returned (.bool (ordOk (bytesOf s))) ∧ Below w.heap.size w w' := by
  have K := hidden (fun W : World => specUsed_any s W hs)
  have HS := hidden (ordOk_str s)
  have hz := strOf_size (usedL (bytesOf s))
  have hl := usedTo_len (bytesOf s) 256
  change (usedL (bytesOf s)).length ≤ 256 at hl
  obtain ⟨o, ho⟩ : ∃ o, ordOk (bytesOf s) = o := ⟨_, rfl⟩
  obtain ⟨u, hu⟩ : ∃ u, strOf (usedL (bytesOf s)) = u := ⟨_, rfl⟩
  rw [ho, ← hz, hu] at HS
  rw [← hz, hu] at hl
  rw [hu] at K
  rw [ho]
  clear ho hu hz
  by_cases h0 : 0 < s.size
  · by_cases h1 : s.size ≤ 256
    · by_cases he : u.size = s.size
      · have HO : Hid (o = true) := hidden (HS.out.2 ⟨h0, he⟩)
        go_enter Tryz.func49, Tryz.ntmps49
        go_wp2_with fail
        refine (K.out _).mono ?_
        rintro e w1 ⟨rfl, b1⟩
        go_wp2
        go_ret
        exact ⟨ret_bool HO.out.symm, b1⟩
      · have HO : Hid (o = false) := hidden (by
          cases o
          · rfl
          · exact absurd (HS.out.1 rfl).2 he)
        go_enter Tryz.func49, Tryz.ntmps49
        go_wp2_with fail
        refine (K.out _).mono ?_
        rintro e w1 ⟨rfl, b1⟩
        go_wp2
        go_ret
        exact ⟨ret_bool (by rw [HO.out]; exact beq_eq_false_iff_ne.2 (by omega)), b1⟩
    · have HO : Hid (o = false) := hidden (by
        cases o
        · rfl
        · have := (HS.out.1 rfl).2; omega)
      go_enter Tryz.func49, Tryz.ntmps49
      go_wp2
      go_ret
      exact ⟨ret_bool HO.out.symm, Below.refl _ _⟩
  · have HO : Hid (o = false) := hidden (by
      cases o
      · rfl
      · exact absurd (HS.out.1 rfl).1 h0)
    have h00 : ¬ (0 : Int) < s.size := by omega
    go_enter Tryz.func49, Tryz.ntmps49
    go_wp2
    go_ret
    exact ⟨ret_bool (by rw [HO.out]), Below.refl _ _⟩

end Go.Proofs.YtembljihmnmmfaaGreat
namespace Go.Proofs.YtembljihmnmmfaaGreat
set_option linter.unusedVariables false
set_option linter.unusedSimpArgs false
open Go.RowKit

/-- Where a byte stands; -1: nowhere. -/
def placeI (u : List Nat) (b : Nat) : Int := if b ∈ u then (u.idxOf b : Int) else -1
theorem place_at {u : List Nat} {b k : Nat} (hk : k < u.length) (h : u.getD k 0 = b) (hno : ∀ j, j < k → u.getD j 0 ≠ b) : placeI u b = k := by
  have hb : b ∈ u := by
    rw [← h, List.getD_eq_getElem?_getD, List.getElem?_eq_getElem hk]; exact List.getElem_mem hk
  unfold placeI
  rw [if_pos hb]
  have h2 := idx_get hb
  rcases Nat.lt_trichotomy (u.idxOf b) k with h3 | h3 | h3
  · exact absurd h2 (hno _ h3)
  · rw [h3]
  · have h4 := List.not_of_lt_findIdx (p := (· == b)) (xs := u) h3
    rw [List.getD_eq_getElem?_getD, List.getElem?_eq_getElem hk, Option.getD_some] at h
    simp [h] at h4
theorem place_no {u : List Nat} {b : Nat} (hno : ∀ j, j < u.length → u.getD j 0 ≠ b) : placeI u b = -1 := by
  unfold placeI
  rw [if_neg]
  intro hb
  exact hno _ (idx_lt hb) (idx_get hb)
set_option maxHeartbeats 1000000 in
theorem l7place_any (s : ByteArray) (b : Nat) (w : World) (hs : s.size ≤ 1048576) (hb : b < 256) :
    Calls Tryz.prog 50 #[.string s, .int .u8 b] w fun e w' => e = .returned (.int .i64 (placeI (bytesOf s) b)) ∧ w' = w := by
  have HG : Hid (∀ k (h : k < s.size), s[k].toNat = (bytesOf s).getD k 0) := hidden (fun k h => by rw [byteAt_get _ _ h, bytesOf_get])
  have HL : Hid ((bytesOf s).length = s.size) := hidden (bytesOf_len s)
  go_enter Tryz.func50, Tryz.ntmps50
  go_wp2
  go_loopw [5] (fun sk wr => ∃ k : Nat, sk = .int .i64 k ∧ k ≤ s.size ∧ Hid (∀ j, j < k → (bytesOf s).getD j 0 ≠ b) ∧ Hid (wr = w)) (fun sk _ => s.size - (intOf sk).toNat)
  case atStart => exact ⟨0, rfl, by omega, hidden (fun j hj => by omega), hidden rfl⟩
  case round =>
    obtain ⟨k, rfl, hk, HNO, HW⟩ := hrel
    by_cases hlt : k < s.size
    · have hgk := HG.out k hlt
      by_cases he : s[k].toNat = b
      · have HF : Hid (placeI (bytesOf s) b = k) := hidden (place_at (by rw [HL.out]; exact hlt) (by rw [← hgk]; exact he) HNO.out)
        clear hgk
        go_wp2
        go_ret
        exact ⟨ret_int HF.out.symm, HW.out⟩
      · have HN2 : Hid (∀ j, j < k + 1 → (bytesOf s).getD j 0 ≠ b) := hidden (fun j hj => by
          rcases Nat.lt_or_ge j k with h | h
          · exact HNO.out j h
          · rw [show j = k by omega, ← hgk]; exact he)
        clear hgk
        go_wp2
        go_roundw
        case rel => exact ⟨k + 1, by go_num, by omega, HN2, HW⟩
        case measure => simp [intOf]; omega
    · have HF : Hid (placeI (bytesOf s) b = -1) := hidden (place_no (fun j hj => HNO.out j (by rw [HL.out] at hj; omega)))
      go_wp2
      go_ret
      exact ⟨ret_int HF.out.symm, HW.out⟩

end Go.Proofs.YtembljihmnmmfaaGreat
namespace Go.Proofs.YtembljihmnmmfaaGreat
set_option linter.unusedVariables false
set_option linter.unusedSimpArgs false
open Go.RowKit

/-- Two slices do not lie in one block. -/
def Apart (a b : Value) : Prop := ∀ k, a.ownBlock = some k → b.ownBlock ≠ some k
theorem Apart.symm {a b : Value} (h : Apart a b) : Apart b a := fun k hb ha => h k ha hb
end Go.Proofs.YtembljihmnmmfaaGreat
namespace Go.Proofs.YtembljihmnmmfaaGreat
set_option linter.unusedVariables false
set_option linter.unusedSimpArgs false
open Go.RowKit Go.Maps

theorem count_up (s : ByteArray) (k : Nat) (h : k < s.size) : (fun b => ((bytesOf s).take (k + 1)).count b) = fun b => if b = s[k].toNat then ((bytesOf s).take k).count s[k].toNat + 1 else ((bytesOf s).take k).count b := by
  funext t
  rw [bytes_at s k h, List.count_append]
  by_cases e : t = s[k].toNat
  · subst e; simp
  · simp [e, List.count_cons, Ne.symm e]
set_option maxHeartbeats 1000000 in
set_option maxRecDepth 100000 in
theorem countsOf_any (s : ByteArray) (w : World) (hs : s.size ≤ 1048576) :
    Calls Tryz.prog 99 #[.string s] w fun e w' => e = .returned (.map (some w.heap.size)) ∧ CntAt w' w.heap.size s.size (fun b => (bytesOf s).count b) ∧ Below w.heap.size w w' := by
  have HALL : Hid ((bytesOf s).take s.size = bytesOf s) := hidden (by rw [← bytesOf_len]; exact List.take_length)
  have hmm := @run_makeMap Tryz.prog
  go_enter Tryz.func99, Tryz.ntmps99
  go_wp2
  go_loopw [4, 8] (fun _ sk wr => ∃ k : Nat, k ≤ s.size ∧ sk = .int .i64 k ∧ CntAt wr w.heap.size k (fun b => ((bytesOf s).take k).count b) ∧ Below w.heap.size w wr) (fun _ sk _ => s.size - (intOf sk).toNat)
  case atStart => exact ⟨0, by omega, rfl, ⟨_, World.ownsMap_made w Tryz.prog 5 (plainElem (H := Unit) Tryz.prog 3), by simpa using cnt_nil⟩, (Below.refl _ _).alloc (Nat.le_refl _) _⟩
  case round =>
    obtain ⟨k, hk, rfl, ⟨D, hown, hC⟩, hbl⟩ := hrel
    by_cases hlt : k < s.size
    · have hx : s[k].toNat < 256 := UInt8.toNat_lt _
      have HUP := hidden (count_up s k hlt)
      have hc : ((bytesOf s).take k).count s[k].toNat ≤ k := by
        have := List.count_le_length (a := s[k].toNat) (l := (bytesOf s).take k)
        rw [List.length_take] at this; omega
      obtain ⟨x, hxx⟩ : ∃ x, s[k].toNat = x := ⟨_, rfl⟩
      rw [hxx] at hx hc HUP
      have HC2 := hidden (cnt_put hC hx)
      have HAT := hidden (hC.2.2.1 x hx)
      obtain ⟨c, hcc⟩ : ∃ c, ((bytesOf s).take k).count x = c := ⟨_, rfl⟩
      simp only [hcc] at hc HUP HC2 HAT
      have hkey := keyB hx
      clear hcc hC
      go_wp2_with (first | (at_lookup; refine wpList_lookup_own_int _ rfl _ _ 119 rfl 5 3 .i64 byteKey Tryz.underlying119 Tryz.underlying3 (zeroI7 _) w.heap.size k D rfl hown _ _ rfl hkey ?_; intro q hat hwc; obtain rfl : q = (c : Int) := (by have h1 := hat.symm.trans HAT.out; simpa using h1)) | (at_mapUpdate; refine wpList_mapUpdate_own _ rfl _ _ _ 119 rfl 5 3 byteKey Tryz.underlying119 _ w.heap.size k _ rfl hown (by unfold maxLen; omega) _ _ _ rfl rfl hkey (.lit (.int .i64 ((c : Int) + 1))) [] (plainElem_int Tryz.underlying3 (WalkArith.wf_i64 (by omega))) ?_; intro w2 hown2 hgrow2))
      go_roundw
      case rel => exact ⟨k + 1, by omega, by go_num, ⟨_, hown2, by rw [HUP.out]; exact HC2.out⟩, hbl.grown hgrow2 hbl.size (fun j hj => by cases hj; exact Nat.le_refl _)⟩
      case measure => simp [intOf]; omega
    · have hkn : k = s.size := by omega
      subst hkn
      rw [HALL.out] at hC
      go_wp2
      go_ret
      exact ⟨rfl, ⟨D, hown, hC⟩, hbl⟩

theorem str_isEmpty {s : ByteArray} (h : 0 < s.size) : s.toList.isEmpty = false := by
  rw [Bool.eq_false_iff]
  intro e
  rw [List.isEmpty_iff, ByteArray.toList_eq] at e
  have h2 : s.data.toList.length = s.size := by simp
  rw [e] at h2
  simp at h2
  omega
theorem str_zero {s : ByteArray} (h : ¬ 0 < s.size) : s = ⟨#[]⟩ := by
  have : bytesOf s = [] := List.length_eq_zero_iff.1 (by rw [bytesOf_len]; omega)
  rw [← strOf_bytesOf s, this]; rfl
set_option maxHeartbeats 1000000 in
set_option maxRecDepth 100000 in
theorem implOrderOk_any (s : ByteArray) (w : World) (hs : s.size ≤ 1048576) :
    Calls Tryz.prog 119 #[.string s] w fun e w' => e = .returned (.bool (ordOk (bytesOf s))) ∧ Below w.heap.size w w' := by
  have K := hidden (fun W : World => countsOf_any s W hs)
  by_cases h0 : 0 < s.size
  · have HS := hidden (ordOk_str s)
    have HCU := hidden (card_used (bytesOf s))
    obtain ⟨o, ho⟩ : ∃ o, ordOk (bytesOf s) = o := ⟨_, rfl⟩
    obtain ⟨m, hm⟩ : ∃ m, (usedL (bytesOf s)).length = m := ⟨_, rfl⟩
    rw [ho, hm] at HS
    rw [hm] at HCU
    rw [ho]
    clear ho hm
    have hne := str_isEmpty h0
    by_cases he : m = s.size
    · have HO : Hid (o = true) := hidden (HS.out.2 ⟨h0, he⟩)
      go_enter Tryz.func119, Tryz.ntmps119
      go_wp2_with fail
      refine (K.out _).mono ?_
      rintro e w1 ⟨rfl, ⟨D, hown, hC⟩, b1⟩
      have hlen := hown.len Tryz.underlying119
      rw [hC.2.2.2, HCU.out] at hlen
      clear hC hown
      go_wp2
      go_ret
      exact ⟨ret_bool HO.out.symm, b1⟩
    · have HO : Hid (o = false) := hidden (by
        cases o
        · rfl
        · exact absurd (HS.out.1 rfl).2 he)
      go_enter Tryz.func119, Tryz.ntmps119
      go_wp2_with fail
      refine (K.out _).mono ?_
      rintro e w1 ⟨rfl, ⟨D, hown, hC⟩, b1⟩
      have hlen := hown.len Tryz.underlying119
      rw [hC.2.2.2, HCU.out] at hlen
      clear hC hown
      go_wp2
      go_ret
      exact ⟨ret_bool (by rw [HO.out]; exact beq_eq_false_iff_ne.2 (by omega)), b1⟩
  · obtain rfl := str_zero h0
    have HO : Hid (ordOk (bytesOf ⟨#[]⟩) = false) := hidden (by decide)
    go_enter Tryz.func119, Tryz.ntmps119
    go_wp2
    go_ret
    exact ⟨ret_bool (by rw [HO.out]), Below.refl _ _⟩
end Go.Proofs.YtembljihmnmmfaaGreat
