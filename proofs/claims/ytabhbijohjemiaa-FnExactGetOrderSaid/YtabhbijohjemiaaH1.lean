/- Merged: C7, C7B, C7C, C7D, C7E, C7F, C7G, C7H, C7I, C7J, M7G. -/
import Derived.Test.YtabhbijohjemiaaAlph
import Derived.Test.YtabhbijohjemiaaStr
import Derived.Test.YtabhbijohjemiaaRet
import Derived.Test.YtabhbijohjemiaaNats
import Derived.Test.YtabhbijohjemiaaAlph2
import Derived.Test.YtabhbijohjemiaaC1Close
import Derived.Test.YtabhbijohjemiaaC6G
import Derived.Test.YtabhbijohjemiaaDrPick
import Derived.Test.YtabhbijohjemiaaC1SRd0
import Derived.Test.YtabhbijohjemiaaC3Arr
import Derived.Maps.AppendAt
import Derived.Deep.LoopGhost
import Derived.BigQuiet
import Derived.Deep.QuietTactic
import Derived.Lib.Strings
import Derived.Lib.SmallJoins
namespace Go.Proofs.Ytabhbijohjemiaa
section
set_option linter.unusedVariables false
set_option linter.unusedSimpArgs false
open Go.RowKit

theorem bytes_at (s : ByteArray) (k : Nat) (h : k < s.size) : (bytesOf s).take (k + 1) = (bytesOf s).take k ++ [s[k].toNat] := by
  have hk : k < (bytesOf s).length := by rw [bytesOf_len]; exact h
  rw [List.take_succ_eq_append_getElem hk]
  congr 2
  have := bytesOf_get s k
  rw [List.getD_eq_getElem?_getD, List.getElem?_eq_getElem hk, Option.getD_some] at this
  rw [this, byteAt_get _ _ h]
theorem nats_up (s : ByteArray) (k : Nat) (h : k < s.size) : nats 256 (fun b => ((bytesOf s).take (k + 1)).count b) = (nats 256 (fun b => ((bytesOf s).take k).count b)).set s[k].toNat (.int .i64 ((((bytesOf s).take k).count s[k].toNat + 1 : Nat) : Int)) := by
  rw [nats_set]
  refine nats_congr fun t ht => ?_
  rw [bytes_at s k h, List.count_append]
  by_cases e : t = s[k].toNat
  · subst e; simp
  · simp [e, List.count_cons, Ne.symm e]
set_option maxHeartbeats 1000000 in
set_option maxRecDepth 100000 in
theorem l7counts_any (s : ByteArray) (w : World) (hs : s.size ≤ 1048576) :
    Calls Try.prog 71 #[.string s] w fun e w' => e = .returned (.slice (some ⟨w.heap.size, 0, none⟩) 256 256) ∧ w'.ownsRow w.heap.size 3 1 (.slice (some ⟨w.heap.size, 0, none⟩) 256 256) 256 (nats 256 (fun b => (bytesOf s).count b)) ∧ Below w.heap.size w w' := by
  obtain ⟨j0, ji, jz0, jz1, jz2⟩ := info_parts Try.infoInt
  have HALL : Hid ((bytesOf s).take s.size = bytesOf s) := hidden (by rw [← bytesOf_len]; exact List.take_length)
  go_enter Try.func71, Try.ntmps71
  go_wp2_with (at_make; refine wpList_make_full _ rfl _ _ 39 rfl w.heap.size 3 j0 (.int .i64 0) 1 Try.underlying39 ji jz0 jz1 .i64 .i64 _ _ 256 rfl rfl rfl rfl ?cb1 ?cb2 ?cb3 ?_)
  case cb1 => rw [jz2]; omega
  case cb2 => unfold maxLen; omega
  case cb3 => exact Nat.le_refl _
  intro w1 hown hgrow
  have hbl : Below w.heap.size w w1 := ⟨hgrow.os, hgrow.tape, hgrow.output, hgrow.size, fun i hi => hgrow.block i hi (by simp)⟩
  rw [made_nats] at hown
  clear hgrow
  go_wp2
  go_loopw [4] (fun si wr => ∃ k : Nat, k ≤ s.size ∧ si = .int .i64 k ∧ wr.ownsRow w.heap.size 3 1 (.slice (some ⟨w.heap.size, 0, none⟩) 256 256) 256 (nats 256 (fun b => ((bytesOf s).take k).count b)) ∧ Below w.heap.size w wr) (fun si _ => s.size - (intOf si).toNat)
  case atStart => exact ⟨0, by omega, rfl, by simpa using hown, hbl⟩
  case round =>
    obtain ⟨k, hk, rfl, hownD, hblD⟩ := hrel
    by_cases hlt : k < s.size
    · have hx : s[k].toNat < 256 := UInt8.toNat_lt _
      have HUP := hidden (nats_up s k hlt)
      have d0 := hownD.cellAt s[k].toNat (by omega)
      rw [nats_get _ _ _ hx] at d0
      have f0 := hownD.frozenAt s[k].toNat
      have hc : ((bytesOf s).take k).count s[k].toNat ≤ k := by
        have := List.count_le_length (a := s[k].toNat) (l := (bytesOf s).take k)
        rw [List.length_take] at this; omega
      obtain ⟨c, hcc⟩ : ∃ c, ((bytesOf s).take k).count s[k].toNat = c := ⟨_, rfl⟩
      rw [hcc] at hc d0 HUP
      clear hcc
      go_wp2
      go_roundw
      case rel => exact ⟨k + 1, by omega, by go_num, by rw [HUP.out]; exact (hownD.stored _ _).1, hblD.setCell (Nat.le_refl _) _⟩
      case measure => simp [intOf]; omega
    · have hkn : k = s.size := by omega
      subst hkn
      rw [HALL.out] at hownD
      go_wp2
      go_ret
      exact ⟨rfl, hownD, hblD⟩

theorem run_string_nil7 (w : World) : (convert 22 9 (.slice none 0 0)).run Try.prog w = .ok (.string ⟨#[]⟩) w := by
  rw [run_convert_bytes_string w _ _ _ _ _ _ Try.underlying22 Try.underlying5 Try.underlying9]
  rfl
/-- 'string(b)' of a row of one's own, a nil one too. -/
theorem run_str {w : World} {base n : Nat} {v : Value} {D : List Nat} (h : w.ownsRow base 5 1 v n (u8s D)) : (convert 22 9 v).run Try.prog w = .ok (.string (strOf D)) w := by
  have hl : D.length = n := by have := h.1; rw [u8s_len] at this; omega
  rcases h.2 with ⟨hv, h0⟩ | ⟨gd, cp, cur, hv, _⟩
  · subst hv
    have : D = [] := List.length_eq_zero_iff.1 (by omega)
    subst this
    exact run_string_nil7 w
  · subst hv
    exact run_string_own (P := Try.prog) (src := 22) (dst := 9) Try.underlying22 Try.underlying5 Try.underlying9 h hl
/-- Where one element has been appended to a row of one's own behind a world. -/
theorem bel_app {B : Nat} {a wr w3 : World} {v : Value} {n : Nat} {E : TypeId} {S : Nat} {xs : List Value} {cs : Array Value} {T : TypeId} (h : Below B a wr) (hB : B ≤ wr.heap.size) (hown : wr.ownsRow B E S v n xs) (hg : (wr.alloc (.cells cs T)).grownBy w3 v.ownBlock) : Below B a w3 :=
  (h.alloc hB _).grown hg (by simp; omega) (fun g hg => (hown.lt g hg).1)
set_option maxHeartbeats 1000000 in
set_option maxRecDepth 100000 in
theorem specUsed_any (s : ByteArray) (w : World) (hs : s.size ≤ 1048576) :
    Calls Try.prog 26 #[.string s] w fun e w' => e = .returned (.string (strOf (usedL (bytesOf s)))) ∧ Below w.heap.size w w' := by
  obtain ⟨i0, hi, hz0, hz1, hz2⟩ := info_parts Try.info5
  have K := hidden (fun W : World => l7counts_any s W hs)
  obtain ⟨L, hL⟩ : ∃ L, bytesOf s = L := ⟨_, rfl⟩
  rw [hL] at K ⊢
  clear hL
  have HS : Hid (∀ k, usedTo L (k + 1) = if 0 < L.count k then usedTo L k ++ [k] else usedTo L k) := hidden (usedTo_succ L)
  have HE : Hid (usedTo L 256 = usedL L) := hidden rfl
  obtain ⟨f, hf⟩ : ∃ f : Nat → Nat, (fun b => L.count b) = f := ⟨_, rfl⟩
  have HF : Hid (∀ k, f k = L.count k) := hidden (fun k => by rw [← hf])
  rw [hf] at K
  clear hf
  go_enter Try.func26, Try.ntmps26
  go_wp2_with fail
  refine (K.out _).mono ?_
  rintro e w1 ⟨rfl, hC, b1⟩
  have hs1 := b1.size
  go_wp2
  go_loopw [4, 5] (fun v si wr => ∃ k : Nat, k ≤ 256 ∧ si = .int .i64 k ∧ wr.ownsRow w1.heap.size 5 1 v (usedTo L k).length (u8s (usedTo L k)) ∧ Below w1.heap.size w1 wr) (fun _ si _ => 256 - (intOf si).toNat)
  case atStart => exact ⟨0, by omega, rfl, World.ownsRow_nil _ _ _ _, Below.refl _ _⟩
  case round =>
    obtain ⟨k, hk, rfl, hown, hbl⟩ := hrel
    have hsz := hbl.size
    by_cases hlt : k < 256
    · have hle := usedTo_len L k
      have d0 := (own_bel hC hbl).cellAt k hlt
      rw [nats_get _ _ _ hlt] at d0
      have hk8 : (k : Int) % 256 = k := by omega
      by_cases hc : 0 < f k
      · have HN : Hid (usedTo L (k + 1) = usedTo L k ++ [k]) := hidden (by rw [HS.out, if_pos (by rw [← HF.out]; exact hc)])
        go_wp2_with (at_builtin; refine wpList_append_own _ rfl _ _ 22 rfl w1.heap.size 5 i0 (.int .u8 0) 1 1 Try.underlying22 hi hz0 hz1 hz2 rfl (by decide) _ _ _ rfl (hown.alloc _) ⟨wr.heap.size, 0, none⟩ 1 1 [.int .u8 (k : Int)] rfl rfl ?c1 ?c2 ?c3 ?c4 ?c5 ?_)
        case c1 => exact cell_one_new _ _ _
        case c2 => exact fun x hx => by simp at hx; subst hx; rfl
        case c3 => unfold maxLen; omega
        case c4 => omega
        case c5 => simp; omega
        intro v' w3 hown' hgrow _
        have hb3 := bel_app hbl hsz hown hgrow
        rw [← u8s_snoc, ← HN.out] at hown'
        have HO : Hid (w3.ownsRow w1.heap.size 5 1 v' (usedTo L (k + 1)).length (u8s (usedTo L (k + 1)))) := hidden (by have := hown'; rwa [show (usedTo L k).length + 1 = (usedTo L (k + 1)).length by rw [HN.out]; simp] at this)
        clear hown hgrow hbl hown'
        go_wp2
        go_roundw
        case rel => exact ⟨k + 1, by omega, by go_num, HO.out, hb3⟩
        case measure => simp [intOf]; omega
      · have HN : Hid (usedTo L (k + 1) = usedTo L k) := hidden (by rw [HS.out, if_neg (by rw [← HF.out]; exact hc)])
        have hc0 : f k = 0 := by omega
        go_wp2
        go_roundw
        case rel => exact ⟨k + 1, by omega, by go_num, by rw [HN.out]; exact hown, hbl⟩
        case measure => simp [intOf]; omega
    · have hkn : k = 256 := by omega
      subst hkn
      rw [HE.out] at hown
      have hrun := run_str hown
      go_wp2
      go_ret
      exact ⟨rfl, bel_then hbl hs1 b1⟩

set_option maxHeartbeats 2000000 in
set_option maxRecDepth 100000 in
theorem specByCount_any (s : ByteArray) (w : World) (hs : s.size ≤ 1048576) :
    Calls Try.prog 27 #[.string s] w fun e w' => ∃ R, Ranked (bytesOf s) R ∧ e = .returned (.string (strOf R)) ∧ Below w.heap.size w w' := by
  obtain ⟨i0, hi, hz0, hz1, hz2⟩ := info_parts Try.info5
  have K := hidden (fun W : World => l7counts_any s W hs)
  have HB := hidden (byt_bytesOf s)
  obtain ⟨L, hL⟩ : ∃ L, bytesOf s = L := ⟨_, rfl⟩
  rw [hL] at K HB ⊢
  clear hL
  rw [← remF_nil] at K
  go_enter Try.func27, Try.ntmps27
  go_wp2_with fail
  refine (K.out _).mono ?_
  rintro e w1 ⟨rfl, hC, b1⟩
  have hs1 := b1.size
  obtain ⟨c0, hc0⟩ : ∃ c0, w.heap.size = c0 := ⟨_, rfl⟩
  rw [hc0] at hC b1 ⊢
  have hlt0 : c0 < w1.heap.size := (hC.lt c0 rfl).2
  go_wp2
  go_loopg [4, 5, 6] 257 (fun gk v _ _ wr => ∃ R : List Nat, Hid (Sel L R) ∧ Hid (R.length + gk = 257) ∧ R.length ≤ 256 ∧ wr.ownsRow w1.heap.size 5 1 v R.length (u8s R) ∧ wr.ownsRow c0 3 1 (.slice (some ⟨c0, 0, none⟩) 256 256) 256 (nats 256 (remF L R)) ∧ Below c0 w1 wr ∧ w1.heap.size ≤ wr.heap.size)
  case atStart => exact ⟨[], hidden (sel_nil L), hidden rfl, by simp, World.ownsRow_nil _ _ _ _, hC, Below.refl _ _, Nat.le_refl _⟩
  case round =>
    obtain ⟨R, HSel, HG, hRl, hown, hcnt, hbl, hsz⟩ := hrel
    obtain ⟨f, hf⟩ : ∃ f : Nat → Nat, remF L R = f := ⟨_, rfl⟩
    have HF := hidden hf
    rw [hf] at hcnt
    clear hf hC K
    go_wp2
    go_loopw [5, 6] (fun sb sk wq => ∃ b k : Nat, sb = .int .i64 b ∧ sk = .int .i64 k ∧ b < k ∧ 1 ≤ k ∧ k ≤ 256 ∧ Hid (∀ x, x < k → f x ≤ f b ∧ (f x = f b → b ≤ x)) ∧ Hid (∃ q, wq = wr.drewN q)) (fun _ sk _ => 256 - (intOf sk).toNat)
    case atStart => exact ⟨0, 1, rfl, rfl, by omega, by omega, by omega, hidden (fun x hx => by rw [show x = 0 by omega]; exact ⟨Nat.le_refl _, fun _ => Nat.le_refl _⟩), hidden ⟨0, rfl⟩⟩
    case round =>
      obtain ⟨b, k, rfl, rfl, hb, hk1, hk, HM, HQ⟩ := hrel
      obtain ⟨q, rfl⟩ := HQ.out
      have db := hcnt.cellAt b (by omega)
      rw [nats_get _ _ _ (by omega)] at db
      by_cases hlt : k < 256
      · have dk := hcnt.cellAt k (by omega)
        rw [nats_get _ _ _ hlt] at dk
        obtain ⟨x, hx⟩ : ∃ x, f k = x := ⟨_, rfl⟩
        obtain ⟨y, hy⟩ : ∃ y, f b = y := ⟨_, rfl⟩
        have HX := hidden hx
        have HY := hidden hy
        rw [hx] at dk
        rw [hy] at db
        clear hx hy
        by_cases hgt : y < x
        · have hgd : decide ((y : Int) < x) = true := by simp; omega
          have hgi : (y : Int) < x := by omega
          go_wp2
          go_quiet (fail)
          go_wp2
          go_roundw
          case rel => exact ⟨k, k + 1, rfl, by go_num, by omega, by omega, by omega, hidden (fun z hz => by
              have h1 := HX.out; have h2 := HY.out
              rcases Nat.lt_or_ge z k with h | h
              · have := HM.out z h; exact ⟨by omega, fun e => by omega⟩
              · obtain rfl : z = k := by omega
                exact ⟨Nat.le_refl _, fun _ => Nat.le_refl _⟩), hidden ⟨_, rfl⟩⟩
          case measure => simp [intOf]; omega
        · have hgd : decide ((y : Int) < x) = false := by simp; omega
          have hgi : ¬ (y : Int) < x := by omega
          go_wp2
          go_quiet (fail)
          go_wp2
          go_roundw
          case rel => exact ⟨b, k + 1, rfl, by go_num, by omega, by omega, by omega, hidden (fun z hz => by
              have h1 := HX.out; have h2 := HY.out
              rcases Nat.lt_or_ge z k with h | h
              · exact HM.out z h
              · obtain rfl : z = k := by omega
                exact ⟨by omega, fun e => by omega⟩), hidden ⟨_, rfl⟩⟩
          case measure => simp [intOf]; omega
      · have hk256 : k = 256 := by omega
        subst hk256
        by_cases hz : f b = 0
        · have HR : Hid (Ranked L R) := hidden (by
            have h := HM.out; rw [← HF.out] at h hz
            exact sel_end HB.out HSel.out h hz)
          have hrun := run_str (w := wr.drewN q) hown
          rw [hz] at db
          go_wp2
          go_ret
          exact ⟨R, HR.out, rfl, by rw [hc0]; exact b1.trans (bel_drewN hbl q)⟩
        · have hp : 0 < f b := by omega
          have HS2 : Hid (Sel L (R ++ [b]) ∧ R.length + 1 ≤ 256) := hidden (by
            have h := HM.out; rw [← HF.out] at h hp
            exact sel_step HB.out HSel.out h hp)
          have HF2 : Hid (nats 256 (remF L (R ++ [b])) = (nats 256 f).set b (.int .i64 ((0 : Nat) : Int))) := hidden (by
            rw [nats_set]
            refine nats_congr fun t _ => ?_
            rw [remF_snoc, HF.out])
          have hb8 : (b : Int) % 256 = b := by omega
          have hlen := HS2.out.2
          have hnz : ¬ (f b : Int) = 0 := by omega
          obtain ⟨y, hy⟩ : ∃ y, f b = y := ⟨_, rfl⟩
          rw [hy] at db hnz
          clear hy hz hp
          go_wp2_with (at_builtin; refine wpList_append_own _ rfl _ _ 22 rfl w1.heap.size 5 i0 (.int .u8 0) 1 1 Try.underlying22 hi hz0 hz1 hz2 rfl (by decide) _ _ _ rfl (hown.alloc _) ⟨wr.heap.size, 0, none⟩ 1 1 [.int .u8 (b : Int)] rfl rfl ?c1 ?c2 ?c3 ?c4 ?c5 ?_)
          case c1 => exact cell_one_new _ _ _
          case c2 => exact fun x hx => by simp at hx; subst hx; rfl
          case c3 => unfold maxLen; omega
          case c4 => omega
          case c5 => simp; omega
          intro v' w3 hown' hgrow _
          have hlo := fun g hg => (hown.lt g hg).1
          have hb3 : Below c0 w1 w3 := ((bel_drewN hbl q).alloc (by simp; omega) _).grown hgrow (by simp; omega) (fun g hg => by have := hlo g hg; omega)
          have hc3 : w3.ownsRow c0 3 1 (.slice (some ⟨c0, 0, none⟩) 256 256) 256 (nats 256 f) := World.ownsRow.kept (World.ownsRow.alloc (w := wr.drewN q) hcnt _) hgrow (.inr (fun e => by have := hlo c0 e.symm; omega))
          have hs3 : w1.heap.size ≤ w3.heap.size := by have := hgrow.size; simp at this; omega
          rw [← u8s_snoc] at hown'
          have d3 := hc3.cellAt b (by omega)
          rw [nats_get _ _ _ (by omega)] at d3
          have f3 := hc3.frozenAt b
          clear hown hcnt hgrow hlo db
          go_wp2
          go_roundg (gk - 1)
          case measure => have := HG.out; omega
          case rel => exact ⟨R ++ [b], hidden HS2.out.1, hidden (by have := HG.out; simp; omega), by simp; omega, by simpa using own_away hown' (p := ⟨c0, b, none⟩) (by simpa using hlt0) _, by rw [HF2.out]; exact (hc3.stored b _).1, hb3.setCell (Nat.le_refl _) _, by simpa using hs3⟩
end
section
set_option linter.unusedVariables false
set_option linter.unusedSimpArgs false
open Go.RowKit

theorem getD_small {D : List Nat} (h : Byt D) (j : Nat) : D.getD j 0 < 256 := by
  rcases Nat.lt_or_ge j D.length with hj | hj
  · rw [List.getD_eq_getElem?_getD, List.getElem?_eq_getElem hj]; exact h _ (List.getElem_mem hj)
  · rw [List.getD_eq_getElem?_getD, List.getElem?_eq_none hj]; decide
theorem bytes_str {D : List Nat} (h : Byt D) : bytesOf (strOf D) = D := bytesOf_strOf D (getD_small h)
theorem str_eq {D : List Nat} (h : Byt D) (s : ByteArray) : strOf D = s ↔ D = bytesOf s := by
  constructor
  · intro e; rw [← e, bytes_str h]
  · intro e; rw [e, strOf_bytesOf]
theorem str_beq_ne {a b : ByteArray} (h : ¬ a = b) : (a.toList == b.toList) = false := by
  rw [beq_eq_false_iff_ne, ByteArray.toList_eq, ByteArray.toList_eq]
  intro e
  apply h
  cases a; cases b
  congr 1
  exact Array.toList_inj.1 e
theorem setOk_str (s : ByteArray) : setOk (bytesOf s) = true ↔ 0 < s.size ∧ strOf (usedL (bytesOf s)) = s := by
  rw [setOk_iff, str_eq (byt_usedL _)]
  have : bytesOf s ≠ [] ↔ 0 < s.size := by rw [← bytesOf_len, List.length_pos_iff]
  rw [this]
theorem ordOk_str (s : ByteArray) : ordOk (bytesOf s) = true ↔ 0 < s.size ∧ (usedL (bytesOf s)).length = s.size := by
  rw [ordOk_iff, ← used_len_eq (byt_bytesOf s), bytesOf_len]
  have : bytesOf s ≠ [] ↔ 0 < s.size := by rw [← bytesOf_len, List.length_pos_iff]
  rw [this]
set_option maxHeartbeats 1000000 in
set_option maxRecDepth 100000 in
theorem l7used_any (s : ByteArray) (w : World) (hs : s.size ≤ 1048576) :
    Calls Try.prog 56 #[.string s] w fun e w' => e = .returned (.bool (setOk (bytesOf s))) ∧ Below w.heap.size w w' := by
  have K := hidden (fun W : World => specUsed_any s W hs)
  have HS := hidden (setOk_str s)
  obtain ⟨o, ho⟩ : ∃ o, setOk (bytesOf s) = o := ⟨_, rfl⟩
  obtain ⟨u, hu⟩ : ∃ u, strOf (usedL (bytesOf s)) = u := ⟨_, rfl⟩
  rw [ho, hu] at HS
  rw [hu] at K
  rw [ho]
  clear ho hu
  by_cases h0 : 0 < s.size
  · by_cases he : u = s
    · subst he
      have HO : Hid (o = true) := hidden (HS.out.2 ⟨h0, rfl⟩)
      go_enter Try.func56, Try.ntmps56
      go_wp2_with fail
      refine (K.out _).mono ?_
      rintro e w1 ⟨rfl, b1⟩
      go_wp2
      go_ret
      exact ⟨ret_bool HO.out.symm, b1⟩
    · have HO : Hid (o = false) := hidden (by
        cases o
        · rfl
        · exact absurd (HS.out.1 rfl).2 he)
      go_enter Try.func56, Try.ntmps56
      go_wp2_with fail
      refine (K.out _).mono ?_
      rintro e w1 ⟨rfl, b1⟩
      go_wp2
      go_ret
      exact ⟨ret_bool (by rw [HO.out, str_beq_ne he]), b1⟩
  · have HO : Hid (o = false) := hidden (by
      cases o
      · rfl
      · exact absurd (HS.out.1 rfl).1 h0)
    have h00 : ¬ (0 : Int) < s.size := by omega
    go_enter Try.func56, Try.ntmps56
    go_wp2
    go_ret
    exact ⟨ret_bool (by rw [HO.out]), Below.refl _ _⟩
set_option maxHeartbeats 1000000 in
set_option maxRecDepth 100000 in
theorem specOrderOk_any (s : ByteArray) (w : World) (hs : s.size ≤ 1048576) :
    Calls Try.prog 23 #[.string s] w fun e w' => e = .returned (.bool (ordOk (bytesOf s))) ∧ Below w.heap.size w w' := by
  have K := hidden (fun W : World => specUsed_any s W hs)
  have HS := hidden (ordOk_str s)
  have hz := strOf_size (usedL (bytesOf s))
  have hl := usedTo_len (bytesOf s) 256
  change (usedL (bytesOf s)).length ≤ 256 at hl
  obtain ⟨o, ho⟩ : ∃ o, ordOk (bytesOf s) = o := ⟨_, rfl⟩
  obtain ⟨u, hu⟩ : ∃ u, strOf (usedL (bytesOf s)) = u := ⟨_, rfl⟩
  rw [ho, ← hz, hu] at HS
  rw [← hz, hu] at hl
  rw [hu] at K
  rw [ho]
  clear ho hu hz
  by_cases h0 : 0 < s.size
  · by_cases h1 : s.size ≤ 256
    · by_cases he : u.size = s.size
      · have HO : Hid (o = true) := hidden (HS.out.2 ⟨h0, he⟩)
        go_enter Try.func23, Try.ntmps23
        go_wp2_with fail
        refine (K.out _).mono ?_
        rintro e w1 ⟨rfl, b1⟩
        go_wp2
        go_ret
        exact ⟨ret_bool HO.out.symm, b1⟩
      · have HO : Hid (o = false) := hidden (by
          cases o
          · rfl
          · exact absurd (HS.out.1 rfl).2 he)
        go_enter Try.func23, Try.ntmps23
        go_wp2_with fail
        refine (K.out _).mono ?_
        rintro e w1 ⟨rfl, b1⟩
        go_wp2
        go_ret
        exact ⟨ret_bool (by rw [HO.out]; exact beq_eq_false_iff_ne.2 (by omega)), b1⟩
    · have HO : Hid (o = false) := hidden (by
        cases o
        · rfl
        · have := (HS.out.1 rfl).2; omega)
      go_enter Try.func23, Try.ntmps23
      go_wp2
      go_ret
      exact ⟨ret_bool HO.out.symm, Below.refl _ _⟩
  · have HO : Hid (o = false) := hidden (by
      cases o
      · rfl
      · exact absurd (HS.out.1 rfl).1 h0)
    have h00 : ¬ (0 : Int) < s.size := by omega
    go_enter Try.func23, Try.ntmps23
    go_wp2
    go_ret
    exact ⟨ret_bool (by rw [HO.out]), Below.refl _ _⟩
end
section
set_option linter.unusedVariables false
set_option linter.unusedSimpArgs false
open Go.RowKit

theorem two_pow_small {n : Nat} (h : n ≤ 8) : 2 ^ n ≤ 256 := Nat.pow_le_pow_right (n := 2) (by omega) h
set_option maxHeartbeats 1000000 in
theorem l7need_any (m : Nat) (w : World) (hm : m ≤ 256) :
    Calls Try.prog 97 #[.int .i64 m] w fun e w' => e = .returned (.int .i64 (needB m : Int)) ∧ w' = w := by
  have HU := hidden (fun n => need_one (m := m) (n := n))
  have H8 := hidden (need_le m hm)
  have HLo := hidden (need_up m)
  obtain ⟨g, hg⟩ : ∃ g, needB m = g := ⟨_, rfl⟩
  rw [hg] at HU H8 HLo ⊢
  clear hg
  go_enter Try.func97, Try.ntmps97
  go_wp2
  go_loopw [3] (fun sn wr => ∃ n : Nat, sn = .int .i64 n ∧ n ≤ 8 ∧ Hid (∀ j, j < n → 2 ^ j < m) ∧ Hid (wr = w)) (fun sn _ => 8 - (intOf sn).toNat)
  case atStart => exact ⟨0, rfl, by omega, hidden (fun j hj => by omega), hidden rfl⟩
  case round =>
    obtain ⟨n, rfl, hn, HJ, HW⟩ := hrel
    obtain ⟨p, hp⟩ : ∃ p, 2 ^ n = p := ⟨_, rfl⟩
    have hp2 : p ≤ 256 := by rw [← hp]; exact two_pow_small hn
    have hwd : Value.int .i64 (wrap64 (2 ^ n)) = Value.int .i64 (p : Int) := by
      rw [show ((2 : Int) ^ n) = ((2 ^ n : Nat) : Int) by simp, hp, wrap64_n _ (by omega)]
    have HP := hidden hp
    clear hp
    by_cases hlt : p < m
    · have hlI : (p : Int) < m := by omega
      have hn8 : n < 8 := by
        rcases Nat.lt_or_ge n 8 with h | h
        · exact h
        · have : n = 8 := by omega
          subst this
          have := HP.out
          omega
      have HJ2 : Hid (∀ j, j < n + 1 → 2 ^ j < m) := hidden (fun j hj => by
        rcases Nat.lt_or_ge j n with h | h
        · exact HJ.out j h
        · rw [show j = n by omega, HP.out]; exact hlt)
      go_wp2
      go_roundw
      case rel => exact ⟨n + 1, by go_num, by omega, HJ2, HW⟩
      case measure => simp [intOf]; omega
    · have hlI : ¬ (p : Int) < m := by omega
      have e : n = g := HU.out n (by rw [HP.out]; omega) HJ.out
      subst e
      go_wp2
      go_ret
      exact ⟨rfl, HW.out⟩
/-- Where a byte stands; -1: nowhere. -/
def placeI (u : List Nat) (b : Nat) : Int := if b ∈ u then (u.idxOf b : Int) else -1
theorem place_at {u : List Nat} {b k : Nat} (hk : k < u.length) (h : u.getD k 0 = b) (hno : ∀ j, j < k → u.getD j 0 ≠ b) : placeI u b = k := by
  have hb : b ∈ u := by
    rw [← h, List.getD_eq_getElem?_getD, List.getElem?_eq_getElem hk]; exact List.getElem_mem hk
  unfold placeI
  rw [if_pos hb]
  have h2 := idx_get hb
  rcases Nat.lt_trichotomy (u.idxOf b) k with h3 | h3 | h3
  · exact absurd h2 (hno _ h3)
  · rw [h3]
  · have h4 := List.not_of_lt_findIdx (p := (· == b)) (xs := u) h3
    rw [List.getD_eq_getElem?_getD, List.getElem?_eq_getElem hk, Option.getD_some] at h
    simp [h] at h4
theorem place_no {u : List Nat} {b : Nat} (hno : ∀ j, j < u.length → u.getD j 0 ≠ b) : placeI u b = -1 := by
  unfold placeI
  rw [if_neg]
  intro hb
  exact hno _ (idx_lt hb) (idx_get hb)
set_option maxHeartbeats 1000000 in
theorem l7place_any (s : ByteArray) (b : Nat) (w : World) (hs : s.size ≤ 1048576) (hb : b < 256) :
    Calls Try.prog 79 #[.string s, .int .u8 b] w fun e w' => e = .returned (.int .i64 (placeI (bytesOf s) b)) ∧ w' = w := by
  have HG : Hid (∀ k (h : k < s.size), s[k].toNat = (bytesOf s).getD k 0) := hidden (fun k h => by rw [byteAt_get _ _ h, bytesOf_get])
  have HL : Hid ((bytesOf s).length = s.size) := hidden (bytesOf_len s)
  go_enter Try.func79, Try.ntmps79
  go_wp2
  go_loopw [5] (fun sk wr => ∃ k : Nat, sk = .int .i64 k ∧ k ≤ s.size ∧ Hid (∀ j, j < k → (bytesOf s).getD j 0 ≠ b) ∧ Hid (wr = w)) (fun sk _ => s.size - (intOf sk).toNat)
  case atStart => exact ⟨0, rfl, by omega, hidden (fun j hj => by omega), hidden rfl⟩
  case round =>
    obtain ⟨k, rfl, hk, HNO, HW⟩ := hrel
    by_cases hlt : k < s.size
    · have hgk := HG.out k hlt
      by_cases he : s[k].toNat = b
      · have HF : Hid (placeI (bytesOf s) b = k) := hidden (place_at (by rw [HL.out]; exact hlt) (by rw [← hgk]; exact he) HNO.out)
        clear hgk
        go_wp2
        go_ret
        exact ⟨ret_int HF.out.symm, HW.out⟩
      · have HN2 : Hid (∀ j, j < k + 1 → (bytesOf s).getD j 0 ≠ b) := hidden (fun j hj => by
          rcases Nat.lt_or_ge j k with h | h
          · exact HNO.out j h
          · rw [show j = k by omega, ← hgk]; exact he)
        clear hgk
        go_wp2
        go_roundw
        case rel => exact ⟨k + 1, by go_num, by omega, HN2, HW⟩
        case measure => simp [intOf]; omega
    · have HF : Hid (placeI (bytesOf s) b = -1) := hidden (place_no (fun j hj => HNO.out j (by rw [HL.out] at hj; omega)))
      go_wp2
      go_ret
      exact ⟨ret_int HF.out.symm, HW.out⟩

/-- A byte is struck out of a string. -/
theorem str_cut {D : List Nat} {s : ByteArray} (h : strOf D = s) (k : Nat) (hk : k < D.length) : s.extract 0 k ++ s.extract (k + 1) s.size = strOf (D.eraseIdx k) := by
  subst h
  have e : ∀ {a b : ByteArray}, a.data.toList = b.data.toList → a = b := fun {a b} h => by
    cases a; cases b; congr 1; exact Array.toList_inj.1 h
  apply e
  rw [ByteArray.data_append, Array.toList_append, Lib.extract_data, Lib.extract_data, strOf_size]
  have hd : ∀ L : List Nat, (strOf L).data.toList = L.map UInt8.ofNat := fun L => by simp [strOf]
  rw [hd, hd, List.eraseIdx_eq_take_drop_succ, List.map_append, List.map_take, List.map_drop, List.drop_zero, Nat.sub_zero]
  congr 1
  rw [List.take_of_length_le (by simp)]
theorem drop_at (s : ByteArray) (i : Nat) (h : i < s.size) : (bytesOf s).drop i = s[i].toNat :: (bytesOf s).drop (i + 1) := by
  have hk : i < (bytesOf s).length := by rw [bytesOf_len]; exact h
  rw [List.drop_eq_getElem_cons hk]
  congr 1
  have := bytesOf_get s i
  rw [List.getD_eq_getElem?_getD, List.getElem?_eq_getElem hk, Option.getD_some] at this
  rw [this, byteAt_get _ _ h]
set_option maxHeartbeats 400000 in
set_option maxRecDepth 100000 in
theorem l7order_any (s : ByteArray) (w : World) (hok : ordOk (bytesOf s) = true) :
    Calls Try.prog 82 #[.string s] w fun e w' => ∃ v, e = .returned v ∧ w'.ownsRow w.heap.size 5 1 v (putO (usedL (bytesOf s)) (bytesOf s)).length (u8s (putO (usedL (bytesOf s)) (bytesOf s))) ∧ Below w.heap.size w w' := by
  obtain ⟨i0, hi, hz0, hz1, hz2⟩ := info_parts Try.info5
  have hnd := ((ordOk_iff _).1 hok).2
  have hs : s.size ≤ 256 := by rw [← bytesOf_len]; exact nodup_256 (byt_bytesOf s) hnd
  have K1 := hidden (fun W : World => specUsed_any s W (by omega))
  have HP0 := hidden (used_perm (byt_bytesOf s) hnd)
  have HX := hidden (drop_at s)
  have HLn := hidden (bytesOf_len s)
  obtain ⟨O, hO⟩ : ∃ O, bytesOf s = O := ⟨_, rfl⟩
  rw [hO] at K1 HP0 HX HLn ⊢
  have HB : Hid (Byt O) := hidden (by rw [← hO]; exact byt_bytesOf s)
  obtain ⟨A, hA⟩ : ∃ A, putO (usedL O) O = A := ⟨_, rfl⟩
  have HA := hidden hA
  rw [hA]
  clear hA hnd hok hO
  go_enter Try.func82, Try.ntmps82
  go_wp2_with fail
  refine (K1.out _).mono ?_
  rintro e w1 ⟨rfl, b1⟩
  have hs1 := b1.size
  go_wp2
  go_loopw [3, 4, 5, 6] (fun v su si _ wr => ∃ (i : Nat) (P D : List Nat), i ≤ s.size ∧ si = .int .i64 i ∧ su = .string (strOf P) ∧ Hid (A = D ++ putO P (O.drop i)) ∧ Hid (P.Perm (O.drop i)) ∧ D.length ≤ 8 * i ∧ wr.ownsRow w.heap.size 5 1 v D.length (u8s D) ∧ Below w.heap.size w wr) (fun _ _ si _ _ => s.size - (intOf si).toNat)
  case atStart => exact ⟨0, usedL O, [], by omega, rfl, rfl, hidden (by rw [← HA.out]; rfl), HP0, by simp, World.ownsRow_nil _ _ _ _, b1⟩
  case round =>
    obtain ⟨i, P, D, hi2, rfl, rfl, HD, HP, hDl, hown, hbl⟩ := hrel
    have hsz := hbl.size
    by_cases hlt : i < s.size
    · obtain ⟨x, hx⟩ : ∃ x, s[i].toNat = x := ⟨_, rfl⟩
      have hx256 : x < 256 := by rw [← hx]; exact UInt8.toNat_lt _
      have hdr := HX.out i hlt
      rw [hx] at hdr
      rw [hdr] at HD HP
      have hxP : x ∈ P := HP.out.mem_iff.2 (List.mem_cons_self ..)
      have hBP : Byt P := fun b hb => HB.out b (List.mem_of_mem_drop (i := i) (by rw [hdr]; exact HP.out.mem_iff.1 hb))
      have hPl : P.length = s.size - i := by rw [HP.out.length_eq, ← hdr, List.length_drop, HLn.out]
      have hk := idx_lt hxP
      have hus := strOf_size P
      have HPL := hidden (l7place_any (strOf P) x wr (by omega) hx256)
      rw [bytes_str hBP, placeI, if_pos hxP] at HPL
      have HCUT := hidden (str_cut (D := P) rfl (P.idxOf x) hk)
      rw [← erase_idx hxP] at HCUT
      obtain ⟨us, hus2⟩ : ∃ us, strOf P = us := ⟨_, rfl⟩
      rw [hus2] at HPL HCUT hus ⊢
      have HND := hidden (l7need_any us.size wr (by omega))
      have hnd8 := need_le us.size (by omega)
      have hup := need_up us.size
      obtain ⟨k, hkk⟩ : ∃ k, P.idxOf x = k := ⟨_, rfl⟩
      obtain ⟨m, hmm⟩ : ∃ m, needB us.size = m := ⟨_, rfl⟩
      have hE : Hid (putO P (x :: O.drop (i + 1)) = nbits k m ++ putO (P.erase x) (O.drop (i + 1))) := hidden (by rw [putO, hkk, ← hus, hmm])
      have HP2 : Hid ((P.erase x).Perm (O.drop (i + 1))) := hidden (by have := HP.out.erase x; rwa [List.erase_cons_head] at this)
      rw [hkk] at hk HPL HCUT
      rw [hmm] at HND hnd8 hup
      have HX2 := hidden hx
      have hk32 : k < 256 := by omega
      have hku : k < us.size := by omega
      have hu256 : us.size ≤ 256 := by omega
      have HN1 := hidden (fun W => l1num_any k m W (by omega) (by omega))
      clear hkk hmm hus2 hBP hxP hdr hus hPl hk
      go_wp2_with fail
      refine HPL.out.mono ?_
      rintro e w2 ⟨rfl, rfl⟩
      go_wp2_with fail
      refine HND.out.mono ?_
      rintro e w3 ⟨rfl, rfl⟩
      go_wp2_with fail
      refine (HN1.out _).mono ?_
      rintro e w4 ⟨rfl, hown2, b4⟩
      have hs4 := b4.size
      have hown3 := own_bel hown b4
      have hbl4 := bel_then b4 hsz hbl
      go_wp2_with (at_builtin; refine wpList_append_own _ rfl _ _ 22 rfl w.heap.size 5 i0 (.int .u8 0) 1 1 Try.underlying22 hi hz0 hz1 hz2 rfl (by decide) _ _ _ rfl hown3 ⟨w3.heap.size, 0, none⟩ m m (u8s (nbits k m)) rfl ?c0 ?c1 ?c2 ?c3 ?c4 ?c5 ?_)
      case c0 => rw [u8s_len, nbits_len, Nat.mul_one]
      case c1 => exact fun j u hu => hown2.cells rfl j u hu
      case c2 => exact u8s_one _
      case c3 => unfold maxLen; omega
      case c4 => omega
      case c5 => omega
      intro v1 w5 hown5 hgrow _
      rw [← u8s_append] at hown5
      have hlo := fun g hg => (hown3.lt g hg).1
      have hb5 : Below w.heap.size w w5 := hbl4.grown hgrow (by omega) hlo
      have HD2 : Hid (A = (D ++ nbits k m) ++ putO (P.erase x) (O.drop (i + 1))) := hidden (by rw [HD.out, hE.out, List.append_assoc])
      have HL2 : Hid ((D ++ nbits k m).length = D.length + m) := hidden (by rw [List.length_append, nbits_len])
      have HO5 : Hid (w5.ownsRow w.heap.size 5 1 v1 (D ++ nbits k m).length (u8s (D ++ nbits k m))) := hidden (by rw [HL2.out]; exact hown5)
      clear hown hown2 hown3 hown5 hgrow hbl hbl4 hlo b4
      go_wp2
      go_quiet (fail)
      go_wp2
      go_roundw
      case rel => exact ⟨i + 1, P.erase x, D ++ nbits k m, by omega, by go_num, by rw [HCUT.out], HD2, HP2, by rw [HL2.out]; omega, HO5.out, bel_drewN hb5 _⟩
      case measure => simp [intOf]; omega
    · have hie : i = s.size := by omega
      have HF : Hid (D = A) := hidden (by rw [HD.out, hie, ← HLn.out, List.drop_length, putO, List.append_nil])
      subst hie
      go_wp2
      go_ret
      exact ⟨_, rfl, by rw [← HF.out]; exact hown, hbl⟩
end
section
set_option linter.unusedVariables false
set_option linter.unusedSimpArgs false
open Go.RowKit

/-- Two slices do not lie in one block. -/
def Apart (a b : Value) : Prop := ∀ k, a.ownBlock = some k → b.ownBlock ≠ some k
theorem apart_nil (b : Value) : Apart (.slice none 0 0) b := fun k h => by simp [Value.ownBlock] at h
theorem apart_to_nil (a : Value) : Apart a (.slice none 0 0) := fun k _ h => by simp [Value.ownBlock] at h
theorem Apart.symm {a b : Value} (h : Apart a b) : Apart b a := fun k hb ha => h k ha hb
theorem apart_app {w : World} {base n S : Nat} {E : TypeId} {v v' b : Value} {xs : List Value} (h : Apart v b) (hb : w.ownsRow base E S b n xs) (hloc : v'.ownBlock = v.ownBlock ∨ v'.ownBlock = some w.heap.size) : Apart v' b := by
  intro k hk hkb
  rcases hloc with h2 | h2
  · exact h k (by rw [← h2]; exact hk) hkb
  · have := (hb.lt k hkb).2
    rw [h2] at hk
    simp only [Option.some.injEq] at hk
    omega
theorem apart_app1 {w : World} {base n S : Nat} {E : TypeId} {v v' b : Value} {xs : List Value} (h : Apart v b) (hb : w.ownsRow base E S b n xs) (hloc : v'.ownBlock = v.ownBlock ∨ v'.ownBlock = some (w.heap.size + 1)) : Apart v' b := by
  intro k hk hkb
  rcases hloc with h2 | h2
  · exact h k (by rw [← h2]; exact hk) hkb
  · have := (hb.lt k hkb).2
    rw [h2] at hk
    simp only [Option.some.injEq] at hk
    omega
theorem apart_kept {w w' : World} {base n S : Nat} {E : TypeId} {v b : Value} {xs : List Value} (h : Apart v b) (hb : w.ownsRow base E S b n xs) (hg : w.grownBy w' v.ownBlock) : w'.ownsRow base E S b n xs := by
  cases hbb : b.ownBlock with
  | none => exact hb.kept hg (.inl hbb)
  | some k => exact hb.kept hg (.inr (fun e => h k (by rw [← e, hbb]) hbb))
/-- The first j bytes of a group. -/
def memTo (u : List Nat) (g j : Nat) : List Nat := (List.range j).map fun p => if 16 * g + p ∈ u then 1 else 0
def hasTo (u : List Nat) (g j : Nat) : Nat := if 1 ∈ memTo u g j then 1 else 0
theorem memTo_len (u : List Nat) (g j : Nat) : (memTo u g j).length = j := by simp [memTo]
theorem memTo_succ (u : List Nat) (g j : Nat) : memTo u g (j + 1) = memTo u g j ++ [if 16 * g + j ∈ u then 1 else 0] := by simp [memTo, List.range_succ]
theorem hasTo_succ (u : List Nat) (g j : Nat) : hasTo u g (j + 1) = (hasTo u g j ||| (if 16 * g + j ∈ u then 1 else 0)) := by
  unfold hasTo
  rw [memTo_succ]
  by_cases h1 : 1 ∈ memTo u g j
  · rw [if_pos h1, if_pos (List.mem_append_left _ h1)]
    split <;> rfl
  · rw [if_neg h1]
    by_cases h2 : 16 * g + j ∈ u
    · simp [h2]
    · simp [h1, h2]
theorem hasTo_lt (u : List Nat) (g j : Nat) : hasTo u g j < 2 := by unfold hasTo; split <;> omega
theorem or_bit (h x : Nat) (hh : h < 2) (hx : x < 2) : bits BinOp.or IntKind.u8 (h : Int) (x : Int) = ((h ||| x : Nat) : Int) := by
  have : h = 0 ∨ h = 1 := by omega
  have : x = 0 ∨ x = 1 := by omega
  rcases ‹h = 0 ∨ h = 1› with rfl | rfl <;> rcases ‹x = 0 ∨ x = 1› with rfl | rfl <;> rfl
theorem set_count {u : List Nat} (hb : Byt u) (hu : setOk u = true) (b : Nat) : u.count b = if b ∈ u then 1 else 0 := by
  have h := ((setOk_iff u).1 hu).2
  have := usedL_count u hb b
  rw [h] at this
  exact this
theorem usedRest_pos {u : List Nat} (hb : Byt u) (hu : setOk u = true) : 0 < (usedRest u 16).length := by
  obtain ⟨g, hg, h⟩ := used_some hb ((setOk_iff u).1 hu).1
  have h1 : grp16 u g ≠ [] := by
    unfold grp16
    rw [if_pos h]
    intro e
    have := mem16_len u g
    rw [e] at this; simp at this
  obtain ⟨x, hx⟩ := List.exists_mem_of_ne_nil _ h1
  exact List.length_pos_of_mem (List.mem_flatMap.2 ⟨g, List.mem_range.2 hg, hx⟩)
def headTo (u : List Nat) (g : Nat) : List Nat := (List.range g).map (has16 u)
theorem headTo_len (u : List Nat) (g : Nat) : (headTo u g).length = g := by simp [headTo]
theorem headTo_succ (u : List Nat) (g : Nat) : headTo u (g + 1) = headTo u g ++ [has16 u g] := by simp [headTo, List.range_succ]
set_option maxHeartbeats 1000000 in
set_option maxRecDepth 100000 in
theorem l7put_any (s : ByteArray) (w : World) (hs : s.size ≤ 1048576) (hok : setOk (bytesOf s) = true) :
    Calls Try.prog 58 #[.string s] w fun e w' => ∃ v, e = .returned v ∧ w'.ownsRow w.heap.size 5 1 v (usedBits (bytesOf s)).length (u8s (usedBits (bytesOf s))) ∧ Below w.heap.size w w' := by
  obtain ⟨i0, hi, hz0, hz1, hz2⟩ := info_parts Try.info5
  have K1 := hidden (fun W : World => l7counts_any s W hs)
  have HC := hidden (set_count (byt_bytesOf s) hok)
  have HRP := hidden (usedRest_pos (byt_bytesOf s) hok)
  obtain ⟨U, hU⟩ : ∃ U, bytesOf s = U := ⟨_, rfl⟩
  rw [hU] at K1 HC HRP ⊢
  clear hU hok
  have HB : Hid (usedBits U = headTo U 16 ++ usedRest U 16) := hidden rfl
  obtain ⟨f, hf⟩ : ∃ f : Nat → Nat, (fun b => U.count b) = f := ⟨_, rfl⟩
  have HF : Hid (∀ k, f k = if k ∈ U then 1 else 0) := hidden (fun k => by rw [← hf]; exact HC.out k)
  have HF2 : Hid (∀ k, f k < 2) := hidden (fun k => by rw [HF.out]; split <;> omega)
  rw [hf] at K1
  clear hf
  go_enter Try.func58, Try.ntmps58
  go_wp2_with fail
  refine (K1.out _).mono ?_
  rintro e w1 ⟨rfl, hC, b1⟩
  have hs1 := b1.size
  have HCH := hidden hC
  clear hC
  go_wp2
  go_loopw [4, 5, 6, 7, 8, 9] (fun vh vr sg _ _ _ wr => ∃ g : Nat, g ≤ 16 ∧ sg = .int .i64 g ∧ wr.ownsRow w1.heap.size 5 1 vh g (u8s (headTo U g)) ∧ wr.ownsRow w1.heap.size 5 1 vr (usedRest U g).length (u8s (usedRest U g)) ∧ Apart vh vr ∧ Below w1.heap.size w1 wr) (fun _ _ sg _ _ _ _ => 16 - (intOf sg).toNat)
  case atStart => exact ⟨0, by omega, rfl, World.ownsRow_nil _ _ _ _, World.ownsRow_nil _ _ _ _, apart_nil _, Below.refl _ _⟩
  case round =>
    obtain ⟨g, hg, rfl, hownH, hownR, hAp, hbl⟩ := hrel
    have hsz := hbl.size
    have HRL := hidden (usedRest_len U g)
    by_cases hlt : g < 16
    · have HAp := hidden hAp
      have hgI : (g : Int) < 16 := by omega
      clear hAp
      go_wp2
      go_loopw [7, 8, 9] (fun vs sh sb wx => ∃ j : Nat, j ≤ 16 ∧ sb = .int .i64 ((16 * g + j : Nat) : Int) ∧ sh = .int .u8 (hasTo U g j) ∧ wx.ownsRow w1.heap.size 5 1 vs j (u8s (memTo U g j)) ∧ Hid (Apart vs u4) ∧ Hid (Apart vs u5) ∧ Hid (wx.ownsRow w1.heap.size 5 1 u4 g (u8s (headTo U g))) ∧ Hid (wx.ownsRow w1.heap.size 5 1 u5 (usedRest U g).length (u8s (usedRest U g))) ∧ Below w1.heap.size w1 wx) (fun _ _ sb _ => 16 * g + 16 - (intOf sb).toNat)
      case atStart => exact ⟨0, by omega, by go_num, rfl, World.ownsRow_nil _ _ _ _, hidden (apart_nil _), hidden (apart_nil _), hidden hownH, hidden hownR, hbl⟩
      case round =>
        obtain ⟨j, hj, rfl, rfl, hownS, HApH, HApR, HH, HR, hblx⟩ := hrel
        have hszx := hblx.size
        clear hownH hownR hbl
        by_cases hlt2 : j < 16
        · have hI : ((16 * g + j : Nat) : Int) < 16 * (g : Int) + 16 := by omega
          have d0 := (own_bel HCH.out hblx).cellAt (16 * g + j) (by omega)
          rw [nats_get _ _ _ (by omega)] at d0
          have hf2 := HF2.out (16 * g + j)
          have HFv := hidden (HF.out (16 * g + j))
          have HMS := hidden (memTo_succ U g j)
          have HHS := hidden (hasTo_succ U g j)
          have hh2 := hasTo_lt U g j
          rw [← HFv.out] at HMS HHS
          have HBP : Hid (16 * g + j < 256) := hidden (by omega)
          obtain ⟨b, hb⟩ : ∃ b, 16 * g + j = b := ⟨_, rfl⟩
          have HBE := hidden hb
          rw [hb] at d0 hf2 HFv HMS HHS hI HBP ⊢
          obtain ⟨x, hx⟩ : ∃ x, f b = x := ⟨_, rfl⟩
          have HFX := hidden hx
          obtain ⟨h, hh⟩ : ∃ h, hasTo U g j = h := ⟨_, rfl⟩
          rw [hx] at d0 hf2 HMS HHS
          rw [hh] at HHS hh2 ⊢
          have hb256 := HBP.out
          have hor := or_bit h x hh2 hf2
          have hx256 : (x : Int) % 256 = x := by omega
          clear hb hx hh
          go_wp2_with (at_builtin; refine wpList_append_own_at _ rfl _ _ 22 rfl w1.heap.size 5 i0 (.int .u8 0) 1 1 Try.underlying22 hi hz0 hz1 hz2 rfl (by decide) _ _ _ rfl (hownS.alloc _) ⟨wr.heap.size, 0, none⟩ 1 1 [.int .u8 (x : Int)] rfl rfl ?c1 ?c2 ?c3 ?c4 ?c5 ?_)
          case c1 => exact cell_one_new _ _ _
          case c2 => exact fun u hu => by simp at hu; subst hu; rfl
          case c3 => unfold maxLen; omega
          case c4 => omega
          case c5 => first | omega | (simp; omega)
          intro v3 w3 hown3 hgrow _ hloc
          have hlo := fun g hg => (hownS.lt g hg).1
          have hb3 := bel_app hblx hszx hownS hgrow
          have HA3 : Hid (Apart v3 u4) := hidden (apart_app1 HApH.out HH.out hloc)
          have HR3 : Hid (Apart v3 u5) := hidden (apart_app1 HApR.out HR.out hloc)
          have HH3 := hidden (apart_kept HApH.out (HH.out.alloc (.cells #[.int .u8 (x : Int)] 5)) hgrow)
          have HRR3 := hidden (apart_kept HApR.out (HR.out.alloc (.cells #[.int .u8 (x : Int)] 5)) hgrow)
          have d3 := (own_bel HCH.out hb3).cellAt b (by omega)
          rw [nats_get _ _ _ hb256] at d3
          rw [HFX.out] at d3
          rw [← u8s_snoc, ← HMS.out] at hown3
          clear hownS hgrow hloc hlo d0 hblx
          go_wp2
          go_roundw
          case rel => exact ⟨j + 1, by omega, by rw [show 16 * g + (j + 1) = b + 1 by have := HBE.out; omega]; go_num, by rw [HHS.out], hown3, HA3, HR3, HH3, HRR3, hb3⟩
          case measure => simp [intOf]; have := HBE.out; omega
        · have hj16 : j = 16 := by omega
          subst hj16
          have hI : ¬ ((16 * g + 16 : Nat) : Int) < 16 * (g : Int) + 16 := by omega
          have HE : Hid (hasTo U g 16 = has16 U g ∧ memTo U g 16 = mem16 U g) := hidden ⟨rfl, rfl⟩
          rw [HE.out.2] at hownS
          rw [HE.out.1]
          have hownH := HH.out
          have hh2 := has16_lt U g
          have HHS := hidden (headTo_succ U g)
          have HRS := hidden (usedRest_succ U g)
          have HG0 : Hid (grp16 U g = if has16 U g = 1 then mem16 U g else []) := hidden rfl
          have HML := hidden (mem16_len U g)
          obtain ⟨h, hh⟩ : ∃ h, has16 U g = h := ⟨_, rfl⟩
          rw [hh] at hh2 HHS HG0 ⊢
          clear hh
          obtain ⟨gs, cs, rfl⟩ := Joins.ownsRow_form hownS (by omega)
          have hgs := hownS.lt gs rfl
          go_wp2_with (at_builtin; refine wpList_append_own_at _ rfl _ _ 22 rfl w1.heap.size 5 i0 (.int .u8 0) 1 1 Try.underlying22 hi hz0 hz1 hz2 rfl (by decide) _ _ _ rfl (hownH.alloc _) ⟨wr.heap.size, 0, none⟩ 1 1 [.int .u8 (h : Int)] rfl rfl ?f1 ?f2 ?f3 ?f4 ?f5 ?_)
          case f2 => first | rfl | exact fun u hu => by simp at hu; subst hu; rfl
          case f3 => unfold maxLen; omega
          case f4 => omega
          case f5 => first | omega | (simp; omega)
          intro v3 w3 hown3 hgrow _ hloc
          have hb3 := bel_app hblx hszx hownH hgrow
          have hs3 := hb3.size
          have HA3 : Hid (Apart v3 u5) := hidden (apart_app1 HAp.out HR.out hloc)
          have hR3 := apart_kept HAp.out (HR.out.alloc (.cells #[.int .u8 (h : Int)] 5)) hgrow
          have HAS : Hid (Apart v3 (.slice (some ⟨gs, 0, none⟩) 16 cs)) := hidden (apart_app1 HApH.out.symm hownS hloc)
          have hS3 := apart_kept HApH.out.symm (hownS.alloc (.cells #[.int .u8 (h : Int)] 5)) hgrow
          rw [← u8s_snoc, ← HHS.out] at hown3
          have HH3 := hidden hown3
          clear hownS hownH hgrow hloc hown3 HH HR hblx
          have HRl := HRL.out
          by_cases h1 : h = 1
          · subst h1
            have HRS2 : Hid (usedRest U (g + 1) = usedRest U g ++ mem16 U g) := hidden (by rw [HRS.out, HG0.out, if_pos rfl])
            go_wp2_with (at_builtin; refine wpList_append_own_at _ rfl _ _ 22 rfl w1.heap.size 5 i0 (.int .u8 0) 1 1 Try.underlying22 hi hz0 hz1 hz2 rfl (by decide) _ _ _ rfl hR3 ⟨gs, 0, none⟩ 16 cs (u8s (mem16 U g)) rfl ?d0 ?d1 ?d2 ?d3 ?d4 ?d5 ?_)
            case d0 => rw [u8s_len, HML.out]
            case d1 => exact fun j u hu => (hS3.cellAt j (by have := (List.getElem?_eq_some_iff.1 hu).1; rw [u8s_len, HML.out] at this; omega)).trans hu
            case d2 => exact u8s_one _
            case d3 => unfold maxLen; omega
            case d4 => omega
            intro v4 w4 hown4 hgrow4 _ hloc4
            have hb4 : Below w1.heap.size w1 w4 := hb3.grown hgrow4 (by omega) (fun g hg => (hR3.lt g hg).1)
            have hA4 : Apart v3 v4 := (apart_app HA3.out.symm HH3.out hloc4).symm
            have hH4 := apart_kept HA3.out.symm HH3.out hgrow4
            rw [← u8s_append, ← HRS2.out] at hown4
            have HO4 : Hid (w4.ownsRow w1.heap.size 5 1 v4 (usedRest U (g + 1)).length (u8s (usedRest U (g + 1)))) := hidden (by rw [show (usedRest U (g + 1)).length = (usedRest U g).length + 16 by rw [HRS2.out, List.length_append, HML.out]]; exact hown4)
            clear hown4 hgrow4 hloc4 hR3 hS3 hb3
            go_wp2
            go_roundw
            case rel => exact ⟨g + 1, by omega, by go_num, hH4, HO4.out, hA4, hb4⟩
            case measure => simp [intOf]; omega
          · have h0 : h = 0 := by omega
            subst h0
            have HRS2 : Hid (usedRest U (g + 1) = usedRest U g) := hidden (by rw [HRS.out, HG0.out, if_neg (by omega), List.append_nil])
            go_wp2
            go_roundw
            case rel => exact ⟨g + 1, by omega, by go_num, HH3.out, by rw [HRS2.out]; exact hR3, HA3.out, hb3⟩
            case measure => simp [intOf]; omega
    · have hg16 : g = 16 := by omega
      subst hg16
      have hrl := HRP.out
      have HRl := HRL.out
      obtain ⟨m, hm⟩ : ∃ m, (usedRest U 16).length = m := ⟨_, rfl⟩
      have HM := hidden hm
      rw [hm] at hrl HRl hownR
      clear hm
      obtain ⟨gr, cr, rfl⟩ := Joins.ownsRow_form hownR (by omega)
      go_wp2_with (at_builtin; refine wpList_append_own_at _ rfl _ _ 22 rfl w1.heap.size 5 i0 (.int .u8 0) 1 1 Try.underlying22 hi hz0 hz1 hz2 rfl (by decide) _ _ _ rfl hownH ⟨gr, 0, none⟩ m cr (u8s (usedRest U 16)) rfl ?e0 ?e1 ?e2 ?e3 ?e4 ?e5 ?_)
      case e0 => rw [u8s_len, HM.out, Nat.mul_one]
      case e1 => exact fun j u hu => hownR.cells rfl j u hu
      case e2 => exact u8s_one _
      case e3 => unfold maxLen; omega
      case e4 => omega
      case e5 => omega
      intro v4 w4 hown4 hgrow4 _ _
      have hb4 : Below w1.heap.size w1 w4 := hbl.grown hgrow4 (by omega) (fun g hg => (hownH.lt g hg).1)
      rw [← u8s_append, ← HB.out] at hown4
      have HL4 : Hid ((usedBits U).length = 16 + m) := hidden (by rw [HB.out, List.length_append, headTo_len, HM.out])
      go_wp2
      go_ret
      exact ⟨_, rfl, by rw [HL4.out]; exact Joins.ownsRow_le hown4 hs1, bel_then hb4 hs1 b1⟩

/-- What a PutX of chapter 7 answers, yes and no: the bits closed, or nothing. -/
theorem specPutUsed_yes (s : ByteArray) (w : World) (hs : s.size ≤ 1048576) (hok : setOk (bytesOf s) = true) :
    Calls Try.prog 17 #[.string s] w fun e w' => ∃ D, Packs D (usedBits (bytesOf s)) ∧ e = .returned (.tuple #[.agg #[.string (strOf D), .int .i64 ((usedBits (bytesOf s)).length : Int)], .bool true]) ∧ Below w.heap.size w w' := by
  have bb : Below w.heap.size w (w.alloc (.cells #[.string ⟨#[]⟩, .int .i64 0] 25)) := (Below.refl _ _).alloc (Nat.le_refl _) _
  have hR := Has.fresh w 25 #[.string ⟨#[]⟩, .int .i64 0]
  have K0 := hidden (fun W => l7used_any s W hs)
  rw [hok] at K0
  have K1 := hidden (fun W => l7put_any s W hs hok)
  have hle := usedBits_len (bytesOf s)
  have K2 := hidden (fun (W : World) v base h => l1close_own (usedBits (bytesOf s)) (usedBits_lt _) v base W (by omega) h)
  obtain ⟨P, hP⟩ : ∃ P, usedBits (bytesOf s) = P := ⟨_, rfl⟩
  rw [hP] at K1 K2 ⊢
  clear hP hle
  go_enter Try.func17, Try.ntmps17
  go_wp2_with fail
  refine (K0.out _).mono ?_
  rintro e w2 ⟨rfl, b2⟩
  replace bb := bel_then b2 bb.size bb
  replace hR := hR.below b2 hR.lt
  have hs2 := bb.size
  clear b2
  go_wp2_with fail
  refine (K1.out _).mono ?_
  rintro e w3 ⟨v, rfl, hown, b3⟩
  replace bb := bel_then b3 hs2 bb
  replace hR := hR.below b3 hR.lt
  have hs3 := bb.size
  clear b3
  go_wp2_with fail
  refine (K2.out _ _ _ hown).mono ?_
  rintro e w4 ⟨D, hD, rfl, b4⟩
  replace bb := bel_then b4 hs3 bb
  replace hR := hR.below b4 hR.lt
  have e0 := hR.cell 0
  have e1 := hR.cell 1
  have g0 := hR.free 0
  have g1 := hR.free 1
  simp at e0 e1
  have hs4 := bb.size
  clear b4 hown hR
  go_wp2
  refine bodyPost_ret (v := .tuple #[.agg #[.string (strOf D), .int .i64 (P.length : Int)], .bool true]) (by simp [results, Try.results17, go_sem, e0, e1, g0, g1]) rfl ⟨D, hD, rfl, ?_⟩
  repeat (first | exact Below.refl _ _ | assumption | refine Below.alloc ?_ (by (try simp); (try omega)) _ | refine Below.setCell ?_ (by (try simp); (try omega)) _ | refine Below.drew ?_ | refine bel_then (by assumption) (by (try simp); (try omega)) ?_)
theorem specPutUsed_no (s : ByteArray) (w : World) (hs : s.size ≤ 1048576) (hok : setOk (bytesOf s) = false) :
    Calls Try.prog 17 #[.string s] w fun e w' => e = .returned (.tuple #[.agg #[.string ⟨#[]⟩, .int .i64 0], .bool false]) ∧ Below w.heap.size w w' := by
  have bb : Below w.heap.size w (w.alloc (.cells #[.string ⟨#[]⟩, .int .i64 0] 25)) := (Below.refl _ _).alloc (Nat.le_refl _) _
  have hR := Has.fresh w 25 #[.string ⟨#[]⟩, .int .i64 0]
  have K0 := hidden (fun W => l7used_any s W hs)
  rw [hok] at K0
  go_enter Try.func17, Try.ntmps17
  go_wp2_with fail
  refine (K0.out _).mono ?_
  rintro e w2 ⟨rfl, b2⟩
  replace bb := bel_then b2 bb.size bb
  replace hR := hR.below b2 hR.lt
  have hs2 := bb.size
  have e0 := hR.cell 0
  have e1 := hR.cell 1
  have g0 := hR.free 0
  have g1 := hR.free 1
  simp at e0 e1
  clear b2 hR
  go_wp2
  refine bodyPost_ret (v := .tuple #[.agg #[.string ⟨#[]⟩, .int .i64 0], .bool false]) (by simp [results, Try.results17, go_sem, e0, e1, g0, g1]) rfl ⟨rfl, ?_⟩
  repeat (first | exact Below.refl _ _ | assumption | refine Below.alloc ?_ (by (try simp); (try omega)) _ | refine Below.setCell ?_ (by (try simp); (try omega)) _ | refine Below.drew ?_ | refine bel_then (by assumption) (by (try simp); (try omega)) ?_)
end
section
set_option linter.unusedVariables false
set_option linter.unusedSimpArgs false
open Go.RowKit

theorem specPutOrder_yes (s : ByteArray) (w : World) (hs : s.size ≤ 1048576) (hok : ordOk (bytesOf s) = true) :
    Calls Try.prog 39 #[.string s] w fun e w' => ∃ D, Packs D (putO (usedL (bytesOf s)) (bytesOf s)) ∧ e = .returned (.tuple #[.agg #[.string (strOf D), .int .i64 ((putO (usedL (bytesOf s)) (bytesOf s)).length : Int)], .bool true]) ∧ Below w.heap.size w w' := by
  have bb : Below w.heap.size w (w.alloc (.cells #[.string ⟨#[]⟩, .int .i64 0] 25)) := (Below.refl _ _).alloc (Nat.le_refl _) _
  have hR := Has.fresh w 25 #[.string ⟨#[]⟩, .int .i64 0]
  have K0 := hidden (fun W => specOrderOk_any s W hs)
  rw [hok] at K0
  have K1 := hidden (fun W => l7order_any s W hok)
  have hle : (putO (usedL (bytesOf s)) (bytesOf s)).length ≤ 2048 := by
    have h1 := putO_len (usedL (bytesOf s)) (bytesOf s) (usedTo_len _ _)
    have h2 := nodup_256 (byt_bytesOf s) ((ordOk_iff _).1 hok).2
    omega
  have K2 := hidden (fun (W : World) v base h => l1close_own (putO (usedL (bytesOf s)) (bytesOf s)) (putO_lt _ _) v base W (by omega) h)
  obtain ⟨P, hP⟩ : ∃ P, putO (usedL (bytesOf s)) (bytesOf s) = P := ⟨_, rfl⟩
  rw [hP] at K1 K2 ⊢
  clear hP hle
  go_enter Try.func39, Try.ntmps39
  go_wp2_with fail
  refine (K0.out _).mono ?_
  rintro e w2 ⟨rfl, b2⟩
  replace bb := bel_then b2 bb.size bb
  replace hR := hR.below b2 hR.lt
  have hs2 := bb.size
  clear b2
  go_wp2_with fail
  refine (K1.out _).mono ?_
  rintro e w3 ⟨v, rfl, hown, b3⟩
  replace bb := bel_then b3 hs2 bb
  replace hR := hR.below b3 hR.lt
  have hs3 := bb.size
  clear b3
  go_wp2_with fail
  refine (K2.out _ _ _ hown).mono ?_
  rintro e w4 ⟨D, hD, rfl, b4⟩
  replace bb := bel_then b4 hs3 bb
  replace hR := hR.below b4 hR.lt
  have e0 := hR.cell 0
  have e1 := hR.cell 1
  have g0 := hR.free 0
  have g1 := hR.free 1
  simp at e0 e1
  have hs4 := bb.size
  clear b4 hown hR
  go_wp2
  refine bodyPost_ret (v := .tuple #[.agg #[.string (strOf D), .int .i64 (P.length : Int)], .bool true]) (by simp [results, Try.results39, go_sem, e0, e1, g0, g1]) rfl ⟨D, hD, rfl, ?_⟩
  repeat (first | exact Below.refl _ _ | assumption | refine Below.alloc ?_ (by (try simp); (try omega)) _ | refine Below.setCell ?_ (by (try simp); (try omega)) _ | refine Below.drew ?_ | refine bel_then (by assumption) (by (try simp); (try omega)) ?_)
theorem specPutOrder_no (s : ByteArray) (w : World) (hs : s.size ≤ 1048576) (hok : ordOk (bytesOf s) = false) :
    Calls Try.prog 39 #[.string s] w fun e w' => e = .returned (.tuple #[.agg #[.string ⟨#[]⟩, .int .i64 0], .bool false]) ∧ Below w.heap.size w w' := by
  have bb : Below w.heap.size w (w.alloc (.cells #[.string ⟨#[]⟩, .int .i64 0] 25)) := (Below.refl _ _).alloc (Nat.le_refl _) _
  have hR := Has.fresh w 25 #[.string ⟨#[]⟩, .int .i64 0]
  have K0 := hidden (fun W => specOrderOk_any s W hs)
  rw [hok] at K0
  go_enter Try.func39, Try.ntmps39
  go_wp2_with fail
  refine (K0.out _).mono ?_
  rintro e w2 ⟨rfl, b2⟩
  replace bb := bel_then b2 bb.size bb
  replace hR := hR.below b2 hR.lt
  have hs2 := bb.size
  have e0 := hR.cell 0
  have e1 := hR.cell 1
  have g0 := hR.free 0
  have g1 := hR.free 1
  simp at e0 e1
  clear b2 hR
  go_wp2
  refine bodyPost_ret (v := .tuple #[.agg #[.string ⟨#[]⟩, .int .i64 0], .bool false]) (by simp [results, Try.results39, go_sem, e0, e1, g0, g1]) rfl ⟨rfl, ?_⟩
  repeat (first | exact Below.refl _ _ | assumption | refine Below.alloc ?_ (by (try simp); (try omega)) _ | refine Below.setCell ?_ (by (try simp); (try omega)) _ | refine Below.drew ?_ | refine bel_then (by assumption) (by (try simp); (try omega)) ?_)
end
section
set_option linter.unusedVariables false
set_option linter.unusedSimpArgs false
open Go.RowKit

theorem wide_bit (m k : Nat) (hm : m < 65536) : bits BinOp.and IntKind.i64 ((m : Int) / 2 ^ k) 1 = ((m / 2 ^ k % 2 : Nat) : Int) := by
  have h0 : m / 2 ^ k ≤ m := Nat.div_le_self _ _
  have := i64_and_nat (m / 2 ^ k) 1 (by omega) (by omega)
  rw [nat_mask1] at this
  rw [show ((m : Int) / 2 ^ k) = ((m / 2 ^ k : Nat) : Int) by simp, show (1 : Int) = ((1 : Nat) : Int) by rfl, this]
/-- What reading a set answers, the reader being in block b. -/
def L7UPost (s : ByteArray) (at0 b : Nat) (T : TypeId) (w : World) (e : Ending) (w' : World) : Prop :=
  ((∃ (u : List Nat) (q : Nat), getU s at0 = some (u, q) ∧ e = .returned (.string (strOf u)) ∧ Has w' b T #[.string s, .int .i64 (q : Int)]) ∨
   (getU s at0 = none ∧ e = .returned (.string ⟨#[]⟩))) ∧ Only b w w'
set_option maxHeartbeats 1000000 in
set_option maxRecDepth 100000 in
theorem l7get_any (s : ByteArray) (at0 b : Nat) (T : TypeId) (w : World) (hs : s.size ≤ 1048576) (ha : at0 ≤ 8 * s.size) (hb : Has w b T #[.string s, .int .i64 at0]) :
    Calls Try.prog 81 #[.pointer (some ⟨b, 0, none⟩)] w (L7UPost s at0 b T w) := by
  obtain ⟨i0, hi, hz0, hz1, hz2⟩ := info_parts Try.info5
  have hbl := hb.lt
  have KY := hidden (fun (W : World) (p : Nat) (h : p + 16 ≤ 8 * s.size) (hB : Has W b T #[.string s, .int .i64 (p : Int)]) => l1get_yes s p 16 b T W hs (by omega) h hB)
  have KN := hidden (fun (W : World) (p : Nat) (hp : p ≤ 8 * s.size) (h : 8 * s.size < p + 16) (hB : Has W b T #[.string s, .int .i64 (p : Int)]) => l1get_none s p 16 b T W hs (by omega) hp (by omega) hB)
  have HB := hidden hb
  clear hb
  by_cases hroom : at0 + 16 ≤ 8 * s.size
  · have hm := num_row_lt s at0 16
    have K0 := hidden (KY.out w at0 hroom HB.out)
    have HU : Hid (num (row s at0 16) ≠ 0 → getU s at0 = getG s (places (num (row s at0 16))) (at0 + 16)) := hidden (fun h => by unfold getU; rw [if_pos ⟨hroom, h⟩])
    have HU0 : Hid (num (row s at0 16) = 0 → getU s at0 = none) := hidden (fun h => by unfold getU; rw [if_neg (by omega)])
    obtain ⟨m, hmm⟩ : ∃ m, num (row s at0 16) = m := ⟨_, rfl⟩
    rw [hmm] at hm K0 HU HU0
    have HM0 : Hid (m = 0 → places m = []) := hidden (fun h => by subst h; decide)
    have hm16 : m < 65536 := hm
    clear hmm hm
    go_enter Try.func81, Try.ntmps81
    go_wp2_with fail
    refine K0.out.mono ?_
    rintro e w1 ⟨rfl, hB1, hO1⟩
    have hs1 := hO1.size
    obtain ⟨G, hG⟩ : ∃ G, getG s (places m) (at0 + 16) = G := ⟨_, rfl⟩
    have HG := hidden hG
    rw [hG] at HU
    clear hG
    go_wp2
    go_loopw [3, 5, 6, 7] (fun v sg _ _ wr => ∃ (g a : Nat) (D : List Nat), g ≤ 16 ∧ sg = .int .i64 g ∧ a ≤ 8 * s.size ∧ Hid (G = (getG s (placesFrom m g) a).map (fun r => (D ++ r.1, r.2))) ∧ D.length ≤ 16 * g ∧ wr.ownsRow w.heap.size 5 1 v D.length (u8s D) ∧ Has wr b T #[.string s, .int .i64 (a : Int)] ∧ Only b w wr) (fun _ sg _ _ _ => 16 - (intOf sg).toNat)
    case atStart => exact ⟨0, at0 + 16, [], by omega, rfl, by omega, hidden (by rw [placesFrom_zero, HG.out, map_app_nil]), by simp, World.ownsRow_nil _ _ _ _, hB1, hO1⟩
    case round =>
      obtain ⟨g, a, D, hg, rfl, haa, HD, hDl, hown, hB, hO⟩ := hrel
      have hsz := hO.size
      by_cases hlt : g < 16
      · have hgI : (g : Int) < 16 := by omega
        have hbit := wide_bit m (15 - g) hm16
        have HPS := hidden (placesFrom_step m g hlt)
        obtain ⟨y, hy⟩ : ∃ y, m / 2 ^ (15 - g) % 2 = y := ⟨_, rfl⟩
        have hy2 : y < 2 := by omega
        rw [hy] at hbit HPS
        clear hy hlt
        by_cases hy1 : y = 1
        · subst hy1
          have HPS2 : Hid (placesFrom m g = g :: placesFrom m (g + 1)) := hidden (by rw [HPS.out, if_pos rfl])
          by_cases hr2 : a + 16 ≤ 8 * s.size
          · have hx := num_row_lt s a 16
            have K2 := hidden (KY.out wr a hr2 hB)
            have HGY := hidden (fun h => getG_yes (s := s) (gs := placesFrom m (g + 1)) (g := g) hr2 h)
            have HGN := hidden (fun h => getG_no (s := s) (gs := placesFrom m (g + 1)) (g := g) (a := a) h)
            obtain ⟨x, hxx⟩ : ∃ x, num (row s a 16) = x := ⟨_, rfl⟩
            rw [hxx] at hx K2 HGY HGN
            have hx16 : x < 65536 := hx
            clear hxx hx
            go_wp2_with fail
            refine K2.out.mono ?_
            rintro e w2 ⟨rfl, hB2, hO2⟩
            have hO3 : Only b w w2 := World.grownBy.trans hO hO2
            have hown2 := own_only hown hO2 (by omega)
            have hs2 := hO3.size
            clear hO hO2 hown hB K2
            by_cases hx0 : x = 0
            · subst hx0
              have HNO : Hid (G = none) := hidden (by rw [HD.out, HPS2.out, HGN.out (fun h => h.2 rfl)]; rfl)
              go_wp2
              go_ret
              refine ⟨.inr ⟨?_, rfl⟩, hO3⟩
              by_cases h0 : m = 0
              · exact HU0.out h0
              · rw [HU.out h0, HNO.out]
            · have hxI : ¬ (x : Int) ≤ 0 := by omega
              have HGY2 := hidden (HGY.out hx0)
              have HEQ : Hid (G = (getG s (placesFrom m (g + 1)) (a + 16)).map (fun r => ((D ++ (places x).map (fun p => 16 * g + p)) ++ r.1, r.2))) := hidden (by rw [HD.out, HPS2.out, HGY2.out, map_map_app])
              clear HD HGY HGN HGY2
              go_wp2
              go_loopw [3, 7] (fun v sp wq => ∃ p : Nat, p ≤ 16 ∧ sp = .int .i64 p ∧ wq.ownsRow w.heap.size 5 1 v (D ++ (placesTo x p).map (fun p => 16 * g + p)).length (u8s (D ++ (placesTo x p).map (fun p => 16 * g + p))) ∧ Has wq b T #[.string s, .int .i64 ((a + 16 : Nat) : Int)] ∧ Only b w wq) (fun _ sp _ => 16 - (intOf sp).toNat)
              case atStart => exact ⟨0, by omega, rfl, by simpa [placesTo] using hown2, hB2, hO3⟩
              case round =>
                obtain ⟨p, hp, rfl, hown4, hB4, hO4⟩ := hrel
                have hsz4 := hO4.size
                by_cases hlt2 : p < 16
                · have hpI : (p : Int) < 16 := by omega
                  have hbit2 := wide_bit x (15 - p) hx16
                  have HPT := hidden (placesTo_succ x p)
                  have hpl := placesTo_len x p
                  obtain ⟨z, hz⟩ : ∃ z, x / 2 ^ (15 - p) % 2 = z := ⟨_, rfl⟩
                  have hzl : z < 2 := by omega
                  rw [hz] at hbit2 HPT
                  have HTL : Hid ((D ++ (placesTo x p).map (fun p => 16 * g + p)).length ≤ 512) := hidden (by simp; omega)
                  obtain ⟨L, hL⟩ : ∃ L, D ++ (placesTo x p).map (fun p => 16 * g + p) = L := ⟨_, rfl⟩
                  have HL := hidden hL
                  rw [hL] at hown4 HTL
                  have hTL := HTL.out
                  clear hz hlt2 hpl hL
                  by_cases hzz : z = 1
                  · subst hzz
                    have HNX : Hid (D ++ (placesTo x (p + 1)).map (fun p => 16 * g + p) = L ++ [16 * g + p]) := hidden (by rw [HPT.out, if_pos rfl, List.map_append, ← List.append_assoc, HL.out]; rfl)
                    have h8 : (16 * (g : Int) + (p : Int)) % 256 = 16 * (g : Int) + (p : Int) := by omega
                    go_wp2_with (at_builtin; refine wpList_append_own _ rfl _ _ 22 rfl w.heap.size 5 i0 (.int .u8 0) 1 1 Try.underlying22 hi hz0 hz1 hz2 rfl (by decide) _ _ _ rfl (hown4.alloc _) ⟨wr.heap.size, 0, none⟩ 1 1 [.int .u8 (16 * (g : Int) + (p : Int))] rfl rfl ?c1 ?c2 ?c3 ?c4 ?c5 ?_)
                    case c2 => first | rfl | exact fun u hu => by simp at hu; subst hu; rfl
                    case c3 => unfold maxLen; omega
                    case c4 => omega
                    case c5 => first | omega | (simp; omega)
                    intro v5 w5 hown5 hgrow _
                    have hr : ∀ q, Value.ownBlock (_ : Value) = some q → w.heap.size ≤ q := fun q hq => (hown4.lt q hq).1
                    have hO5 : Only b w w5 := (hO4.alloc _).grownNew hgrow hr
                    have hB5 := (hB4.alloc (.cells #[.int .u8 (16 * (g : Int) + (p : Int))] 5)).grown hgrow (own_ne hown4 (by omega))
                    have HO5 : Hid (w5.ownsRow w.heap.size 5 1 v5 (D ++ (placesTo x (p + 1)).map (fun p => 16 * g + p)).length (u8s (D ++ (placesTo x (p + 1)).map (fun p => 16 * g + p)))) := hidden (by
                      rw [HNX.out, u8s_snoc, List.length_append]
                      have := hown5
                      rw [show (16 * (g : Int) + (p : Int)) = ((16 * g + p : Nat) : Int) by omega] at this
                      exact this)
                    clear hown4 hown5 hgrow hr hO4 hB4
                    go_wp2
                    go_roundw
                    case rel => exact ⟨p + 1, by omega, by go_num, HO5.out, hB5, hO5⟩
                    case measure => simp [intOf]; omega
                  · have hz0' : z = 0 := by omega
                    subst hz0'
                    have HNX : Hid (D ++ (placesTo x (p + 1)).map (fun p => 16 * g + p) = L) := hidden (by rw [HPT.out, if_neg (by omega), HL.out])
                    go_wp2
                    go_roundw
                    case rel => exact ⟨p + 1, by omega, by go_num, by rw [HNX.out]; exact hown4, hB4, hO4⟩
                    case measure => simp [intOf]; omega
                · have hp16 : p = 16 := by omega
                  subst hp16
                  have HTE : Hid (placesTo x 16 = places x) := hidden rfl
                  rw [HTE.out] at hown4
                  have HLE : Hid ((D ++ (places x).map (fun p => 16 * g + p)).length ≤ 16 * (g + 1)) := hidden (by
                    have := placesTo_len x 16
                    rw [HTE.out] at this
                    simp; omega)
                  go_wp2
                  go_roundw
                  case rel => exact ⟨g + 1, a + 16, _, by omega, by go_num, hr2, HEQ, HLE.out, hown4, hB4, hO4⟩
                  case measure => simp [intOf]; omega
          · have K2 := hidden (KN.out wr a haa (by omega) hB)
            have HNO : Hid (G = none) := hidden (by rw [HD.out, HPS2.out, getG_no (fun h => hr2 h.1)]; rfl)
            clear hr2
            go_wp2_with fail
            refine K2.out.mono ?_
            rintro e w2 ⟨rfl, q, rfl⟩
            go_wp2
            go_ret
            refine ⟨.inr ⟨?_, rfl⟩, hO.drewN q⟩
            by_cases h0 : m = 0
            · exact HU0.out h0
            · rw [HU.out h0, HNO.out]
        · have hy0 : y = 0 := by omega
          subst hy0
          have HPS2 : Hid (placesFrom m g = placesFrom m (g + 1)) := hidden (by rw [HPS.out, if_neg (by omega)])
          go_wp2
          exact ⟨⟨g + 1, a, D, by omega, by go_num, haa, hidden (by rw [HD.out, HPS2.out]), by omega, hown, hB, hO⟩, by simp [intOf]; omega⟩
      · have hg16 : g = 16 := by omega
        subst hg16
        have HGE : Hid (G = some (D, a)) := hidden (by rw [HD.out, placesFrom_end]; simp [getG])
        have HD0 : Hid (m = 0 → D = []) := hidden (fun h => by
          have h1 := HG.out
          rw [HM0.out h, HGE.out] at h1
          simp only [getG, Option.some.injEq, Prod.mk.injEq] at h1
          exact h1.1.symm)
        have hrun := run_str hown
        go_wp2
        go_ret
        by_cases h0 : m = 0
        · rw [HD0.out h0]
          exact ⟨.inr ⟨HU0.out h0, rfl⟩, hO⟩
        · exact ⟨.inl ⟨D, a, by rw [HU.out h0, HGE.out], rfl, hB⟩, hO⟩
  · have K0 := hidden (KN.out w at0 ha (by omega) HB.out)
    have HU0 : Hid (getU s at0 = none) := hidden (by unfold getU; rw [if_neg (by omega)])
    clear hroom
    go_enter Try.func81, Try.ntmps81
    go_wp2_with fail
    refine K0.out.mono ?_
    rintro e w1 ⟨rfl, q, rfl⟩
    have hrun := run_string_nil7
    go_wp2
    go_loopw [3, 5, 6, 7] (fun v sg _ _ wr => v = .slice none 0 0 ∧ sg = .int .i64 0 ∧ Only b w wr) (fun _ _ _ _ _ => 0)
    case atStart => exact ⟨rfl, rfl, (Only.refl _ _).drewN q⟩
    case round =>
      obtain ⟨rfl, rfl, hO⟩ := hrel
      go_wp2
      go_ret
      exact ⟨.inr ⟨HU0.out, rfl⟩, hO⟩
end
section
set_option linter.unusedVariables false
set_option linter.unusedSimpArgs false
open Go.RowKit

/-- What a reader of chapter 7 answers, G being what stands there. -/
def GG7 (s : ByteArray) (G : Option (List Nat × Nat)) (w : World) (e : Ending) (w' : World) : Prop :=
  ((∃ (u : List Nat) (q : Nat), G = some (u, q) ∧ e = .returned (.tuple #[.string (strOf u), .agg #[.string s, .int .i64 (q : Int)], .bool true])) ∨
   (G = none ∧ e = .returned (.tuple #[.string ⟨#[]⟩, .agg #[.string ⟨#[]⟩, .int .i64 0], .bool false]))) ∧ Below w.heap.size w w'
theorem str_nonempty {s : ByteArray} (h : 0 < s.size) : s.toList.isEmpty = false := by
  rw [Bool.eq_false_iff]
  intro e
  rw [List.isEmpty_iff, ByteArray.toList_eq] at e
  have h2 : s.data.toList.length = s.size := by simp
  rw [e] at h2
  simp at h2
  omega
theorem str_pos {D : List Nat} (h : D ≠ []) : 0 < (strOf D).size := by rw [strOf_size]; exact List.length_pos_iff.2 h
set_option maxHeartbeats 1000000 in
set_option maxRecDepth 100000 in
theorem specGetUsed_any (s : ByteArray) (at0 : Nat) (w : World) (hs : s.size ≤ 1048576) (ha : at0 ≤ 8 * s.size) :
    Calls Try.prog 36 #[.agg #[.string s, .int .i64 at0]] w (GG7 s (getU s at0) w) := by
  have K2 := hidden (fun (W : World) (h : Has W w.heap.size 30 #[.string s, .int .i64 (at0 : Int)]) => l7get_any s at0 w.heap.size 30 W hs ha h)
  have HSM := hidden (fun u q (h : getU s at0 = some (u, q)) => getU_some h)
  have hR := (Has.fresh w 30 #[.string s, .int .i64 at0]).alloc (.cells #[.string ⟨#[]⟩, .int .i64 0] 30)
  have bb : Below w.heap.size w ((w.alloc (.cells #[.string s, .int .i64 at0] 30)).alloc (.cells #[.string ⟨#[]⟩, .int .i64 0] 30)) := ((Below.refl _ _).alloc (Nat.le_refl _) _).alloc (by simp) _
  have hS := Has.freshAt (w := w.alloc (.cells #[.string s, .int .i64 at0] 30)) (g := w.heap.size + 1) (by simp) 30 #[.string ⟨#[]⟩, .int .i64 0]
  go_enter Try.func36, Try.ntmps36
  go_wp2_with fail
  refine (specRdOk_yes s at0 _ hs ha).mono ?_
  rintro e w2 ⟨rfl, b2⟩
  replace bb := bel_then b2 bb.size bb
  replace hR := hR.below b2 hR.lt
  replace hS := hS.below b2 hS.lt
  have hs2 := bb.size
  have hRl := hR.lt
  have hSl := hS.lt
  clear b2
  go_wp2_with fail
  refine (K2.out _ hR).mono ?_
  rintro e w3 ⟨hcase, hO⟩
  have hS3 := hO.has hS (by omega)
  have bb3 : Below w.heap.size w w3 := only_then hO (Nat.le_refl _) hs2 bb
  have hs3 := bb3.size
  have hSl3 := hS3.lt
  have e0 := hS3.cell 0
  have e1 := hS3.cell 1
  have g0 := hS3.free 0
  have g1 := hS3.free 1
  simp at e0 e1
  clear hR hS hO bb K2
  rcases hcase with ⟨u, q, hg, rfl, hR3⟩ | ⟨hno, rfl⟩
  · have HR := hidden hg
    have hpos := str_pos (HSM.out u q hg).2
    have d0 := hR3.cell 0
    have d1 := hR3.cell 1
    simp at d0 d1
    obtain ⟨us, hus⟩ : ∃ us, strOf u = us := ⟨_, rfl⟩
    rw [hus] at hpos ⊢
    have HUS := hidden hus
    have hne := str_nonempty hpos
    clear hg hR3 hus
    go_wp2
    (try go_region)
    all_goals (try go_wp2)
    all_goals
      refine bodyPost_ret (v := .tuple #[.string us, .agg #[.string s, .int .i64 (q : Int)], .bool true]) (by simp [results, Try.results36, go_sem, d0, d1, e0, e1, g0, g1]) rfl ⟨.inl ⟨u, q, HR.out, by rw [HUS.out]⟩, ?_⟩
      repeat (first | exact Below.refl _ _ | assumption | refine Below.alloc ?_ (by (try simp); (try omega)) _ | refine Below.setCell ?_ (by (try simp); (try omega)) _ | refine Below.drew ?_ | refine bel_then (by assumption) (by (try simp); (try omega)) ?_)
  · have HNO := hidden hno
    clear hno
    go_wp2
    refine bodyPost_ret (v := .tuple #[.string ⟨#[]⟩, .agg #[.string ⟨#[]⟩, .int .i64 0], .bool false]) (by simp [results, Try.results36, go_sem, e0, e1, g0, g1]) rfl ⟨.inr ⟨HNO.out, rfl⟩, ?_⟩
    repeat (first | exact Below.refl _ _ | assumption | refine Below.alloc ?_ (by (try simp); (try omega)) _ | refine Below.setCell ?_ (by (try simp); (try omega)) _ | refine Below.drew ?_ | refine bel_then (by assumption) (by (try simp); (try omega)) ?_)
set_option maxHeartbeats 1000000 in
set_option maxRecDepth 100000 in
theorem specGetUsed_no (s : ByteArray) (at0 : Int) (w : World) (hs : s.size ≤ 1048576) (b1 : -9223372036854775808 ≤ at0) (b2 : at0 ≤ 9223372036854775807) (h : ¬ (0 ≤ at0 ∧ at0 ≤ 8 * s.size)) :
    Calls Try.prog 36 #[.agg #[.string s, .int .i64 at0]] w fun e w' => e = .returned (.tuple #[.string ⟨#[]⟩, .agg #[.string ⟨#[]⟩, .int .i64 0], .bool false]) ∧ Below w.heap.size w w' := by
  have bb : Below w.heap.size w ((w.alloc (.cells #[.string s, .int .i64 at0] 30)).alloc (.cells #[.string ⟨#[]⟩, .int .i64 0] 30)) := ((Below.refl _ _).alloc (Nat.le_refl _) _).alloc (by simp) _
  have hS := Has.freshAt (w := w.alloc (.cells #[.string s, .int .i64 at0] 30)) (g := w.heap.size + 1) (by simp) 30 #[.string ⟨#[]⟩, .int .i64 0]
  have HX := hidden h
  clear h
  go_enter Try.func36, Try.ntmps36
  go_wp2_with fail
  refine (specRdOk_no s at0 _ hs b1 b2 HX.out).mono ?_
  rintro e w2 ⟨rfl, b2⟩
  replace bb := bel_then b2 bb.size bb
  replace hS := hS.below b2 hS.lt
  have hs2 := bb.size
  have e0 := hS.cell 0
  have e1 := hS.cell 1
  have g0 := hS.free 0
  have g1 := hS.free 1
  simp at e0 e1
  clear b2 hS
  go_wp2
  refine bodyPost_ret (v := .tuple #[.string ⟨#[]⟩, .agg #[.string ⟨#[]⟩, .int .i64 0], .bool false]) (by simp [results, Try.results36, go_sem, e0, e1, g0, g1]) rfl ⟨rfl, ?_⟩
  repeat (first | exact Below.refl _ _ | assumption | refine Below.alloc ?_ (by (try simp); (try omega)) _ | refine Below.setCell ?_ (by (try simp); (try omega)) _ | refine Below.drew ?_ | refine bel_then (by assumption) (by (try simp); (try omega)) ?_)
end
section
set_option linter.unusedVariables false
set_option linter.unusedSimpArgs false
open Go.RowKit

/-- What reading an order answers, the reader being in block b. -/
def L7OPost (s : ByteArray) (G : Option (List Nat × Nat)) (b : Nat) (T : TypeId) (w : World) (e : Ending) (w' : World) : Prop :=
  ((∃ (u : List Nat) (q : Nat), G = some (u, q) ∧ e = .returned (.string (strOf u)) ∧ Has w' b T #[.string s, .int .i64 (q : Int)]) ∨
   (G = none ∧ e = .returned (.string ⟨#[]⟩))) ∧ Only b w w'
theorem str_at {D : List Nat} (h : Byt D) {s : ByteArray} (hs : strOf D = s) (k : Nat) (hk : k < s.size) : s[k].toNat = D.getD k 0 := by
  rw [byteAt_get _ _ hk, ← bytesOf_get, ← hs, bytes_str h]
set_option maxHeartbeats 1000000 in
set_option maxRecDepth 100000 in
theorem l7getOrder_any (s : ByteArray) (at0 b : Nat) (T : TypeId) (U : List Nat) (w : World) (hs : s.size ≤ 1048576) (ha : at0 ≤ 8 * s.size) (hU : Byt U) (hl : U.length ≤ 256) (hb : Has w b T #[.string s, .int .i64 at0]) :
    Calls Try.prog 83 #[.pointer (some ⟨b, 0, none⟩), .string (strOf U)] w (L7OPost s (getO s U.length U at0) b T w) := by
  obtain ⟨i0, hi, hz0, hz1, hz2⟩ := info_parts Try.info5
  have hbl := hb.lt
  have KY := hidden (fun (W : World) (p n : Nat) (hn : n ≤ 32) (h : p + n ≤ 8 * s.size) (hB : Has W b T #[.string s, .int .i64 (p : Int)]) => l1get_yes s p n b T W hs hn h hB)
  have KN := hidden (fun (W : World) (p n : Nat) (hn : n ≤ 32) (hp : p ≤ 8 * s.size) (h : 8 * s.size < p + n) (hB : Has W b T #[.string s, .int .i64 (p : Int)]) => l1get_none s p n b T W hs hn hp h hB)
  have HUB := hidden hU
  obtain ⟨n, hn⟩ : ∃ n, U.length = n := ⟨_, rfl⟩
  obtain ⟨G, hG⟩ : ∃ G, getO s U.length U at0 = G := ⟨_, rfl⟩
  have HG := hidden hG
  have HN := hidden hn
  rw [hG]
  rw [hn] at hl
  clear hG hn hU
  go_enter Try.func83, Try.ntmps83
  go_wp2
  go_loopg [1, 5, 6] n (fun gk su v _ wr => ∃ (P D : List Nat) (a : Nat), su = .string (strOf P) ∧ Hid (P.length = gk) ∧ Hid (Byt P) ∧ D.length + gk = n ∧ a ≤ 8 * s.size ∧ Hid (G = (getO s gk P a).map (fun r => (D ++ r.1, r.2))) ∧ wr.ownsRow w.heap.size 5 1 v D.length (u8s D) ∧ Has wr b T #[.string s, .int .i64 (a : Int)] ∧ Only b w wr)
  case atStart => exact ⟨U, [], at0, rfl, HN, HUB, by simp, ha, hidden (by rw [map_app_nil, ← HG.out, HN.out]), World.ownsRow_nil _ _ _ _, hb, Only.refl _ _⟩
  case round =>
    obtain ⟨P, D, a, rfl, HPL, HBP, hDl, haa, HD, hown, hB, hO⟩ := hrel
    have hsz := hO.size
    have hus := strOf_size P
    have HAT := hidden (fun s h => str_at HBP.out (s := s) h)
    have HCUT := hidden (fun k (hk : k < P.length) => str_cut (D := P) rfl k hk)
    obtain ⟨us, hus2⟩ : ∃ us, strOf P = us := ⟨_, rfl⟩
    have HAT2 := hidden (HAT.out us hus2)
    rw [hus2] at hus HCUT ⊢
    rw [HPL.out] at hus
    clear hus2 HAT
    cases gk with
    | zero =>
      have h0 : ¬ (0 : Int) < us.size := by omega
      have HGE : Hid (G = some (D, a)) := hidden (by rw [HD.out]; simp [getO])
      have hrun := run_str hown
      clear hus
      go_wp2
      go_ret
      exact ⟨.inl ⟨D, a, HGE.out, rfl, hB⟩, hO⟩
    | succ f =>
      have h0 : (0 : Int) < us.size := by omega
      have hu256 : us.size ≤ 256 := by omega
      have HND := hidden (l7need_any us.size wr hu256)
      have hnd8 := need_le us.size hu256
      have HGY := hidden (fun v h1 h2 h3 => getO_yes (s := s) (f := f) (v := v) (u := P) (a := a) h1 h2 h3)
      have HGN := hidden (fun h => getO_no (s := s) (f := f) (u := P) (a := a) h)
      rw [show needB (f + 1) = needB us.size by rw [hus]] at HGY HGN
      obtain ⟨m, hm⟩ : ∃ m, needB us.size = m := ⟨_, rfl⟩
      rw [hm] at HND hnd8 HGY HGN
      have HUS := hidden hus
      clear hm hus
      by_cases hr : a + m ≤ 8 * s.size
      · have K2 := hidden (KY.out wr a m (by omega) hr hB)
        obtain ⟨x, hx⟩ : ∃ x, num (row s a m) = x := ⟨_, rfl⟩
        have hx8 : x < 256 := by rw [← hx]; exact Nat.lt_of_lt_of_le (num_row_lt s a m) (two_pow_small hnd8)
        rw [hx] at K2 HGN
        have HX := hidden hx
        clear hx
        go_wp2_with fail
        refine HND.out.mono ?_
        rintro e w2 ⟨rfl, rfl⟩
        go_wp2_with fail
        refine K2.out.mono ?_
        rintro e w3 ⟨rfl, hB3, hO3⟩
        have hO4 : Only b w w3 := World.grownBy.trans hO hO3
        have hown3 := own_only hown hO3 (by omega)
        have hs3 := hO4.size
        clear hown hO hO3 hB K2
        by_cases hxs : x < us.size
        · have HEQ : Hid (G = (getO s f (P.eraseIdx x) (a + m)).map (fun r => ((D ++ [P.getD x 0]) ++ r.1, r.2))) := hidden (by rw [HD.out, HGY.out x hr HX.out (by have := HUS.out; omega), map_cons_app])
          have HAX := HAT2.out x hxs
          have HC := hidden (HCUT.out x (by rw [HPL.out, ← HUS.out]; exact hxs))
          have HPL2 : Hid ((P.eraseIdx x).length = f) := hidden (by rw [List.length_eraseIdx_of_lt (by rw [HPL.out, ← HUS.out]; exact hxs), HPL.out]; rfl)
          have HBP2 : Hid (Byt (P.eraseIdx x)) := hidden (fun b hb => HBP.out b (List.mem_of_mem_eraseIdx hb))
          obtain ⟨y, hy⟩ : ∃ y, P.getD x 0 = y := ⟨_, rfl⟩
          rw [hy] at HAX HEQ
          have hDn : D.length ≤ 256 := by omega
          clear hy HD HGY HGN
          go_wp2_with (at_builtin; refine wpList_append_own _ rfl _ _ 22 rfl w.heap.size 5 i0 (.int .u8 0) 1 1 Try.underlying22 hi hz0 hz1 hz2 rfl (by decide) _ _ _ rfl (hown3.alloc _) ⟨w3.heap.size, 0, none⟩ 1 1 [.int .u8 (y : Int)] rfl rfl ?c1 ?c2 ?c3 ?c4 ?c5 ?_)
          case c1 => exact cell_one_new _ _ _
          case c2 => exact fun u hu => by simp at hu; subst hu; rfl
          case c3 => unfold maxLen; omega
          case c4 => omega
          case c5 => first | omega | (simp; omega)
          intro v5 w5 hown5 hgrow _
          have hrr : ∀ q, Value.ownBlock (_ : Value) = some q → w.heap.size ≤ q := fun q hq => (hown3.lt q hq).1
          have hO5 : Only b w w5 := (hO4.alloc _).grownNew hgrow hrr
          have hB5 := (hB3.alloc (.cells #[.int .u8 (y : Int)] 5)).grown hgrow (own_ne hown3 (by omega))
          rw [← u8s_snoc] at hown5
          clear hown3 hgrow hrr hO4 hB3
          go_wp2
          go_quiet (fail)
          go_wp2
          go_roundg f
          case rel => exact ⟨P.eraseIdx x, D ++ [y], a + m, by rw [HC.out], HPL2, HBP2, by simp; omega, hr, HEQ, by rw [List.length_append]; exact hown5, hB5.drewN _, hO5.drewN _⟩
          case measure => omega
        · have HNO : Hid (G = none) := hidden (by rw [HD.out, HGN.out (fun h => by have := HUS.out; omega)]; rfl)
          have hxI : ¬ (x : Int) < us.size := by omega
          go_wp2
          go_ret
          exact ⟨.inr ⟨HNO.out, rfl⟩, hO4⟩
      · have K2 := hidden (KN.out wr a m (by omega) haa (by omega) hB)
        have HNO : Hid (G = none) := hidden (by rw [HD.out, HGN.out (fun h => hr h.1)]; rfl)
        clear hr
        go_wp2_with fail
        refine HND.out.mono ?_
        rintro e w2 ⟨rfl, rfl⟩
        go_wp2_with fail
        refine K2.out.mono ?_
        rintro e w3 ⟨rfl, q, rfl⟩
        go_wp2
        go_ret
        exact ⟨.inr ⟨HNO.out, rfl⟩, hO.drewN q⟩
end
section
set_option linter.unusedVariables false
set_option linter.unusedSimpArgs false
open Go.RowKit

set_option maxHeartbeats 1000000 in
set_option maxRecDepth 100000 in
theorem specGetOrder_any (s u : ByteArray) (at0 : Nat) (w : World) (hs : s.size ≤ 1048576) (hu : u.size ≤ 1048576) (ha : at0 ≤ 8 * s.size) (hok : setOk (bytesOf u) = true) :
    Calls Try.prog 40 #[.agg #[.string s, .int .i64 at0], .string u] w (GG7 s (getO s (bytesOf u).length (bytesOf u) at0) w) := by
  have hnd := (usedL_self (byt_bytesOf u)).1 ((setOk_iff _).1 hok).2
  have hl := nodup_256 (byt_bytesOf u) (asc_nodup hnd)
  have K1 := hidden (fun W => l7used_any u W hu)
  rw [hok] at K1
  have K2 := hidden (fun (W : World) (h : Has W w.heap.size 30 #[.string s, .int .i64 (at0 : Int)]) => l7getOrder_any s at0 w.heap.size 30 (bytesOf u) W hs ha (byt_bytesOf u) hl h)
  rw [strOf_bytesOf] at K2
  obtain ⟨G, hG⟩ : ∃ G, getO s (bytesOf u).length (bytesOf u) at0 = G := ⟨_, rfl⟩
  have HSM : Hid (∀ v q, G = some (v, q) → v ≠ []) := hidden (fun v q h => by
    rw [← hG] at h
    have h1 := (getO_len ha h).1
    intro e
    rw [e] at h1
    exact ((setOk_iff _).1 hok).1 (List.length_eq_zero_iff.1 h1.symm))
  rw [hG] at K2 ⊢
  clear hG hnd hl hok
  have hR := (Has.fresh w 30 #[.string s, .int .i64 at0]).alloc (.cells #[.string ⟨#[]⟩, .int .i64 0] 30)
  have bb : Below w.heap.size w ((w.alloc (.cells #[.string s, .int .i64 at0] 30)).alloc (.cells #[.string ⟨#[]⟩, .int .i64 0] 30)) := ((Below.refl _ _).alloc (Nat.le_refl _) _).alloc (by simp) _
  have hS := Has.freshAt (w := w.alloc (.cells #[.string s, .int .i64 at0] 30)) (g := w.heap.size + 1) (by simp) 30 #[.string ⟨#[]⟩, .int .i64 0]
  go_enter Try.func40, Try.ntmps40
  go_wp2_with fail
  refine (specRdOk_yes s at0 _ hs ha).mono ?_
  rintro e w2 ⟨rfl, b2⟩
  replace bb := bel_then b2 bb.size bb
  replace hR := hR.below b2 hR.lt
  replace hS := hS.below b2 hS.lt
  have hs2 := bb.size
  have hRl := hR.lt
  have hSl := hS.lt
  clear b2
  go_wp2_with fail
  refine (K1.out _).mono ?_
  rintro e w4 ⟨rfl, b4⟩
  replace bb := bel_then b4 hs2 bb
  replace hR := hR.below b4 hR.lt
  replace hS := hS.below b4 hS.lt
  have hs4 := bb.size
  have hRl := hR.lt
  have hSl := hS.lt
  clear b4
  go_wp2_with fail
  refine (K2.out _ hR).mono ?_
  rintro e w3 ⟨hcase, hO⟩
  have hS3 := hO.has hS (by omega)
  have bb3 : Below w.heap.size w w3 := only_then hO (Nat.le_refl _) hs4 bb
  have hs3 := bb3.size
  have hSl3 := hS3.lt
  have e0 := hS3.cell 0
  have e1 := hS3.cell 1
  have g0 := hS3.free 0
  have g1 := hS3.free 1
  simp at e0 e1
  clear hR hS hO bb K2
  rcases hcase with ⟨o, q, hg, rfl, hR3⟩ | ⟨hno, rfl⟩
  · have HR := hidden hg
    have hpos := str_pos (HSM.out o q hg)
    have d0 := hR3.cell 0
    have d1 := hR3.cell 1
    simp at d0 d1
    obtain ⟨us, hus⟩ : ∃ us, strOf o = us := ⟨_, rfl⟩
    rw [hus] at hpos ⊢
    have HUS := hidden hus
    have hne := str_nonempty hpos
    clear hg hR3 hus
    go_wp2
    (try go_region)
    all_goals (try go_wp2)
    all_goals
      refine bodyPost_ret (v := .tuple #[.string us, .agg #[.string s, .int .i64 (q : Int)], .bool true]) (by simp [results, Try.results40, go_sem, d0, d1, e0, e1, g0, g1]) rfl ⟨.inl ⟨o, q, HR.out, by rw [HUS.out]⟩, ?_⟩
      repeat (first | exact Below.refl _ _ | assumption | refine Below.alloc ?_ (by (try simp); (try omega)) _ | refine Below.setCell ?_ (by (try simp); (try omega)) _ | refine Below.drew ?_ | refine bel_then (by assumption) (by (try simp); (try omega)) ?_)
  · have HNO := hidden hno
    clear hno
    go_wp2
    refine bodyPost_ret (v := .tuple #[.string ⟨#[]⟩, .agg #[.string ⟨#[]⟩, .int .i64 0], .bool false]) (by simp [results, Try.results40, go_sem, e0, e1, g0, g1]) rfl ⟨.inr ⟨HNO.out, rfl⟩, ?_⟩
    repeat (first | exact Below.refl _ _ | assumption | refine Below.alloc ?_ (by (try simp); (try omega)) _ | refine Below.setCell ?_ (by (try simp); (try omega)) _ | refine Below.drew ?_ | refine bel_then (by assumption) (by (try simp); (try omega)) ?_)
set_option maxHeartbeats 1000000 in
set_option maxRecDepth 100000 in
theorem specGetOrder_no (s u : ByteArray) (at0 : Int) (w : World) (hs : s.size ≤ 1048576) (b1 : -9223372036854775808 ≤ at0) (b2 : at0 ≤ 9223372036854775807) (h : ¬ (0 ≤ at0 ∧ at0 ≤ 8 * s.size)) :
    Calls Try.prog 40 #[.agg #[.string s, .int .i64 at0], .string u] w fun e w' => e = .returned (.tuple #[.string ⟨#[]⟩, .agg #[.string ⟨#[]⟩, .int .i64 0], .bool false]) ∧ Below w.heap.size w w' := by
  have bb : Below w.heap.size w ((w.alloc (.cells #[.string s, .int .i64 at0] 30)).alloc (.cells #[.string ⟨#[]⟩, .int .i64 0] 30)) := ((Below.refl _ _).alloc (Nat.le_refl _) _).alloc (by simp) _
  have hS := Has.freshAt (w := w.alloc (.cells #[.string s, .int .i64 at0] 30)) (g := w.heap.size + 1) (by simp) 30 #[.string ⟨#[]⟩, .int .i64 0]
  have HX := hidden h
  clear h
  go_enter Try.func40, Try.ntmps40
  go_wp2_with fail
  refine (specRdOk_no s at0 _ hs b1 b2 HX.out).mono ?_
  rintro e w2 ⟨rfl, b2⟩
  replace bb := bel_then b2 bb.size bb
  replace hS := hS.below b2 hS.lt
  have hs2 := bb.size
  have e0 := hS.cell 0
  have e1 := hS.cell 1
  have g0 := hS.free 0
  have g1 := hS.free 1
  simp at e0 e1
  clear b2 hS
  go_wp2
  refine bodyPost_ret (v := .tuple #[.string ⟨#[]⟩, .agg #[.string ⟨#[]⟩, .int .i64 0], .bool false]) (by simp [results, Try.results40, go_sem, e0, e1, g0, g1]) rfl ⟨rfl, ?_⟩
  repeat (first | exact Below.refl _ _ | assumption | refine Below.alloc ?_ (by (try simp); (try omega)) _ | refine Below.setCell ?_ (by (try simp); (try omega)) _ | refine Below.drew ?_ | refine bel_then (by assumption) (by (try simp); (try omega)) ?_)
set_option maxHeartbeats 1000000 in
set_option maxRecDepth 100000 in
theorem specGetOrder_set (s u : ByteArray) (at0 : Nat) (w : World) (hs : s.size ≤ 1048576) (hu : u.size ≤ 1048576) (ha : at0 ≤ 8 * s.size) (hok : setOk (bytesOf u) = false) :
    Calls Try.prog 40 #[.agg #[.string s, .int .i64 at0], .string u] w fun e w' => e = .returned (.tuple #[.string ⟨#[]⟩, .agg #[.string ⟨#[]⟩, .int .i64 0], .bool false]) ∧ Below w.heap.size w w' := by
  have bb : Below w.heap.size w ((w.alloc (.cells #[.string s, .int .i64 at0] 30)).alloc (.cells #[.string ⟨#[]⟩, .int .i64 0] 30)) := ((Below.refl _ _).alloc (Nat.le_refl _) _).alloc (by simp) _
  have hS := Has.freshAt (w := w.alloc (.cells #[.string s, .int .i64 at0] 30)) (g := w.heap.size + 1) (by simp) 30 #[.string ⟨#[]⟩, .int .i64 0]
  have K1 := hidden (fun W => l7used_any u W hu)
  rw [hok] at K1
  go_enter Try.func40, Try.ntmps40
  go_wp2_with fail
  refine (specRdOk_yes s at0 _ hs ha).mono ?_
  rintro e w2 ⟨rfl, b2⟩
  replace bb := bel_then b2 bb.size bb
  replace hS := hS.below b2 hS.lt
  have hs2 := bb.size
  have hSl := hS.lt
  clear b2
  go_wp2_with fail
  refine (K1.out _).mono ?_
  rintro e w4 ⟨rfl, b4⟩
  replace bb := bel_then b4 hs2 bb
  replace hS := hS.below b4 hS.lt
  have hs4 := bb.size
  have e0 := hS.cell 0
  have e1 := hS.cell 1
  have g0 := hS.free 0
  have g1 := hS.free 1
  simp at e0 e1
  clear b4 hS
  go_wp2
  refine bodyPost_ret (v := .tuple #[.string ⟨#[]⟩, .agg #[.string ⟨#[]⟩, .int .i64 0], .bool false]) (by simp [results, Try.results40, go_sem, e0, e1, g0, g1]) rfl ⟨rfl, ?_⟩
  repeat (first | exact Below.refl _ _ | assumption | refine Below.alloc ?_ (by (try simp); (try omega)) _ | refine Below.setCell ?_ (by (try simp); (try omega)) _ | refine Below.drew ?_ | refine bel_then (by assumption) (by (try simp); (try omega)) ?_)
end
section
set_option linter.unusedVariables false
set_option linter.unusedSimpArgs false
open Go.RowKit

/-- Can S be told by an order O? -/
def rkOk (S O : List Nat) : Bool := decide (S.length ≤ 600 ∧ ordOk O = true ∧ ∀ b ∈ S, b ∈ O)
theorem rkOk_iff (S O : List Nat) : rkOk S O = true ↔ S.length ≤ 600 ∧ ordOk O = true ∧ ∀ b ∈ S, b ∈ O := by simp [rkOk]
def rkTo (S O : List Nat) (k : Nat) : List Int := (S.take k).map fun b => (O.idxOf b : Int)
/-- The ranks of S in O; nothing where they can't be told. -/
def rkL (S O : List Nat) : List Int := if rkOk S O = true then rkTo S O S.length else []
theorem rkTo_len (S O : List Nat) (k : Nat) (h : k ≤ S.length) : (rkTo S O k).length = k := by simp [rkTo]; omega
theorem rkTo_succ (S O : List Nat) (k : Nat) (h : k < S.length) : rkTo S O (k + 1) = rkTo S O k ++ [(O.idxOf (S.getD k 0) : Int)] := by
  unfold rkTo
  rw [List.take_succ_eq_append_getElem h, List.map_append]
  simp [List.getD_eq_getElem?_getD, h]
theorem intsV_snoc7 (D : List Int) (x : Int) : intsV (D ++ [x]) = intsV D ++ [.int .i64 x] := by simp [intsV]
theorem ret_pair {v : Value} {a b : Bool} (h : a = b) : Ending.returned (.tuple #[v, .bool a]) = .returned (.tuple #[v, .bool b]) := by rw [h]
theorem bool_false {b : Bool} (h : ¬ b = true) : b = false := by simpa using h
set_option maxHeartbeats 1000000 in
set_option maxRecDepth 100000 in
theorem specToRanks_any (s o : ByteArray) (w : World) (hs : s.size ≤ 1048576) (ho : o.size ≤ 1048576) :
    Calls Try.prog 31 #[.string s, .string o] w fun e w' => ∃ v, e = .returned (.tuple #[v, .bool (rkOk (bytesOf s) (bytesOf o))]) ∧ w'.ownsRow w.heap.size 3 1 v (rkL (bytesOf s) (bytesOf o)).length (intsV (rkL (bytesOf s) (bytesOf o))) ∧ Below w.heap.size w w' := by
  have K1 := hidden (fun W => specOrderOk_any o W ho)
  have HNIL : Hid (rkOk (bytesOf s) (bytesOf o) = false → rkL (bytesOf s) (bytesOf o) = []) := hidden (fun h => by unfold rkL; rw [if_neg (by rw [h]; decide)])
  have HLs := hidden (bytesOf_len s)
  by_cases h6 : s.size ≤ 600
  · by_cases hok : ordOk (bytesOf o) = true
    · obtain ⟨i0, hi, hz0, hz1, hz2⟩ := info_parts Try.infoI
      have ho256 : o.size ≤ 256 := by rw [← bytesOf_len]; exact nodup_256 (byt_bytesOf o) ((ordOk_iff _).1 hok).2
      have KP := hidden (fun (W : World) (b : Nat) (hb : b < 256) => l7place_any o b W ho hb)
      have HIT := hidden (rkOk_iff (bytesOf s) (bytesOf o))
      have HOK := hidden hok
      have HGT : Hid (∀ k (h : k < s.size), s[k].toNat = (bytesOf s).getD k 0) := hidden (fun k h => by rw [byteAt_get _ _ h, bytesOf_get])
      have HME : Hid (∀ k, k < s.size → (bytesOf s).getD k 0 ∈ bytesOf s) := hidden (fun k h => by
        have h2 : k < (bytesOf s).length := by rw [bytesOf_len]; exact h
        rw [List.getD_eq_getElem?_getD, List.getElem?_eq_getElem h2]; exact List.getElem_mem h2)
      have HRS := hidden (fun k h => rkTo_succ (bytesOf s) (bytesOf o) k h)
      have HRL := hidden (fun k h => rkTo_len (bytesOf s) (bytesOf o) k h)
      have HAL : Hid (rkOk (bytesOf s) (bytesOf o) = true → rkL (bytesOf s) (bytesOf o) = rkTo (bytesOf s) (bytesOf o) s.size) := hidden (fun h => by unfold rkL; rw [if_pos h, bytesOf_len])
      have HBY := hidden (byt_bytesOf s)
      have HIX : Hid (∀ b, b ∈ bytesOf o → (bytesOf o).idxOf b < o.size) := hidden (fun b h => by rw [← bytesOf_len]; exact idx_lt h)
      rw [hok] at K1
      have HMA : Hid (∀ x, (x ∈ bytesOf s → ∃ k, k < s.size ∧ (bytesOf s).getD k 0 = x)) := hidden (fun x hx => by
        obtain ⟨k, hk, rfl⟩ := List.getElem_of_mem hx
        exact ⟨k, by rw [← bytesOf_len]; exact hk, by simp [List.getD_eq_getElem?_getD, hk]⟩)
      obtain ⟨S, hS⟩ : ∃ S, bytesOf s = S := ⟨_, rfl⟩
      obtain ⟨O, hO⟩ : ∃ O, bytesOf o = O := ⟨_, rfl⟩
      rw [hS] at HNIL HIT HGT HME HRS HRL HAL HBY HLs HMA
      rw [hO] at HNIL HIT HRS HRL HAL HOK KP HIX
      rw [hS, hO]
      clear hS hO hok
      go_enter Try.func31, Try.ntmps31
      go_wp2_with fail
      refine (K1.out _).mono ?_
      rintro e w1 ⟨rfl, b1⟩
      have hs1 := b1.size
      go_wp2
      go_loopw [6, 7, 8] (fun v sk _ wr => ∃ k : Nat, k ≤ s.size ∧ sk = .int .i64 k ∧ Hid (∀ j, j < k → S.getD j 0 ∈ O) ∧ wr.ownsRow w.heap.size 3 1 v k (intsV (rkTo S O k)) ∧ Below w.heap.size w wr) (fun _ sk _ _ => s.size - (intOf sk).toNat)
      case atStart => exact ⟨0, by omega, rfl, hidden (fun j hj => by omega), World.ownsRow_nil _ _ _ _, b1⟩
      case round =>
        obtain ⟨k, hk, rfl, HA, hown, hbl⟩ := hrel
        have hsz := hbl.size
        by_cases hlt : k < s.size
        · have hx256 : s[k].toNat < 256 := UInt8.toNat_lt _
          have hgk := HGT.out k hlt
          have HM := hidden (HME.out k hlt)
          have HR := hidden (HRS.out k (by rw [HLs.out]; exact hlt))
          obtain ⟨x, hx⟩ : ∃ x, s[k].toNat = x := ⟨_, rfl⟩
          rw [hx] at hgk hx256
          rw [← hgk] at HM HR
          have KX := hidden (KP.out wr x hx256)
          have HGK := hidden hgk
          clear hgk
          by_cases hin : x ∈ O
          · have hix := HIX.out x hin
            rw [placeI, if_pos hin] at KX
            obtain ⟨y, hy⟩ : ∃ y, O.idxOf x = y := ⟨_, rfl⟩
            rw [hy] at KX HR hix
            have HA2 : Hid (∀ j, j < k + 1 → S.getD j 0 ∈ O) := hidden (fun j hj => by
              rcases Nat.lt_or_ge j k with h | h
              · exact HA.out j h
              · rw [show j = k by omega, ← HGK.out]; exact hin)
            clear hy
            go_wp2_with fail
            refine KX.out.mono ?_
            rintro e w2 ⟨rfl, rfl⟩
            go_wp2_with (at_builtin; refine wpList_append_own _ rfl _ _ 39 rfl w.heap.size 3 i0 (.int .i64 0) 1 8 Try.underlying39 hi hz0 hz1 hz2 rfl (by decide) _ _ _ rfl (hown.alloc _) ⟨w2.heap.size, 0, none⟩ 1 1 [.int .i64 (y : Int)] rfl rfl ?c1 ?c2 ?c3 ?c4 ?c5 ?_)
            case c1 => exact cell_one_new _ _ _
            case c2 => exact fun u hu => by simp at hu; subst hu; rfl
            case c3 => unfold maxLen; omega
            case c4 => omega
            case c5 => first | omega | (simp; omega)
            intro v5 w5 hown5 hgrow _
            have hb5 := bel_app hbl hsz hown hgrow
            rw [← intsV_snoc7, ← HR.out] at hown5
            clear hown hgrow hbl
            go_wp2
            go_roundw
            case rel => exact ⟨k + 1, by omega, by go_num, HA2, hown5, hb5⟩
            case measure => simp [intOf]; omega
          · rw [placeI, if_neg hin] at KX
            have HF : Hid (rkOk S O = false) := hidden (bool_false (fun h => hin ((HIT.out.1 h).2.2 x HM.out)))
            go_wp2_with fail
            refine KX.out.mono ?_
            rintro e w2 ⟨rfl, rfl⟩
            go_wp2
            go_ret2
            exact ⟨_, ret_pair HF.out.symm, by rw [HNIL.out HF.out]; exact World.ownsRow_nil _ _ _ _, hbl⟩
        · have hks : k = s.size := by omega
          subst hks
          have HT : Hid (rkOk S O = true) := hidden (HIT.out.2 ⟨by rw [HLs.out]; exact h6, HOK.out, fun b hb => by
            obtain ⟨j, hj, rfl⟩ := HMA.out b hb
            exact HA.out j hj⟩)
          have HL2 := hidden (HRL.out s.size (by rw [HLs.out]; exact Nat.le_refl _))
          go_wp2
          go_ret2
          exact ⟨_, ret_pair HT.out.symm, by rw [HAL.out HT.out, HL2.out]; exact hown, hbl⟩
    · have HF : Hid (rkOk (bytesOf s) (bytesOf o) = false) := hidden (bool_false (fun h => hok ((rkOk_iff _ _).1 h).2.1))
      rw [bool_false hok] at K1
      clear hok
      go_enter Try.func31, Try.ntmps31
      go_wp2_with fail
      refine (K1.out _).mono ?_
      rintro e w1 ⟨rfl, b1⟩
      go_wp2
      go_ret2
      exact ⟨_, ret_pair HF.out.symm, by rw [HNIL.out HF.out]; exact World.ownsRow_nil _ _ _ _, b1⟩
  · have HF : Hid (rkOk (bytesOf s) (bytesOf o) = false) := hidden (bool_false (fun h => h6 (by rw [← bytesOf_len]; exact ((rkOk_iff _ _).1 h).1)))
    have h6I : (600 : Int) < s.size := by omega
    go_enter Try.func31, Try.ntmps31
    go_wp2
    go_ret2
    exact ⟨_, ret_pair HF.out.symm, by rw [HNIL.out HF.out]; exact World.ownsRow_nil _ _ _ _, Below.refl _ _⟩

/-- Are these ranks in an order O? -/
def frOk (z : List Int) (O : List Nat) : Bool := decide (z.length ≤ 600 ∧ ordOk O = true ∧ ∀ x ∈ z, 0 ≤ x ∧ x < (O.length : Int))
theorem frOk_iff (z : List Int) (O : List Nat) : frOk z O = true ↔ z.length ≤ 600 ∧ ordOk O = true ∧ ∀ x ∈ z, 0 ≤ x ∧ x < (O.length : Int) := by simp [frOk]
def frTo (z : List Int) (O : List Nat) (k : Nat) : List Nat := (z.take k).map fun x => O.getD x.toNat 0
/-- The bytes of ranks; none where they are no ranks. -/
def frL (z : List Int) (O : List Nat) : List Nat := if frOk z O = true then frTo z O z.length else []
theorem frTo_len (z : List Int) (O : List Nat) (k : Nat) (h : k ≤ z.length) : (frTo z O k).length = k := by simp [frTo]; omega
theorem frTo_succ (z : List Int) (O : List Nat) (k : Nat) (h : k < z.length) : frTo z O (k + 1) = frTo z O k ++ [O.getD (z.getD k 0).toNat 0] := by
  unfold frTo
  rw [List.take_succ_eq_append_getElem h, List.map_append]
  simp [List.getD_eq_getElem?_getD, h]
theorem strOf_nil : strOf [] = ⟨#[]⟩ := rfl
set_option maxHeartbeats 1000000 in
set_option maxRecDepth 100000 in
theorem specFromRanks_any (a : Option Addr) (cap B : Nat) (z : List Int) (o : ByteArray) (w : World) (hz : Ints w B a z) (hB : B ≤ w.heap.size) (hl : z.length ≤ 1048576) (ho : o.size ≤ 1048576) :
    Calls Try.prog 44 #[.slice a z.length cap, .string o] w fun e w' => e = .returned (.tuple #[.string (strOf (frL z (bytesOf o))), .bool (frOk z (bytesOf o))]) ∧ Below w.heap.size w w' := by
  have K1 := hidden (fun W => specOrderOk_any o W ho)
  have HNIL : Hid (frOk z (bytesOf o) = false → strOf (frL z (bytesOf o)) = ⟨#[]⟩) := hidden (fun h => by unfold frL; rw [if_neg (by rw [h]; decide), strOf_nil])
  obtain ⟨n, hn⟩ : ∃ n, z.length = n := ⟨_, rfl⟩
  have HN := hidden hn
  have HZ := hidden hz
  rw [hn] at hl ⊢
  clear hn hz
  by_cases h6 : n ≤ 600
  · by_cases hok : ordOk (bytesOf o) = true
    · obtain ⟨i0, hi, hz0, hz1, hz2⟩ := info_parts Try.info5
      have ho256 : o.size ≤ 256 := by rw [← bytesOf_len]; exact nodup_256 (byt_bytesOf o) ((ordOk_iff _).1 hok).2
      have HIT := hidden (frOk_iff z (bytesOf o))
      have HOK := hidden hok
      have HGT : Hid (∀ k (h : k < o.size), o[k].toNat = (bytesOf o).getD k 0) := hidden (fun k h => by rw [byteAt_get _ _ h, bytesOf_get])
      have HRS := hidden (fun k h => frTo_succ z (bytesOf o) k h)
      have HRL := hidden (fun k h => frTo_len z (bytesOf o) k h)
      have HAL : Hid (frOk z (bytesOf o) = true → frL z (bytesOf o) = frTo z (bytesOf o) n) := hidden (fun h => by unfold frL; rw [if_pos h, HN.out])
      have HOL := hidden (bytesOf_len o)
      rw [hok] at K1
      obtain ⟨O, hO⟩ : ∃ O, bytesOf o = O := ⟨_, rfl⟩
      rw [hO] at HNIL HIT HRS HRL HAL HOK HGT HOL ⊢
      clear hO hok
      go_enter Try.func44, Try.ntmps44
      go_wp2_with fail
      refine (K1.out _).mono ?_
      rintro e w1 ⟨rfl, b1⟩
      have hs1 := b1.size
      go_wp2
      go_loopw [6, 7] (fun v sk wr => ∃ k : Nat, k ≤ n ∧ sk = .int .i64 k ∧ Hid (∀ j, j < k → 0 ≤ z.getD j 0 ∧ z.getD j 0 < (O.length : Int)) ∧ wr.ownsRow w.heap.size 5 1 v k (u8s (frTo z O k)) ∧ Below w.heap.size w wr) (fun _ sk _ => n - (intOf sk).toNat)
      case atStart => exact ⟨0, by omega, rfl, hidden (fun j hj => by omega), World.ownsRow_nil _ _ _ _, b1⟩
      case round =>
        obtain ⟨k, hk, rfl, HA, hown, hbl⟩ := hrel
        have hsz := hbl.size
        by_cases hlt : k < n
        · have hzr := HZ.out.below (hbl.mono hB)
          obtain ⟨b, off, rfl, hb, hc⟩ := hzr.2.2 (by rw [HN.out]; omega)
          have ck := hc k (by rw [HN.out]; exact hlt)
          have HR := hidden (HRS.out k (by rw [HN.out]; exact hlt))
          have HMK : Hid (z.getD k 0 ∈ z) := hidden (getD_mem (by rw [HN.out]; exact hlt))
          obtain ⟨x, hx⟩ : ∃ x, z.getD k 0 = x := ⟨_, rfl⟩
          rw [hx] at ck HR HMK
          have HX := hidden hx
          clear hx hzr hc
          by_cases hx0 : x < 0
          · have HF : Hid (frOk z O = false) := hidden (bool_false (fun h => by have := (HIT.out.1 h).2.2 x HMK.out; omega))
            go_wp2
            go_ret2
            exact ⟨by rw [HF.out, HNIL.out HF.out]; rfl, hbl⟩
          · by_cases hxo : x < o.size
            · obtain ⟨q, rfl⟩ : ∃ q : Nat, x = q := ⟨x.toNat, by omega⟩
              have hqo : q < o.size := by omega
              have hgq := HGT.out q hqo
              have hy256 : o[q].toNat < 256 := UInt8.toNat_lt _
              rw [Int.toNat_natCast] at HR
              rw [← hgq] at HR
              have HA2 : Hid (∀ j, j < k + 1 → 0 ≤ z.getD j 0 ∧ z.getD j 0 < (O.length : Int)) := hidden (fun j hj => by
                rcases Nat.lt_or_ge j k with h | h
                · exact HA.out j h
                · rw [show j = k by omega, HX.out, HOL.out]; omega)
              obtain ⟨y, hy⟩ : ∃ y, o[q].toNat = y := ⟨_, rfl⟩
              rw [hy] at HR hy256
              clear hgq hx0 hxo
              go_wp2_with (at_builtin; refine wpList_append_own _ rfl _ _ 22 rfl w.heap.size 5 i0 (.int .u8 0) 1 1 Try.underlying22 hi hz0 hz1 hz2 rfl (by decide) _ _ _ rfl (hown.alloc _) ⟨wr.heap.size, 0, none⟩ 1 1 [.int .u8 (y : Int)] rfl rfl ?c1 ?c2 ?c3 ?c4 ?c5 ?_)
              case c1 => exact cell_one_new _ _ _
              case c2 => exact fun u hu => by simp at hu; subst hu; rfl
              case c3 => unfold maxLen; omega
              case c4 => omega
              case c5 => first | omega | (simp; omega)
              intro v5 w5 hown5 hgrow _
              have hb5 := bel_app hbl hsz hown hgrow
              rw [← u8s_snoc, ← HR.out] at hown5
              clear hown hgrow hbl
              go_wp2
              go_roundw
              case rel => exact ⟨k + 1, by omega, by go_num, HA2, hown5, hb5⟩
              case measure => simp [intOf]; omega
            · have HF : Hid (frOk z O = false) := hidden (bool_false (fun h => by have := (HIT.out.1 h).2.2 x HMK.out; rw [HOL.out] at this; omega))
              go_wp2
              go_ret2
              exact ⟨by rw [HF.out, HNIL.out HF.out]; rfl, hbl⟩
        · have hkn : k = n := by omega
          subst hkn
          have HT : Hid (frOk z O = true) := hidden (HIT.out.2 ⟨by rw [HN.out]; exact h6, HOK.out, fun x hx => by
            obtain ⟨j, hj, rfl⟩ := mem_getD hx
            exact HA.out j (by rw [← HN.out]; exact hj)⟩)
          have hrun := run_str (w := wr) (D := frTo z O k) hown
          go_wp2
          go_ret2
          exact ⟨by rw [HT.out, HAL.out HT.out]; rfl, hbl⟩
    · have HF : Hid (frOk z (bytesOf o) = false) := hidden (bool_false (fun h => hok ((frOk_iff _ _).1 h).2.1))
      rw [bool_false hok] at K1
      clear hok
      go_enter Try.func44, Try.ntmps44
      go_wp2_with fail
      refine (K1.out _).mono ?_
      rintro e w1 ⟨rfl, b1⟩
      go_wp2
      go_ret2
      exact ⟨by rw [HF.out, HNIL.out HF.out]; rfl, b1⟩
  · have HF : Hid (frOk z (bytesOf o) = false) := hidden (bool_false (fun h => h6 (by rw [← HN.out]; exact ((frOk_iff _ _).1 h).1)))
    have h6I : (600 : Int) < n := by omega
    go_enter Try.func44, Try.ntmps44
    go_wp2
    go_ret2
    exact ⟨by rw [HF.out, HNIL.out HF.out]; rfl, Below.refl _ _⟩
end
section
set_option linter.unusedVariables false
set_option linter.unusedSimpArgs false
open Go.RowKit

theorem gg7_yes {s : ByteArray} {G : Option (List Nat × Nat)} {u : List Nat} {q : Nat} {w : World} {e : Ending} {w' : World} (h : GG7 s G w e w') (hg : G = some (u, q)) :
    e = .returned (.tuple #[.string (strOf u), .agg #[.string s, .int .i64 (q : Int)], .bool true]) ∧ Below w.heap.size w w' := by
  obtain ⟨⟨v, p, h2, rfl⟩ | ⟨hno, _⟩, hb⟩ := h
  · rw [hg] at h2
    simp only [Option.some.injEq, Prod.mk.injEq] at h2
    obtain ⟨rfl, rfl⟩ := h2
    exact ⟨rfl, hb⟩
  · rw [hg] at hno; cases hno
theorem gg7_no {s : ByteArray} {G : Option (List Nat × Nat)} {w : World} {e : Ending} {w' : World} (h : GG7 s G w e w') (hg : G = none) :
    e = .returned (.tuple #[.string ⟨#[]⟩, .agg #[.string ⟨#[]⟩, .int .i64 0], .bool false]) ∧ Below w.heap.size w w' := by
  obtain ⟨⟨v, p, h2, rfl⟩ | ⟨_, rfl⟩, hb⟩ := h
  · rw [hg] at h2; cases h2
  · exact ⟨rfl, hb⟩
end
end Go.Proofs.Ytabhbijohjemiaa
