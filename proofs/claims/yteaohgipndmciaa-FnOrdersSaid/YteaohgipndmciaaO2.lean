/- Merged: C7, C7B, I7C, C7C, C7D, C6G, C7E. -/
import Derived.Test.YteaohgipndmciaaAlph
import Derived.Test.YteaohgipndmciaaStr
import Derived.Test.YteaohgipndmciaaRet
import Derived.Test.YteaohgipndmciaaNats
import Derived.Test.YteaohgipndmciaaI7M
import Derived.Test.YteaohgipndmciaaAlph2
import Derived.Test.YteaohgipndmciaaC1Close
import Derived.Test.YteaohgipndmciaaGam
import Derived.Test.YteaohgipndmciaaC1LGet
import Derived.Test.YteaohgipndmciaaO1
import Derived.Maps.AppendAt
import Derived.Deep.LoopGhost
import Derived.BigQuiet
import Derived.Deep.QuietTactic
import Derived.Carry
import Derived.Lib.Strings
import Derived.Lib.SmallJoins
import Derived.RegionTactic
import Derived.ChangeAlike
namespace Go.Proofs.Yteaohgipndmciaa
set_option linter.unusedVariables false
set_option linter.unusedSimpArgs false
open Go.RowKit

theorem bytes_at (s : ByteArray) (k : Nat) (h : k < s.size) : (bytesOf s).take (k + 1) = (bytesOf s).take k ++ [s[k].toNat] := by
  have hk : k < (bytesOf s).length := by rw [bytesOf_len]; exact h
  rw [List.take_succ_eq_append_getElem hk]
  congr 2
  have := bytesOf_get s k
  rw [List.getD_eq_getElem?_getD, List.getElem?_eq_getElem hk, Option.getD_some] at this
  rw [this, byteAt_get _ _ h]
theorem nats_up (s : ByteArray) (k : Nat) (h : k < s.size) : nats 256 (fun b => ((bytesOf s).take (k + 1)).count b) = (nats 256 (fun b => ((bytesOf s).take k).count b)).set s[k].toNat (.int .i64 ((((bytesOf s).take k).count s[k].toNat + 1 : Nat) : Int)) := by
  rw [nats_set]
  refine nats_congr fun t ht => ?_
  rw [bytes_at s k h, List.count_append]
  by_cases e : t = s[k].toNat
  · subst e; simp
  · simp [e, List.count_cons, Ne.symm e]
set_option maxHeartbeats 1000000 in
set_option maxRecDepth 100000 in
theorem l7counts_any (s : ByteArray) (w : World) (hs : s.size ≤ 1048576) :
    Calls Try.prog 77 #[.string s] w fun e w' => e = .returned (.slice (some ⟨w.heap.size, 0, none⟩) 256 256) ∧ w'.ownsRow w.heap.size 3 1 (.slice (some ⟨w.heap.size, 0, none⟩) 256 256) 256 (nats 256 (fun b => (bytesOf s).count b)) ∧ Below w.heap.size w w' := by
  obtain ⟨j0, ji, jz0, jz1, jz2⟩ := info_parts Try.infoInt
  have HALL : Hid ((bytesOf s).take s.size = bytesOf s) := hidden (by rw [← bytesOf_len]; exact List.take_length)
  go_enter Try.func77, Try.ntmps77
  go_wp2_with (at_make; refine wpList_make_full _ rfl _ _ 39 rfl w.heap.size 3 j0 (.int .i64 0) 1 Try.underlying39 ji jz0 jz1 .i64 .i64 _ _ 256 rfl rfl rfl rfl ?cb1 ?cb2 ?cb3 ?_)
  case cb1 => rw [jz2]; omega
  case cb2 => unfold maxLen; omega
  case cb3 => exact Nat.le_refl _
  intro w1 hown hgrow
  have hbl : Below w.heap.size w w1 := ⟨hgrow.os, hgrow.tape, hgrow.output, hgrow.size, fun i hi => hgrow.block i hi (by simp)⟩
  rw [made_nats] at hown
  clear hgrow
  go_wp2
  go_loopw [4] (fun si wr => ∃ k : Nat, k ≤ s.size ∧ si = .int .i64 k ∧ wr.ownsRow w.heap.size 3 1 (.slice (some ⟨w.heap.size, 0, none⟩) 256 256) 256 (nats 256 (fun b => ((bytesOf s).take k).count b)) ∧ Below w.heap.size w wr) (fun si _ => s.size - (intOf si).toNat)
  case atStart => exact ⟨0, by omega, rfl, by simpa using hown, hbl⟩
  case round =>
    obtain ⟨k, hk, rfl, hownD, hblD⟩ := hrel
    by_cases hlt : k < s.size
    · have hx : s[k].toNat < 256 := UInt8.toNat_lt _
      have HUP := hidden (nats_up s k hlt)
      have d0 := hownD.cellAt s[k].toNat (by omega)
      rw [nats_get _ _ _ hx] at d0
      have f0 := hownD.frozenAt s[k].toNat
      have hc : ((bytesOf s).take k).count s[k].toNat ≤ k := by
        have := List.count_le_length (a := s[k].toNat) (l := (bytesOf s).take k)
        rw [List.length_take] at this; omega
      obtain ⟨c, hcc⟩ : ∃ c, ((bytesOf s).take k).count s[k].toNat = c := ⟨_, rfl⟩
      rw [hcc] at hc d0 HUP
      clear hcc
      go_wp2
      go_roundw
      case rel => exact ⟨k + 1, by omega, by go_num, by rw [HUP.out]; exact (hownD.stored _ _).1, hblD.setCell (Nat.le_refl _) _⟩
      case measure => simp [intOf]; omega
    · have hkn : k = s.size := by omega
      subst hkn
      rw [HALL.out] at hownD
      go_wp2
      go_ret
      exact ⟨rfl, hownD, hblD⟩

theorem run_string_nil7 (w : World) : (convert 22 9 (.slice none 0 0)).run Try.prog w = .ok (.string ⟨#[]⟩) w := by
  rw [run_convert_bytes_string w _ _ _ _ _ _ Try.underlying22 Try.underlying5 Try.underlying9]
  rfl
/-- 'string(b)' of a row of one's own, a nil one too. -/
theorem run_str {w : World} {base n : Nat} {v : Value} {D : List Nat} (h : w.ownsRow base 5 1 v n (u8s D)) : (convert 22 9 v).run Try.prog w = .ok (.string (strOf D)) w := by
  have hl : D.length = n := by have := h.1; rw [u8s_len] at this; omega
  rcases h.2 with ⟨hv, h0⟩ | ⟨gd, cp, cur, hv, _⟩
  · subst hv
    have : D = [] := List.length_eq_zero_iff.1 (by omega)
    subst this
    exact run_string_nil7 w
  · subst hv
    exact run_string_own (P := Try.prog) (src := 22) (dst := 9) Try.underlying22 Try.underlying5 Try.underlying9 h hl
/-- Where one element has been appended to a row of one's own behind a world. -/
theorem bel_app {B : Nat} {a wr w3 : World} {v : Value} {n : Nat} {E : TypeId} {S : Nat} {xs : List Value} {cs : Array Value} {T : TypeId} (h : Below B a wr) (hB : B ≤ wr.heap.size) (hown : wr.ownsRow B E S v n xs) (hg : (wr.alloc (.cells cs T)).grownBy w3 v.ownBlock) : Below B a w3 :=
  (h.alloc hB _).grown hg (by simp; omega) (fun g hg => (hown.lt g hg).1)
set_option maxHeartbeats 1000000 in
set_option maxRecDepth 100000 in
theorem specUsed_any (s : ByteArray) (w : World) (hs : s.size ≤ 1048576) :
    Calls Try.prog 25 #[.string s] w fun e w' => e = .returned (.string (strOf (usedL (bytesOf s)))) ∧ Below w.heap.size w w' := by
  obtain ⟨i0, hi, hz0, hz1, hz2⟩ := info_parts Try.info5
  have K := hidden (fun W : World => l7counts_any s W hs)
  obtain ⟨L, hL⟩ : ∃ L, bytesOf s = L := ⟨_, rfl⟩
  rw [hL] at K ⊢
  clear hL
  have HS : Hid (∀ k, usedTo L (k + 1) = if 0 < L.count k then usedTo L k ++ [k] else usedTo L k) := hidden (usedTo_succ L)
  have HE : Hid (usedTo L 256 = usedL L) := hidden rfl
  obtain ⟨f, hf⟩ : ∃ f : Nat → Nat, (fun b => L.count b) = f := ⟨_, rfl⟩
  have HF : Hid (∀ k, f k = L.count k) := hidden (fun k => by rw [← hf])
  rw [hf] at K
  clear hf
  go_enter Try.func25, Try.ntmps25
  go_wp2_with fail
  refine (K.out _).mono ?_
  rintro e w1 ⟨rfl, hC, b1⟩
  have hs1 := b1.size
  go_wp2
  go_loopw [4, 5] (fun v si wr => ∃ k : Nat, k ≤ 256 ∧ si = .int .i64 k ∧ wr.ownsRow w1.heap.size 5 1 v (usedTo L k).length (u8s (usedTo L k)) ∧ Below w1.heap.size w1 wr) (fun _ si _ => 256 - (intOf si).toNat)
  case atStart => exact ⟨0, by omega, rfl, World.ownsRow_nil _ _ _ _, Below.refl _ _⟩
  case round =>
    obtain ⟨k, hk, rfl, hown, hbl⟩ := hrel
    have hsz := hbl.size
    by_cases hlt : k < 256
    · have hle := usedTo_len L k
      have d0 := (own_bel hC hbl).cellAt k hlt
      rw [nats_get _ _ _ hlt] at d0
      have hk8 : (k : Int) % 256 = k := by omega
      by_cases hc : 0 < f k
      · have HN : Hid (usedTo L (k + 1) = usedTo L k ++ [k]) := hidden (by rw [HS.out, if_pos (by rw [← HF.out]; exact hc)])
        go_wp2_with (at_builtin; refine wpList_append_own _ rfl _ _ 22 rfl w1.heap.size 5 i0 (.int .u8 0) 1 1 Try.underlying22 hi hz0 hz1 hz2 rfl (by decide) _ _ _ rfl (hown.alloc _) ⟨wr.heap.size, 0, none⟩ 1 1 [.int .u8 (k : Int)] rfl rfl ?c1 ?c2 ?c3 ?c4 ?c5 ?_)
        case c1 => exact cell_one_new _ _ _
        case c2 => exact fun x hx => by simp at hx; subst hx; rfl
        case c3 => unfold maxLen; omega
        case c4 => omega
        case c5 => simp; omega
        intro v' w3 hown' hgrow _
        have hb3 := bel_app hbl hsz hown hgrow
        rw [← u8s_snoc, ← HN.out] at hown'
        have HO : Hid (w3.ownsRow w1.heap.size 5 1 v' (usedTo L (k + 1)).length (u8s (usedTo L (k + 1)))) := hidden (by have := hown'; rwa [show (usedTo L k).length + 1 = (usedTo L (k + 1)).length by rw [HN.out]; simp] at this)
        clear hown hgrow hbl hown'
        go_wp2
        go_roundw
        case rel => exact ⟨k + 1, by omega, by go_num, HO.out, hb3⟩
        case measure => simp [intOf]; omega
      · have HN : Hid (usedTo L (k + 1) = usedTo L k) := hidden (by rw [HS.out, if_neg (by rw [← HF.out]; exact hc)])
        have hc0 : f k = 0 := by omega
        go_wp2
        go_roundw
        case rel => exact ⟨k + 1, by omega, by go_num, by rw [HN.out]; exact hown, hbl⟩
        case measure => simp [intOf]; omega
    · have hkn : k = 256 := by omega
      subst hkn
      rw [HE.out] at hown
      have hrun := run_str hown
      go_wp2
      go_ret
      exact ⟨rfl, bel_then hbl hs1 b1⟩

set_option maxHeartbeats 2000000 in
set_option maxRecDepth 100000 in
theorem specByCount_any (s : ByteArray) (w : World) (hs : s.size ≤ 1048576) :
    Calls Try.prog 26 #[.string s] w fun e w' => ∃ R, Ranked (bytesOf s) R ∧ e = .returned (.string (strOf R)) ∧ Below w.heap.size w w' := by
  obtain ⟨i0, hi, hz0, hz1, hz2⟩ := info_parts Try.info5
  have K := hidden (fun W : World => l7counts_any s W hs)
  have HB := hidden (byt_bytesOf s)
  obtain ⟨L, hL⟩ : ∃ L, bytesOf s = L := ⟨_, rfl⟩
  rw [hL] at K HB ⊢
  clear hL
  rw [← remF_nil] at K
  go_enter Try.func26, Try.ntmps26
  go_wp2_with fail
  refine (K.out _).mono ?_
  rintro e w1 ⟨rfl, hC, b1⟩
  have hs1 := b1.size
  obtain ⟨c0, hc0⟩ : ∃ c0, w.heap.size = c0 := ⟨_, rfl⟩
  rw [hc0] at hC b1 ⊢
  have hlt0 : c0 < w1.heap.size := (hC.lt c0 rfl).2
  go_wp2
  go_loopg [4, 5, 6] 257 (fun gk v _ _ wr => ∃ R : List Nat, Hid (Sel L R) ∧ Hid (R.length + gk = 257) ∧ R.length ≤ 256 ∧ wr.ownsRow w1.heap.size 5 1 v R.length (u8s R) ∧ wr.ownsRow c0 3 1 (.slice (some ⟨c0, 0, none⟩) 256 256) 256 (nats 256 (remF L R)) ∧ Below c0 w1 wr ∧ w1.heap.size ≤ wr.heap.size)
  case atStart => exact ⟨[], hidden (sel_nil L), hidden rfl, by simp, World.ownsRow_nil _ _ _ _, hC, Below.refl _ _, Nat.le_refl _⟩
  case round =>
    obtain ⟨R, HSel, HG, hRl, hown, hcnt, hbl, hsz⟩ := hrel
    obtain ⟨f, hf⟩ : ∃ f : Nat → Nat, remF L R = f := ⟨_, rfl⟩
    have HF := hidden hf
    rw [hf] at hcnt
    clear hf hC K
    go_wp2
    go_loopw [5, 6] (fun sb sk wq => ∃ b k : Nat, sb = .int .i64 b ∧ sk = .int .i64 k ∧ b < k ∧ 1 ≤ k ∧ k ≤ 256 ∧ Hid (∀ x, x < k → f x ≤ f b ∧ (f x = f b → b ≤ x)) ∧ Hid (∃ q, wq = wr.drewN q)) (fun _ sk _ => 256 - (intOf sk).toNat)
    case atStart => exact ⟨0, 1, rfl, rfl, by omega, by omega, by omega, hidden (fun x hx => by rw [show x = 0 by omega]; exact ⟨Nat.le_refl _, fun _ => Nat.le_refl _⟩), hidden ⟨0, rfl⟩⟩
    case round =>
      obtain ⟨b, k, rfl, rfl, hb, hk1, hk, HM, HQ⟩ := hrel
      obtain ⟨q, rfl⟩ := HQ.out
      have db := hcnt.cellAt b (by omega)
      rw [nats_get _ _ _ (by omega)] at db
      by_cases hlt : k < 256
      · have dk := hcnt.cellAt k (by omega)
        rw [nats_get _ _ _ hlt] at dk
        obtain ⟨x, hx⟩ : ∃ x, f k = x := ⟨_, rfl⟩
        obtain ⟨y, hy⟩ : ∃ y, f b = y := ⟨_, rfl⟩
        have HX := hidden hx
        have HY := hidden hy
        rw [hx] at dk
        rw [hy] at db
        clear hx hy
        by_cases hgt : y < x
        · have hgd : decide ((y : Int) < x) = true := by simp; omega
          have hgi : (y : Int) < x := by omega
          go_wp2
          go_quiet (fail)
          go_wp2
          go_roundw
          case rel => exact ⟨k, k + 1, rfl, by go_num, by omega, by omega, by omega, hidden (fun z hz => by
              have h1 := HX.out; have h2 := HY.out
              rcases Nat.lt_or_ge z k with h | h
              · have := HM.out z h; exact ⟨by omega, fun e => by omega⟩
              · obtain rfl : z = k := by omega
                exact ⟨Nat.le_refl _, fun _ => Nat.le_refl _⟩), hidden ⟨_, rfl⟩⟩
          case measure => simp [intOf]; omega
        · have hgd : decide ((y : Int) < x) = false := by simp; omega
          have hgi : ¬ (y : Int) < x := by omega
          go_wp2
          go_quiet (fail)
          go_wp2
          go_roundw
          case rel => exact ⟨b, k + 1, rfl, by go_num, by omega, by omega, by omega, hidden (fun z hz => by
              have h1 := HX.out; have h2 := HY.out
              rcases Nat.lt_or_ge z k with h | h
              · exact HM.out z h
              · obtain rfl : z = k := by omega
                exact ⟨by omega, fun e => by omega⟩), hidden ⟨_, rfl⟩⟩
          case measure => simp [intOf]; omega
      · have hk256 : k = 256 := by omega
        subst hk256
        by_cases hz : f b = 0
        · have HR : Hid (Ranked L R) := hidden (by
            have h := HM.out; rw [← HF.out] at h hz
            exact sel_end HB.out HSel.out h hz)
          have hrun := run_str (w := wr.drewN q) hown
          rw [hz] at db
          go_wp2
          go_ret
          exact ⟨R, HR.out, rfl, by rw [hc0]; exact b1.trans (bel_drewN hbl q)⟩
        · have hp : 0 < f b := by omega
          have HS2 : Hid (Sel L (R ++ [b]) ∧ R.length + 1 ≤ 256) := hidden (by
            have h := HM.out; rw [← HF.out] at h hp
            exact sel_step HB.out HSel.out h hp)
          have HF2 : Hid (nats 256 (remF L (R ++ [b])) = (nats 256 f).set b (.int .i64 ((0 : Nat) : Int))) := hidden (by
            rw [nats_set]
            refine nats_congr fun t _ => ?_
            rw [remF_snoc, HF.out])
          have hb8 : (b : Int) % 256 = b := by omega
          have hlen := HS2.out.2
          have hnz : ¬ (f b : Int) = 0 := by omega
          obtain ⟨y, hy⟩ : ∃ y, f b = y := ⟨_, rfl⟩
          rw [hy] at db hnz
          clear hy hz hp
          go_wp2_with (at_builtin; refine wpList_append_own _ rfl _ _ 22 rfl w1.heap.size 5 i0 (.int .u8 0) 1 1 Try.underlying22 hi hz0 hz1 hz2 rfl (by decide) _ _ _ rfl (hown.alloc _) ⟨wr.heap.size, 0, none⟩ 1 1 [.int .u8 (b : Int)] rfl rfl ?c1 ?c2 ?c3 ?c4 ?c5 ?_)
          case c1 => exact cell_one_new _ _ _
          case c2 => exact fun x hx => by simp at hx; subst hx; rfl
          case c3 => unfold maxLen; omega
          case c4 => omega
          case c5 => simp; omega
          intro v' w3 hown' hgrow _
          have hlo := fun g hg => (hown.lt g hg).1
          have hb3 : Below c0 w1 w3 := ((bel_drewN hbl q).alloc (by simp; omega) _).grown hgrow (by simp; omega) (fun g hg => by have := hlo g hg; omega)
          have hc3 : w3.ownsRow c0 3 1 (.slice (some ⟨c0, 0, none⟩) 256 256) 256 (nats 256 f) := World.ownsRow.kept (World.ownsRow.alloc (w := wr.drewN q) hcnt _) hgrow (.inr (fun e => by have := hlo c0 e.symm; omega))
          have hs3 : w1.heap.size ≤ w3.heap.size := by have := hgrow.size; simp at this; omega
          rw [← u8s_snoc] at hown'
          have d3 := hc3.cellAt b (by omega)
          rw [nats_get _ _ _ (by omega)] at d3
          have f3 := hc3.frozenAt b
          clear hown hcnt hgrow hlo db
          go_wp2
          go_roundg (gk - 1)
          case measure => have := HG.out; omega
          case rel => exact ⟨R ++ [b], hidden HS2.out.1, hidden (by have := HG.out; simp; omega), by simp; omega, by simpa using own_away hown' (p := ⟨c0, b, none⟩) (by simpa using hlt0) _, by rw [HF2.out]; exact (hc3.stored b _).1, hb3.setCell (Nat.le_refl _) _, by simpa using hs3⟩
end Go.Proofs.Yteaohgipndmciaa
namespace Go.Proofs.Yteaohgipndmciaa
set_option linter.unusedVariables false
set_option linter.unusedSimpArgs false
open Go.RowKit

theorem getD_small {D : List Nat} (h : Byt D) (j : Nat) : D.getD j 0 < 256 := by
  rcases Nat.lt_or_ge j D.length with hj | hj
  · rw [List.getD_eq_getElem?_getD, List.getElem?_eq_getElem hj]; exact h _ (List.getElem_mem hj)
  · rw [List.getD_eq_getElem?_getD, List.getElem?_eq_none hj]; decide
theorem bytes_str {D : List Nat} (h : Byt D) : bytesOf (strOf D) = D := bytesOf_strOf D (getD_small h)
theorem str_eq {D : List Nat} (h : Byt D) (s : ByteArray) : strOf D = s ↔ D = bytesOf s := by
  constructor
  · intro e; rw [← e, bytes_str h]
  · intro e; rw [e, strOf_bytesOf]
theorem str_beq_ne {a b : ByteArray} (h : ¬ a = b) : (a.toList == b.toList) = false := by
  rw [beq_eq_false_iff_ne, ByteArray.toList_eq, ByteArray.toList_eq]
  intro e
  apply h
  cases a; cases b
  congr 1
  exact Array.toList_inj.1 e
theorem setOk_str (s : ByteArray) : setOk (bytesOf s) = true ↔ 0 < s.size ∧ strOf (usedL (bytesOf s)) = s := by
  rw [setOk_iff, str_eq (byt_usedL _)]
  have : bytesOf s ≠ [] ↔ 0 < s.size := by rw [← bytesOf_len, List.length_pos_iff]
  rw [this]
theorem ordOk_str (s : ByteArray) : ordOk (bytesOf s) = true ↔ 0 < s.size ∧ (usedL (bytesOf s)).length = s.size := by
  rw [ordOk_iff, ← used_len_eq (byt_bytesOf s), bytesOf_len]
  have : bytesOf s ≠ [] ↔ 0 < s.size := by rw [← bytesOf_len, List.length_pos_iff]
  rw [this]
set_option maxHeartbeats 1000000 in
set_option maxRecDepth 100000 in
theorem l7used_any (s : ByteArray) (w : World) (hs : s.size ≤ 1048576) :
    Calls Try.prog 61 #[.string s] w fun e w' => e = .returned (.bool (setOk (bytesOf s))) ∧ Below w.heap.size w w' := by
  have K := hidden (fun W : World => specUsed_any s W hs)
  have HS := hidden (setOk_str s)
  obtain ⟨o, ho⟩ : ∃ o, setOk (bytesOf s) = o := ⟨_, rfl⟩
  obtain ⟨u, hu⟩ : ∃ u, strOf (usedL (bytesOf s)) = u := ⟨_, rfl⟩
  rw [ho, hu] at HS
  rw [hu] at K
  rw [ho]
  clear ho hu
  by_cases h0 : 0 < s.size
  · by_cases he : u = s
    · subst he
      have HO : Hid (o = true) := hidden (HS.out.2 ⟨h0, rfl⟩)
      go_enter Try.func61, Try.ntmps61
      go_wp2_with fail
      refine (K.out _).mono ?_
      rintro e w1 ⟨rfl, b1⟩
      go_wp2
      go_ret
      exact ⟨ret_bool HO.out.symm, b1⟩
    · have HO : Hid (o = false) := hidden (by
        cases o
        · rfl
        · exact absurd (HS.out.1 rfl).2 he)
      go_enter Try.func61, Try.ntmps61
      go_wp2_with fail
      refine (K.out _).mono ?_
      rintro e w1 ⟨rfl, b1⟩
      go_wp2
      go_ret
      exact ⟨ret_bool (by rw [HO.out, str_beq_ne he]), b1⟩
  · have HO : Hid (o = false) := hidden (by
      cases o
      · rfl
      · exact absurd (HS.out.1 rfl).1 h0)
    have h00 : ¬ (0 : Int) < s.size := by omega
    go_enter Try.func61, Try.ntmps61
    go_wp2
    go_ret
    exact ⟨ret_bool (by rw [HO.out]), Below.refl _ _⟩
set_option maxHeartbeats 1000000 in
set_option maxRecDepth 100000 in
theorem specOrderOk_any (s : ByteArray) (w : World) (hs : s.size ≤ 1048576) :
    Calls Try.prog 22 #[.string s] w fun e w' => e = .returned (.bool (ordOk (bytesOf s))) ∧ Below w.heap.size w w' := by
  have K := hidden (fun W : World => specUsed_any s W hs)
  have HS := hidden (ordOk_str s)
  have hz := strOf_size (usedL (bytesOf s))
  have hl := usedTo_len (bytesOf s) 256
  change (usedL (bytesOf s)).length ≤ 256 at hl
  obtain ⟨o, ho⟩ : ∃ o, ordOk (bytesOf s) = o := ⟨_, rfl⟩
  obtain ⟨u, hu⟩ : ∃ u, strOf (usedL (bytesOf s)) = u := ⟨_, rfl⟩
  rw [ho, ← hz, hu] at HS
  rw [← hz, hu] at hl
  rw [hu] at K
  rw [ho]
  clear ho hu hz
  by_cases h0 : 0 < s.size
  · by_cases h1 : s.size ≤ 256
    · by_cases he : u.size = s.size
      · have HO : Hid (o = true) := hidden (HS.out.2 ⟨h0, he⟩)
        go_enter Try.func22, Try.ntmps22
        go_wp2_with fail
        refine (K.out _).mono ?_
        rintro e w1 ⟨rfl, b1⟩
        go_wp2
        go_ret
        exact ⟨ret_bool HO.out.symm, b1⟩
      · have HO : Hid (o = false) := hidden (by
          cases o
          · rfl
          · exact absurd (HS.out.1 rfl).2 he)
        go_enter Try.func22, Try.ntmps22
        go_wp2_with fail
        refine (K.out _).mono ?_
        rintro e w1 ⟨rfl, b1⟩
        go_wp2
        go_ret
        exact ⟨ret_bool (by rw [HO.out]; exact beq_eq_false_iff_ne.2 (by omega)), b1⟩
    · have HO : Hid (o = false) := hidden (by
        cases o
        · rfl
        · have := (HS.out.1 rfl).2; omega)
      go_enter Try.func22, Try.ntmps22
      go_wp2
      go_ret
      exact ⟨ret_bool HO.out.symm, Below.refl _ _⟩
  · have HO : Hid (o = false) := hidden (by
      cases o
      · rfl
      · exact absurd (HS.out.1 rfl).1 h0)
    have h00 : ¬ (0 : Int) < s.size := by omega
    go_enter Try.func22, Try.ntmps22
    go_wp2
    go_ret
    exact ⟨ret_bool (by rw [HO.out]), Below.refl _ _⟩

end Go.Proofs.Yteaohgipndmciaa
namespace Go.Proofs.Yteaohgipndmciaa
set_option linter.unusedVariables false
set_option linter.unusedSimpArgs false
open Go.RowKit Go.Maps

theorem count_up (s : ByteArray) (k : Nat) (h : k < s.size) : (fun b => ((bytesOf s).take (k + 1)).count b) = fun b => if b = s[k].toNat then ((bytesOf s).take k).count s[k].toNat + 1 else ((bytesOf s).take k).count b := by
  funext t
  rw [bytes_at s k h, List.count_append]
  by_cases e : t = s[k].toNat
  · subst e; simp
  · simp [e, List.count_cons, Ne.symm e]
set_option maxHeartbeats 1000000 in
set_option maxRecDepth 100000 in
theorem countsOf_any (s : ByteArray) (w : World) (hs : s.size ≤ 1048576) :
    Calls Try.prog 67 #[.string s] w fun e w' => e = .returned (.map (some w.heap.size)) ∧ CntAt w' w.heap.size s.size (fun b => (bytesOf s).count b) ∧ Below w.heap.size w w' := by
  have HALL : Hid ((bytesOf s).take s.size = bytesOf s) := hidden (by rw [← bytesOf_len]; exact List.take_length)
  have hmm := @run_makeMap Try.prog
  go_enter Try.func67, Try.ntmps67
  go_wp2
  go_loopw [4, 8] (fun _ sk wr => ∃ k : Nat, k ≤ s.size ∧ sk = .int .i64 k ∧ CntAt wr w.heap.size k (fun b => ((bytesOf s).take k).count b) ∧ Below w.heap.size w wr) (fun _ sk _ => s.size - (intOf sk).toNat)
  case atStart => exact ⟨0, by omega, rfl, ⟨_, World.ownsMap_made w Try.prog 5 (plainElem (H := Unit) Try.prog 3), by simpa using cnt_nil⟩, (Below.refl _ _).alloc (Nat.le_refl _) _⟩
  case round =>
    obtain ⟨k, hk, rfl, ⟨D, hown, hC⟩, hbl⟩ := hrel
    by_cases hlt : k < s.size
    · have hx : s[k].toNat < 256 := UInt8.toNat_lt _
      have HUP := hidden (count_up s k hlt)
      have hc : ((bytesOf s).take k).count s[k].toNat ≤ k := by
        have := List.count_le_length (a := s[k].toNat) (l := (bytesOf s).take k)
        rw [List.length_take] at this; omega
      obtain ⟨x, hxx⟩ : ∃ x, s[k].toNat = x := ⟨_, rfl⟩
      rw [hxx] at hx hc HUP
      have HC2 := hidden (cnt_put hC hx)
      have HAT := hidden (hC.2.2.1 x hx)
      obtain ⟨c, hcc⟩ : ∃ c, ((bytesOf s).take k).count x = c := ⟨_, rfl⟩
      simp only [hcc] at hc HUP HC2 HAT
      have hkey := keyB hx
      clear hcc hC
      go_wp2_with (first | (at_lookup; refine wpList_lookup_own_int _ rfl _ _ 71 rfl 5 3 .i64 byteKey Try.underlying71 Try.underlying3 (zeroI7 _) w.heap.size k D rfl hown _ _ rfl hkey ?_; intro q hat hwc; obtain rfl : q = (c : Int) := (by have h1 := hat.symm.trans HAT.out; simpa using h1)) | (at_mapUpdate; refine wpList_mapUpdate_own _ rfl _ _ _ 71 rfl 5 3 byteKey Try.underlying71 _ w.heap.size k _ rfl hown (by unfold maxLen; omega) _ _ _ rfl rfl hkey (.lit (.int .i64 ((c : Int) + 1))) [] (plainElem_int Try.underlying3 (WalkArith.wf_i64 (by omega))) ?_; intro w2 hown2 hgrow2))
      go_roundw
      case rel => exact ⟨k + 1, by omega, by go_num, ⟨_, hown2, by rw [HUP.out]; exact HC2.out⟩, hbl.grown hgrow2 hbl.size (fun j hj => by cases hj; exact Nat.le_refl _)⟩
      case measure => simp [intOf]; omega
    · have hkn : k = s.size := by omega
      subst hkn
      rw [HALL.out] at hC
      go_wp2
      go_ret
      exact ⟨rfl, ⟨D, hown, hC⟩, hbl⟩

theorem str_ne_nil {s : ByteArray} (h : 0 < s.size) : (s.toList == ByteArray.toList ⟨#[]⟩) = false := by
  rw [beq_eq_false_iff_ne, ByteArray.toList_eq, ByteArray.toList_eq]
  intro e
  have h2 : s.data.toList.length = s.size := by simp
  rw [e] at h2
  simp at h2
  omega
theorem str_isEmpty {s : ByteArray} (h : 0 < s.size) : s.toList.isEmpty = false := by
  rw [Bool.eq_false_iff]
  intro e
  rw [List.isEmpty_iff, ByteArray.toList_eq] at e
  have h2 : s.data.toList.length = s.size := by simp
  rw [e] at h2
  simp at h2
  omega
theorem str_zero {s : ByteArray} (h : ¬ 0 < s.size) : s = ⟨#[]⟩ := by
  have : bytesOf s = [] := List.length_eq_zero_iff.1 (by rw [bytesOf_len]; omega)
  rw [← strOf_bytesOf s, this]; rfl
set_option maxHeartbeats 1000000 in
set_option maxRecDepth 100000 in
theorem implOrderOk_any (s : ByteArray) (w : World) (hs : s.size ≤ 1048576) :
    Calls Try.prog 65 #[.string s] w fun e w' => e = .returned (.bool (ordOk (bytesOf s))) ∧ Below w.heap.size w w' := by
  have K := hidden (fun W : World => countsOf_any s W hs)
  by_cases h0 : 0 < s.size
  · have HS := hidden (ordOk_str s)
    have HCU := hidden (card_used (bytesOf s))
    obtain ⟨o, ho⟩ : ∃ o, ordOk (bytesOf s) = o := ⟨_, rfl⟩
    obtain ⟨m, hm⟩ : ∃ m, (usedL (bytesOf s)).length = m := ⟨_, rfl⟩
    rw [ho, hm] at HS
    rw [hm] at HCU
    rw [ho]
    clear ho hm
    have hne := str_isEmpty h0
    by_cases he : m = s.size
    · have HO : Hid (o = true) := hidden (HS.out.2 ⟨h0, he⟩)
      go_enter Try.func65, Try.ntmps65
      go_wp2_with fail
      refine (K.out _).mono ?_
      rintro e w1 ⟨rfl, ⟨D, hown, hC⟩, b1⟩
      have hlen := hown.len Try.underlying71
      rw [hC.2.2.2, HCU.out] at hlen
      clear hC hown
      go_wp2
      go_ret
      exact ⟨ret_bool HO.out.symm, b1⟩
    · have HO : Hid (o = false) := hidden (by
        cases o
        · rfl
        · exact absurd (HS.out.1 rfl).2 he)
      go_enter Try.func65, Try.ntmps65
      go_wp2_with fail
      refine (K.out _).mono ?_
      rintro e w1 ⟨rfl, ⟨D, hown, hC⟩, b1⟩
      have hlen := hown.len Try.underlying71
      rw [hC.2.2.2, HCU.out] at hlen
      clear hC hown
      go_wp2
      go_ret
      exact ⟨ret_bool (by rw [HO.out]; exact beq_eq_false_iff_ne.2 (by omega)), b1⟩
  · obtain rfl := str_zero h0
    have HO : Hid (ordOk (bytesOf ⟨#[]⟩) = false) := hidden (by decide)
    go_enter Try.func65, Try.ntmps65
    go_wp2
    go_ret
    exact ⟨ret_bool (by rw [HO.out]), Below.refl _ _⟩
end Go.Proofs.Yteaohgipndmciaa
namespace Go.Proofs.Yteaohgipndmciaa
set_option linter.unusedVariables false
set_option linter.unusedSimpArgs false
open Go.RowKit

theorem two_pow_small {n : Nat} (h : n ≤ 8) : 2 ^ n ≤ 256 := Nat.pow_le_pow_right (n := 2) (by omega) h
/-- Where a byte stands; -1: nowhere. -/
def placeI (u : List Nat) (b : Nat) : Int := if b ∈ u then (u.idxOf b : Int) else -1
theorem place_at {u : List Nat} {b k : Nat} (hk : k < u.length) (h : u.getD k 0 = b) (hno : ∀ j, j < k → u.getD j 0 ≠ b) : placeI u b = k := by
  have hb : b ∈ u := by
    rw [← h, List.getD_eq_getElem?_getD, List.getElem?_eq_getElem hk]; exact List.getElem_mem hk
  unfold placeI
  rw [if_pos hb]
  have h2 := idx_get hb
  rcases Nat.lt_trichotomy (u.idxOf b) k with h3 | h3 | h3
  · exact absurd h2 (hno _ h3)
  · rw [h3]
  · have h4 := List.not_of_lt_findIdx (p := (· == b)) (xs := u) h3
    rw [List.getD_eq_getElem?_getD, List.getElem?_eq_getElem hk, Option.getD_some] at h
    simp [h] at h4
theorem place_no {u : List Nat} {b : Nat} (hno : ∀ j, j < u.length → u.getD j 0 ≠ b) : placeI u b = -1 := by
  unfold placeI
  rw [if_neg]
  intro hb
  exact hno _ (idx_lt hb) (idx_get hb)
set_option maxHeartbeats 1000000 in
theorem l7place_any (s : ByteArray) (b : Nat) (w : World) (hs : s.size ≤ 1048576) (hb : b < 256) :
    Calls Try.prog 85 #[.string s, .int .u8 b] w fun e w' => e = .returned (.int .i64 (placeI (bytesOf s) b)) ∧ w' = w := by
  have HG : Hid (∀ k (h : k < s.size), s[k].toNat = (bytesOf s).getD k 0) := hidden (fun k h => by rw [byteAt_get _ _ h, bytesOf_get])
  have HL : Hid ((bytesOf s).length = s.size) := hidden (bytesOf_len s)
  go_enter Try.func85, Try.ntmps85
  go_wp2
  go_loopw [5] (fun sk wr => ∃ k : Nat, sk = .int .i64 k ∧ k ≤ s.size ∧ Hid (∀ j, j < k → (bytesOf s).getD j 0 ≠ b) ∧ Hid (wr = w)) (fun sk _ => s.size - (intOf sk).toNat)
  case atStart => exact ⟨0, rfl, by omega, hidden (fun j hj => by omega), hidden rfl⟩
  case round =>
    obtain ⟨k, rfl, hk, HNO, HW⟩ := hrel
    by_cases hlt : k < s.size
    · have hgk := HG.out k hlt
      by_cases he : s[k].toNat = b
      · have HF : Hid (placeI (bytesOf s) b = k) := hidden (place_at (by rw [HL.out]; exact hlt) (by rw [← hgk]; exact he) HNO.out)
        clear hgk
        go_wp2
        go_ret
        exact ⟨ret_int HF.out.symm, HW.out⟩
      · have HN2 : Hid (∀ j, j < k + 1 → (bytesOf s).getD j 0 ≠ b) := hidden (fun j hj => by
          rcases Nat.lt_or_ge j k with h | h
          · exact HNO.out j h
          · rw [show j = k by omega, ← hgk]; exact he)
        clear hgk
        go_wp2
        go_roundw
        case rel => exact ⟨k + 1, by go_num, by omega, HN2, HW⟩
        case measure => simp [intOf]; omega
    · have HF : Hid (placeI (bytesOf s) b = -1) := hidden (place_no (fun j hj => HNO.out j (by rw [HL.out] at hj; omega)))
      go_wp2
      go_ret
      exact ⟨ret_int HF.out.symm, HW.out⟩

/-- A byte is struck out of a string. -/
theorem str_cut {D : List Nat} {s : ByteArray} (h : strOf D = s) (k : Nat) (hk : k < D.length) : s.extract 0 k ++ s.extract (k + 1) s.size = strOf (D.eraseIdx k) := by
  subst h
  have e : ∀ {a b : ByteArray}, a.data.toList = b.data.toList → a = b := fun {a b} h => by
    cases a; cases b; congr 1; exact Array.toList_inj.1 h
  apply e
  rw [ByteArray.data_append, Array.toList_append, Lib.extract_data, Lib.extract_data, strOf_size]
  have hd : ∀ L : List Nat, (strOf L).data.toList = L.map UInt8.ofNat := fun L => by simp [strOf]
  rw [hd, hd, List.eraseIdx_eq_take_drop_succ, List.map_append, List.map_take, List.map_drop, List.drop_zero, Nat.sub_zero]
  congr 1
  rw [List.take_of_length_le (by simp)]
theorem drop_at (s : ByteArray) (i : Nat) (h : i < s.size) : (bytesOf s).drop i = s[i].toNat :: (bytesOf s).drop (i + 1) := by
  have hk : i < (bytesOf s).length := by rw [bytesOf_len]; exact h
  rw [List.drop_eq_getElem_cons hk]
  congr 1
  have := bytesOf_get s i
  rw [List.getD_eq_getElem?_getD, List.getElem?_eq_getElem hk, Option.getD_some] at this
  rw [this, byteAt_get _ _ h]
end Go.Proofs.Yteaohgipndmciaa
namespace Go.Proofs.Yteaohgipndmciaa
set_option linter.unusedVariables false
set_option linter.unusedSimpArgs false
open Go.RowKit

/-- Two slices do not lie in one block. -/
def Apart (a b : Value) : Prop := ∀ k, a.ownBlock = some k → b.ownBlock ≠ some k
theorem apart_nil (b : Value) : Apart (.slice none 0 0) b := fun k h => by simp [Value.ownBlock] at h
theorem apart_to_nil (a : Value) : Apart a (.slice none 0 0) := fun k _ h => by simp [Value.ownBlock] at h
theorem Apart.symm {a b : Value} (h : Apart a b) : Apart b a := fun k hb ha => h k ha hb
theorem apart_app {w : World} {base n S : Nat} {E : TypeId} {v v' b : Value} {xs : List Value} (h : Apart v b) (hb : w.ownsRow base E S b n xs) (hloc : v'.ownBlock = v.ownBlock ∨ v'.ownBlock = some w.heap.size) : Apart v' b := by
  intro k hk hkb
  rcases hloc with h2 | h2
  · exact h k (by rw [← h2]; exact hk) hkb
  · have := (hb.lt k hkb).2
    rw [h2] at hk
    simp only [Option.some.injEq] at hk
    omega
theorem apart_app1 {w : World} {base n S : Nat} {E : TypeId} {v v' b : Value} {xs : List Value} (h : Apart v b) (hb : w.ownsRow base E S b n xs) (hloc : v'.ownBlock = v.ownBlock ∨ v'.ownBlock = some (w.heap.size + 1)) : Apart v' b := by
  intro k hk hkb
  rcases hloc with h2 | h2
  · exact h k (by rw [← h2]; exact hk) hkb
  · have := (hb.lt k hkb).2
    rw [h2] at hk
    simp only [Option.some.injEq] at hk
    omega
theorem apart_kept {w w' : World} {base n S : Nat} {E : TypeId} {v b : Value} {xs : List Value} (h : Apart v b) (hb : w.ownsRow base E S b n xs) (hg : w.grownBy w' v.ownBlock) : w'.ownsRow base E S b n xs := by
  cases hbb : b.ownBlock with
  | none => exact hb.kept hg (.inl hbb)
  | some k => exact hb.kept hg (.inr (fun e => h k (by rw [← e, hbb]) hbb))
/-- The first j bytes of a group. -/
def memTo (u : List Nat) (g j : Nat) : List Nat := (List.range j).map fun p => if 16 * g + p ∈ u then 1 else 0
def hasTo (u : List Nat) (g j : Nat) : Nat := if 1 ∈ memTo u g j then 1 else 0
theorem memTo_len (u : List Nat) (g j : Nat) : (memTo u g j).length = j := by simp [memTo]
theorem memTo_succ (u : List Nat) (g j : Nat) : memTo u g (j + 1) = memTo u g j ++ [if 16 * g + j ∈ u then 1 else 0] := by simp [memTo, List.range_succ]
theorem hasTo_succ (u : List Nat) (g j : Nat) : hasTo u g (j + 1) = (hasTo u g j ||| (if 16 * g + j ∈ u then 1 else 0)) := by
  unfold hasTo
  rw [memTo_succ]
  by_cases h1 : 1 ∈ memTo u g j
  · rw [if_pos h1, if_pos (List.mem_append_left _ h1)]
    split <;> rfl
  · rw [if_neg h1]
    by_cases h2 : 16 * g + j ∈ u
    · simp [h2]
    · simp [h1, h2]
theorem hasTo_lt (u : List Nat) (g j : Nat) : hasTo u g j < 2 := by unfold hasTo; split <;> omega
theorem or_bit (h x : Nat) (hh : h < 2) (hx : x < 2) : bits BinOp.or IntKind.u8 (h : Int) (x : Int) = ((h ||| x : Nat) : Int) := by
  have : h = 0 ∨ h = 1 := by omega
  have : x = 0 ∨ x = 1 := by omega
  rcases ‹h = 0 ∨ h = 1› with rfl | rfl <;> rcases ‹x = 0 ∨ x = 1› with rfl | rfl <;> rfl
theorem set_count {u : List Nat} (hb : Byt u) (hu : setOk u = true) (b : Nat) : u.count b = if b ∈ u then 1 else 0 := by
  have h := ((setOk_iff u).1 hu).2
  have := usedL_count u hb b
  rw [h] at this
  exact this
theorem usedRest_pos {u : List Nat} (hb : Byt u) (hu : setOk u = true) : 0 < (usedRest u 16).length := by
  obtain ⟨g, hg, h⟩ := used_some hb ((setOk_iff u).1 hu).1
  have h1 : grp16 u g ≠ [] := by
    unfold grp16
    rw [if_pos h]
    intro e
    have := mem16_len u g
    rw [e] at this; simp at this
  obtain ⟨x, hx⟩ := List.exists_mem_of_ne_nil _ h1
  exact List.length_pos_of_mem (List.mem_flatMap.2 ⟨g, List.mem_range.2 hg, hx⟩)
def headTo (u : List Nat) (g : Nat) : List Nat := (List.range g).map (has16 u)
theorem headTo_len (u : List Nat) (g : Nat) : (headTo u g).length = g := by simp [headTo]
theorem headTo_succ (u : List Nat) (g : Nat) : headTo u (g + 1) = headTo u g ++ [has16 u g] := by simp [headTo, List.range_succ]
set_option maxHeartbeats 1000000 in
set_option maxRecDepth 100000 in
theorem l7put_any (s : ByteArray) (w : World) (hs : s.size ≤ 1048576) (hok : setOk (bytesOf s) = true) :
    Calls Try.prog 63 #[.string s] w fun e w' => ∃ v, e = .returned v ∧ w'.ownsRow w.heap.size 5 1 v (usedBits (bytesOf s)).length (u8s (usedBits (bytesOf s))) ∧ Below w.heap.size w w' := by
  obtain ⟨i0, hi, hz0, hz1, hz2⟩ := info_parts Try.info5
  have K1 := hidden (fun W : World => l7counts_any s W hs)
  have HC := hidden (set_count (byt_bytesOf s) hok)
  have HRP := hidden (usedRest_pos (byt_bytesOf s) hok)
  obtain ⟨U, hU⟩ : ∃ U, bytesOf s = U := ⟨_, rfl⟩
  rw [hU] at K1 HC HRP ⊢
  clear hU hok
  have HB : Hid (usedBits U = headTo U 16 ++ usedRest U 16) := hidden rfl
  obtain ⟨f, hf⟩ : ∃ f : Nat → Nat, (fun b => U.count b) = f := ⟨_, rfl⟩
  have HF : Hid (∀ k, f k = if k ∈ U then 1 else 0) := hidden (fun k => by rw [← hf]; exact HC.out k)
  have HF2 : Hid (∀ k, f k < 2) := hidden (fun k => by rw [HF.out]; split <;> omega)
  rw [hf] at K1
  clear hf
  go_enter Try.func63, Try.ntmps63
  go_wp2_with fail
  refine (K1.out _).mono ?_
  rintro e w1 ⟨rfl, hC, b1⟩
  have hs1 := b1.size
  have HCH := hidden hC
  clear hC
  go_wp2
  go_loopw [4, 5, 6, 7, 8, 9] (fun vh vr sg _ _ _ wr => ∃ g : Nat, g ≤ 16 ∧ sg = .int .i64 g ∧ wr.ownsRow w1.heap.size 5 1 vh g (u8s (headTo U g)) ∧ wr.ownsRow w1.heap.size 5 1 vr (usedRest U g).length (u8s (usedRest U g)) ∧ Apart vh vr ∧ Below w1.heap.size w1 wr) (fun _ _ sg _ _ _ _ => 16 - (intOf sg).toNat)
  case atStart => exact ⟨0, by omega, rfl, World.ownsRow_nil _ _ _ _, World.ownsRow_nil _ _ _ _, apart_nil _, Below.refl _ _⟩
  case round =>
    obtain ⟨g, hg, rfl, hownH, hownR, hAp, hbl⟩ := hrel
    have hsz := hbl.size
    have HRL := hidden (usedRest_len U g)
    by_cases hlt : g < 16
    · have HAp := hidden hAp
      have hgI : (g : Int) < 16 := by omega
      clear hAp
      go_wp2
      go_loopw [7, 8, 9] (fun vs sh sb wx => ∃ j : Nat, j ≤ 16 ∧ sb = .int .i64 ((16 * g + j : Nat) : Int) ∧ sh = .int .u8 (hasTo U g j) ∧ wx.ownsRow w1.heap.size 5 1 vs j (u8s (memTo U g j)) ∧ Hid (Apart vs u4) ∧ Hid (Apart vs u5) ∧ Hid (wx.ownsRow w1.heap.size 5 1 u4 g (u8s (headTo U g))) ∧ Hid (wx.ownsRow w1.heap.size 5 1 u5 (usedRest U g).length (u8s (usedRest U g))) ∧ Below w1.heap.size w1 wx) (fun _ _ sb _ => 16 * g + 16 - (intOf sb).toNat)
      case atStart => exact ⟨0, by omega, by go_num, rfl, World.ownsRow_nil _ _ _ _, hidden (apart_nil _), hidden (apart_nil _), hidden hownH, hidden hownR, hbl⟩
      case round =>
        obtain ⟨j, hj, rfl, rfl, hownS, HApH, HApR, HH, HR, hblx⟩ := hrel
        have hszx := hblx.size
        clear hownH hownR hbl
        by_cases hlt2 : j < 16
        · have hI : ((16 * g + j : Nat) : Int) < 16 * (g : Int) + 16 := by omega
          have d0 := (own_bel HCH.out hblx).cellAt (16 * g + j) (by omega)
          rw [nats_get _ _ _ (by omega)] at d0
          have hf2 := HF2.out (16 * g + j)
          have HFv := hidden (HF.out (16 * g + j))
          have HMS := hidden (memTo_succ U g j)
          have HHS := hidden (hasTo_succ U g j)
          have hh2 := hasTo_lt U g j
          rw [← HFv.out] at HMS HHS
          have HBP : Hid (16 * g + j < 256) := hidden (by omega)
          obtain ⟨b, hb⟩ : ∃ b, 16 * g + j = b := ⟨_, rfl⟩
          have HBE := hidden hb
          rw [hb] at d0 hf2 HFv HMS HHS hI HBP ⊢
          obtain ⟨x, hx⟩ : ∃ x, f b = x := ⟨_, rfl⟩
          have HFX := hidden hx
          obtain ⟨h, hh⟩ : ∃ h, hasTo U g j = h := ⟨_, rfl⟩
          rw [hx] at d0 hf2 HMS HHS
          rw [hh] at HHS hh2 ⊢
          have hb256 := HBP.out
          have hor := or_bit h x hh2 hf2
          have hx256 : (x : Int) % 256 = x := by omega
          clear hb hx hh
          go_wp2_with (at_builtin; refine wpList_append_own_at _ rfl _ _ 22 rfl w1.heap.size 5 i0 (.int .u8 0) 1 1 Try.underlying22 hi hz0 hz1 hz2 rfl (by decide) _ _ _ rfl (hownS.alloc _) ⟨wr.heap.size, 0, none⟩ 1 1 [.int .u8 (x : Int)] rfl rfl ?c1 ?c2 ?c3 ?c4 ?c5 ?_)
          case c1 => exact cell_one_new _ _ _
          case c2 => exact fun u hu => by simp at hu; subst hu; rfl
          case c3 => unfold maxLen; omega
          case c4 => omega
          case c5 => first | omega | (simp; omega)
          intro v3 w3 hown3 hgrow _ hloc
          have hlo := fun g hg => (hownS.lt g hg).1
          have hb3 := bel_app hblx hszx hownS hgrow
          have HA3 : Hid (Apart v3 u4) := hidden (apart_app1 HApH.out HH.out hloc)
          have HR3 : Hid (Apart v3 u5) := hidden (apart_app1 HApR.out HR.out hloc)
          have HH3 := hidden (apart_kept HApH.out (HH.out.alloc (.cells #[.int .u8 (x : Int)] 5)) hgrow)
          have HRR3 := hidden (apart_kept HApR.out (HR.out.alloc (.cells #[.int .u8 (x : Int)] 5)) hgrow)
          have d3 := (own_bel HCH.out hb3).cellAt b (by omega)
          rw [nats_get _ _ _ hb256] at d3
          rw [HFX.out] at d3
          rw [← u8s_snoc, ← HMS.out] at hown3
          clear hownS hgrow hloc hlo d0 hblx
          go_wp2
          go_roundw
          case rel => exact ⟨j + 1, by omega, by rw [show 16 * g + (j + 1) = b + 1 by have := HBE.out; omega]; go_num, by rw [HHS.out], hown3, HA3, HR3, HH3, HRR3, hb3⟩
          case measure => simp [intOf]; have := HBE.out; omega
        · have hj16 : j = 16 := by omega
          subst hj16
          have hI : ¬ ((16 * g + 16 : Nat) : Int) < 16 * (g : Int) + 16 := by omega
          have HE : Hid (hasTo U g 16 = has16 U g ∧ memTo U g 16 = mem16 U g) := hidden ⟨rfl, rfl⟩
          rw [HE.out.2] at hownS
          rw [HE.out.1]
          have hownH := HH.out
          have hh2 := has16_lt U g
          have HHS := hidden (headTo_succ U g)
          have HRS := hidden (usedRest_succ U g)
          have HG0 : Hid (grp16 U g = if has16 U g = 1 then mem16 U g else []) := hidden rfl
          have HML := hidden (mem16_len U g)
          obtain ⟨h, hh⟩ : ∃ h, has16 U g = h := ⟨_, rfl⟩
          rw [hh] at hh2 HHS HG0 ⊢
          clear hh
          obtain ⟨gs, cs, rfl⟩ := Joins.ownsRow_form hownS (by omega)
          have hgs := hownS.lt gs rfl
          go_wp2_with (at_builtin; refine wpList_append_own_at _ rfl _ _ 22 rfl w1.heap.size 5 i0 (.int .u8 0) 1 1 Try.underlying22 hi hz0 hz1 hz2 rfl (by decide) _ _ _ rfl (hownH.alloc _) ⟨wr.heap.size, 0, none⟩ 1 1 [.int .u8 (h : Int)] rfl rfl ?f1 ?f2 ?f3 ?f4 ?f5 ?_)
          case f2 => first | rfl | exact fun u hu => by simp at hu; subst hu; rfl
          case f3 => unfold maxLen; omega
          case f4 => omega
          case f5 => first | omega | (simp; omega)
          intro v3 w3 hown3 hgrow _ hloc
          have hb3 := bel_app hblx hszx hownH hgrow
          have hs3 := hb3.size
          have HA3 : Hid (Apart v3 u5) := hidden (apart_app1 HAp.out HR.out hloc)
          have hR3 := apart_kept HAp.out (HR.out.alloc (.cells #[.int .u8 (h : Int)] 5)) hgrow
          have HAS : Hid (Apart v3 (.slice (some ⟨gs, 0, none⟩) 16 cs)) := hidden (apart_app1 HApH.out.symm hownS hloc)
          have hS3 := apart_kept HApH.out.symm (hownS.alloc (.cells #[.int .u8 (h : Int)] 5)) hgrow
          rw [← u8s_snoc, ← HHS.out] at hown3
          have HH3 := hidden hown3
          clear hownS hownH hgrow hloc hown3 HH HR hblx
          have HRl := HRL.out
          by_cases h1 : h = 1
          · subst h1
            have HRS2 : Hid (usedRest U (g + 1) = usedRest U g ++ mem16 U g) := hidden (by rw [HRS.out, HG0.out, if_pos rfl])
            go_wp2_with (at_builtin; refine wpList_append_own_at _ rfl _ _ 22 rfl w1.heap.size 5 i0 (.int .u8 0) 1 1 Try.underlying22 hi hz0 hz1 hz2 rfl (by decide) _ _ _ rfl hR3 ⟨gs, 0, none⟩ 16 cs (u8s (mem16 U g)) rfl ?d0 ?d1 ?d2 ?d3 ?d4 ?d5 ?_)
            case d0 => rw [u8s_len, HML.out]
            case d1 => exact fun j u hu => (hS3.cellAt j (by have := (List.getElem?_eq_some_iff.1 hu).1; rw [u8s_len, HML.out] at this; omega)).trans hu
            case d2 => exact u8s_one _
            case d3 => unfold maxLen; omega
            case d4 => omega
            intro v4 w4 hown4 hgrow4 _ hloc4
            have hb4 : Below w1.heap.size w1 w4 := hb3.grown hgrow4 (by omega) (fun g hg => (hR3.lt g hg).1)
            have hA4 : Apart v3 v4 := (apart_app HA3.out.symm HH3.out hloc4).symm
            have hH4 := apart_kept HA3.out.symm HH3.out hgrow4
            rw [← u8s_append, ← HRS2.out] at hown4
            have HO4 : Hid (w4.ownsRow w1.heap.size 5 1 v4 (usedRest U (g + 1)).length (u8s (usedRest U (g + 1)))) := hidden (by rw [show (usedRest U (g + 1)).length = (usedRest U g).length + 16 by rw [HRS2.out, List.length_append, HML.out]]; exact hown4)
            clear hown4 hgrow4 hloc4 hR3 hS3 hb3
            go_wp2
            go_roundw
            case rel => exact ⟨g + 1, by omega, by go_num, hH4, HO4.out, hA4, hb4⟩
            case measure => simp [intOf]; omega
          · have h0 : h = 0 := by omega
            subst h0
            have HRS2 : Hid (usedRest U (g + 1) = usedRest U g) := hidden (by rw [HRS.out, HG0.out, if_neg (by omega), List.append_nil])
            go_wp2
            go_roundw
            case rel => exact ⟨g + 1, by omega, by go_num, HH3.out, by rw [HRS2.out]; exact hR3, HA3.out, hb3⟩
            case measure => simp [intOf]; omega
    · have hg16 : g = 16 := by omega
      subst hg16
      have hrl := HRP.out
      have HRl := HRL.out
      obtain ⟨m, hm⟩ : ∃ m, (usedRest U 16).length = m := ⟨_, rfl⟩
      have HM := hidden hm
      rw [hm] at hrl HRl hownR
      clear hm
      obtain ⟨gr, cr, rfl⟩ := Joins.ownsRow_form hownR (by omega)
      go_wp2_with (at_builtin; refine wpList_append_own_at _ rfl _ _ 22 rfl w1.heap.size 5 i0 (.int .u8 0) 1 1 Try.underlying22 hi hz0 hz1 hz2 rfl (by decide) _ _ _ rfl hownH ⟨gr, 0, none⟩ m cr (u8s (usedRest U 16)) rfl ?e0 ?e1 ?e2 ?e3 ?e4 ?e5 ?_)
      case e0 => rw [u8s_len, HM.out, Nat.mul_one]
      case e1 => exact fun j u hu => hownR.cells rfl j u hu
      case e2 => exact u8s_one _
      case e3 => unfold maxLen; omega
      case e4 => omega
      case e5 => omega
      intro v4 w4 hown4 hgrow4 _ _
      have hb4 : Below w1.heap.size w1 w4 := hbl.grown hgrow4 (by omega) (fun g hg => (hownH.lt g hg).1)
      rw [← u8s_append, ← HB.out] at hown4
      have HL4 : Hid ((usedBits U).length = 16 + m) := hidden (by rw [HB.out, List.length_append, headTo_len, HM.out])
      go_wp2
      go_ret
      exact ⟨_, rfl, by rw [HL4.out]; exact Joins.ownsRow_le hown4 hs1, bel_then hb4 hs1 b1⟩

/-- What a PutX of chapter 7 answers, yes and no: the bits closed, or nothing. -/
theorem specPutUsed_yes (s : ByteArray) (w : World) (hs : s.size ≤ 1048576) (hok : setOk (bytesOf s) = true) :
    Calls Try.prog 16 #[.string s] w fun e w' => ∃ D, Packs D (usedBits (bytesOf s)) ∧ e = .returned (.tuple #[.agg #[.string (strOf D), .int .i64 ((usedBits (bytesOf s)).length : Int)], .bool true]) ∧ Below w.heap.size w w' := by
  have bb : Below w.heap.size w (w.alloc (.cells #[.string ⟨#[]⟩, .int .i64 0] 25)) := (Below.refl _ _).alloc (Nat.le_refl _) _
  have hR := Has.fresh w 25 #[.string ⟨#[]⟩, .int .i64 0]
  have K0 := hidden (fun W => l7used_any s W hs)
  rw [hok] at K0
  have K1 := hidden (fun W => l7put_any s W hs hok)
  have hle := usedBits_len (bytesOf s)
  have K2 := hidden (fun (W : World) v base h => l1close_own (usedBits (bytesOf s)) (usedBits_lt _) v base W (by omega) h)
  obtain ⟨P, hP⟩ : ∃ P, usedBits (bytesOf s) = P := ⟨_, rfl⟩
  rw [hP] at K1 K2 ⊢
  clear hP hle
  go_enter Try.func16, Try.ntmps16
  go_wp2_with fail
  refine (K0.out _).mono ?_
  rintro e w2 ⟨rfl, b2⟩
  replace bb := bel_then b2 bb.size bb
  replace hR := hR.below b2 hR.lt
  have hs2 := bb.size
  clear b2
  go_wp2_with fail
  refine (K1.out _).mono ?_
  rintro e w3 ⟨v, rfl, hown, b3⟩
  replace bb := bel_then b3 hs2 bb
  replace hR := hR.below b3 hR.lt
  have hs3 := bb.size
  clear b3
  go_wp2_with fail
  refine (K2.out _ _ _ hown).mono ?_
  rintro e w4 ⟨D, hD, rfl, b4⟩
  replace bb := bel_then b4 hs3 bb
  replace hR := hR.below b4 hR.lt
  have e0 := hR.cell 0
  have e1 := hR.cell 1
  have g0 := hR.free 0
  have g1 := hR.free 1
  simp at e0 e1
  have hs4 := bb.size
  clear b4 hown hR
  go_wp2
  refine bodyPost_ret (v := .tuple #[.agg #[.string (strOf D), .int .i64 (P.length : Int)], .bool true]) (by simp [results, Try.results16, go_sem, e0, e1, g0, g1]) rfl ⟨D, hD, rfl, ?_⟩
  repeat (first | exact Below.refl _ _ | assumption | refine Below.alloc ?_ (by (try simp); (try omega)) _ | refine Below.setCell ?_ (by (try simp); (try omega)) _ | refine Below.drew ?_ | refine bel_then (by assumption) (by (try simp); (try omega)) ?_)
theorem specPutUsed_no (s : ByteArray) (w : World) (hs : s.size ≤ 1048576) (hok : setOk (bytesOf s) = false) :
    Calls Try.prog 16 #[.string s] w fun e w' => e = .returned (.tuple #[.agg #[.string ⟨#[]⟩, .int .i64 0], .bool false]) ∧ Below w.heap.size w w' := by
  have bb : Below w.heap.size w (w.alloc (.cells #[.string ⟨#[]⟩, .int .i64 0] 25)) := (Below.refl _ _).alloc (Nat.le_refl _) _
  have hR := Has.fresh w 25 #[.string ⟨#[]⟩, .int .i64 0]
  have K0 := hidden (fun W => l7used_any s W hs)
  rw [hok] at K0
  go_enter Try.func16, Try.ntmps16
  go_wp2_with fail
  refine (K0.out _).mono ?_
  rintro e w2 ⟨rfl, b2⟩
  replace bb := bel_then b2 bb.size bb
  replace hR := hR.below b2 hR.lt
  have hs2 := bb.size
  have e0 := hR.cell 0
  have e1 := hR.cell 1
  have g0 := hR.free 0
  have g1 := hR.free 1
  simp at e0 e1
  clear b2 hR
  go_wp2
  refine bodyPost_ret (v := .tuple #[.agg #[.string ⟨#[]⟩, .int .i64 0], .bool false]) (by simp [results, Try.results16, go_sem, e0, e1, g0, g1]) rfl ⟨rfl, ?_⟩
  repeat (first | exact Below.refl _ _ | assumption | refine Below.alloc ?_ (by (try simp); (try omega)) _ | refine Below.setCell ?_ (by (try simp); (try omega)) _ | refine Below.drew ?_ | refine bel_then (by assumption) (by (try simp); (try omega)) ?_)
end Go.Proofs.Yteaohgipndmciaa
namespace Go.Proofs.Yteaohgipndmciaa
set_option linter.unusedVariables false
set_option linter.unusedSimpArgs false
open Go.RowKit

theorem gam_ge {s : ByteArray} {a k j n : Nat} (h : Gam s a j n) (hz : ∀ i, i < k → bit s (a + i) = 0) : k ≤ j := by
  rcases Nat.lt_or_ge j k with hl | hl
  · have := hz j hl
    have := h.2.2.2.1
    omega
  · exact hl
/-- What reading a number answers, the reader being in block b. -/
def L6Post (s : ByteArray) (at0 b : Nat) (T : TypeId) (w : World) (e : Ending) (w' : World) : Prop :=
  ((∃ k n : Nat, Gam s at0 k n ∧ e = .returned (.int .i64 n) ∧ Has w' b T #[.string s, .int .i64 ((at0 + (2 * k + 1) : Nat) : Int)]) ∨
   ((∀ k n, ¬ Gam s at0 k n) ∧ e = .returned (.int .i64 0))) ∧ Only b w w'
theorem l6post_no {s : ByteArray} {at0 b : Nat} {T : TypeId} {w w' : World} (h : ∀ k n, ¬ Gam s at0 k n) (ho : Only b w w') : L6Post s at0 b T w (.returned (.int .i64 0)) w' := ⟨.inr ⟨h, rfl⟩, ho⟩
/-- Where the reader stands, and what was read last. -/
def L6At (s : ByteArray) (at0 b : Nat) (T : TypeId) (k : Nat) (x : Int) (w : World) : Prop :=
  (at0 + k + 1 ≤ 8 * s.size ∧ x = (bit s (at0 + k) : Int) ∧ Has w b T #[.string s, .int .i64 ((at0 + k + 1 : Nat) : Int)]) ∨ (8 * s.size < at0 + k + 1 ∧ x = -1 ∧ ∃ c : Int, Has w b T #[.string s, .int .i64 c])
end Go.Proofs.Yteaohgipndmciaa
namespace Go.Proofs.Yteaohgipndmciaa
set_option linter.unusedVariables false
set_option linter.unusedSimpArgs false
open Go.RowKit

end Go.Proofs.Yteaohgipndmciaa
