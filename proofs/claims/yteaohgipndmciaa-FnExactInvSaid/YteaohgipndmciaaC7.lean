/- Chapter 7: counts, the bytes used, by count (the model). -/
import Derived.Test.YteaohgipndmciaaAlph
import Derived.Test.YteaohgipndmciaaStr
import Derived.Test.YteaohgipndmciaaRet
import Derived.Test.YteaohgipndmciaaNats
import Derived.Maps.AppendAt
import Derived.Deep.LoopGhost
import Derived.BigQuiet
import Derived.Deep.QuietTactic
namespace Go.Proofs.Yteaohgipndmciaa
set_option linter.unusedVariables false
set_option linter.unusedSimpArgs false
open Go.RowKit

theorem bytes_at (s : ByteArray) (k : Nat) (h : k < s.size) : (bytesOf s).take (k + 1) = (bytesOf s).take k ++ [s[k].toNat] := by
  have hk : k < (bytesOf s).length := by rw [bytesOf_len]; exact h
  rw [List.take_succ_eq_append_getElem hk]
  congr 2
  have := bytesOf_get s k
  rw [List.getD_eq_getElem?_getD, List.getElem?_eq_getElem hk, Option.getD_some] at this
  rw [this, byteAt_get _ _ h]
theorem nats_up (s : ByteArray) (k : Nat) (h : k < s.size) : nats 256 (fun b => ((bytesOf s).take (k + 1)).count b) = (nats 256 (fun b => ((bytesOf s).take k).count b)).set s[k].toNat (.int .i64 ((((bytesOf s).take k).count s[k].toNat + 1 : Nat) : Int)) := by
  rw [nats_set]
  refine nats_congr fun t ht => ?_
  rw [bytes_at s k h, List.count_append]
  by_cases e : t = s[k].toNat
  · subst e; simp
  · simp [e, List.count_cons, Ne.symm e]
set_option maxHeartbeats 1000000 in
set_option maxRecDepth 100000 in
theorem l7counts_any (s : ByteArray) (w : World) (hs : s.size ≤ 1048576) :
    Calls Try.prog 77 #[.string s] w fun e w' => e = .returned (.slice (some ⟨w.heap.size, 0, none⟩) 256 256) ∧ w'.ownsRow w.heap.size 3 1 (.slice (some ⟨w.heap.size, 0, none⟩) 256 256) 256 (nats 256 (fun b => (bytesOf s).count b)) ∧ Below w.heap.size w w' := by
  obtain ⟨j0, ji, jz0, jz1, jz2⟩ := info_parts Try.infoInt
  have HALL : Hid ((bytesOf s).take s.size = bytesOf s) := hidden (by rw [← bytesOf_len]; exact List.take_length)
  go_enter Try.func77, Try.ntmps77
  go_wp2_with (at_make; refine wpList_make_full _ rfl _ _ 39 rfl w.heap.size 3 j0 (.int .i64 0) 1 Try.underlying39 ji jz0 jz1 .i64 .i64 _ _ 256 rfl rfl rfl rfl ?cb1 ?cb2 ?cb3 ?_)
  case cb1 => rw [jz2]; omega
  case cb2 => unfold maxLen; omega
  case cb3 => exact Nat.le_refl _
  intro w1 hown hgrow
  have hbl : Below w.heap.size w w1 := ⟨hgrow.os, hgrow.tape, hgrow.output, hgrow.size, fun i hi => hgrow.block i hi (by simp)⟩
  rw [made_nats] at hown
  clear hgrow
  go_wp2
  go_loopw [4] (fun si wr => ∃ k : Nat, k ≤ s.size ∧ si = .int .i64 k ∧ wr.ownsRow w.heap.size 3 1 (.slice (some ⟨w.heap.size, 0, none⟩) 256 256) 256 (nats 256 (fun b => ((bytesOf s).take k).count b)) ∧ Below w.heap.size w wr) (fun si _ => s.size - (intOf si).toNat)
  case atStart => exact ⟨0, by omega, rfl, by simpa using hown, hbl⟩
  case round =>
    obtain ⟨k, hk, rfl, hownD, hblD⟩ := hrel
    by_cases hlt : k < s.size
    · have hx : s[k].toNat < 256 := UInt8.toNat_lt _
      have HUP := hidden (nats_up s k hlt)
      have d0 := hownD.cellAt s[k].toNat (by omega)
      rw [nats_get _ _ _ hx] at d0
      have f0 := hownD.frozenAt s[k].toNat
      have hc : ((bytesOf s).take k).count s[k].toNat ≤ k := by
        have := List.count_le_length (a := s[k].toNat) (l := (bytesOf s).take k)
        rw [List.length_take] at this; omega
      obtain ⟨c, hcc⟩ : ∃ c, ((bytesOf s).take k).count s[k].toNat = c := ⟨_, rfl⟩
      rw [hcc] at hc d0 HUP
      clear hcc
      go_wp2
      go_roundw
      case rel => exact ⟨k + 1, by omega, by go_num, by rw [HUP.out]; exact (hownD.stored _ _).1, hblD.setCell (Nat.le_refl _) _⟩
      case measure => simp [intOf]; omega
    · have hkn : k = s.size := by omega
      subst hkn
      rw [HALL.out] at hownD
      go_wp2
      go_ret
      exact ⟨rfl, hownD, hblD⟩

theorem run_string_nil7 (w : World) : (convert 22 9 (.slice none 0 0)).run Try.prog w = .ok (.string ⟨#[]⟩) w := by
  rw [run_convert_bytes_string w _ _ _ _ _ _ Try.underlying22 Try.underlying5 Try.underlying9]
  rfl
/-- 'string(b)' of a row of one's own, a nil one too. -/
theorem run_str {w : World} {base n : Nat} {v : Value} {D : List Nat} (h : w.ownsRow base 5 1 v n (u8s D)) : (convert 22 9 v).run Try.prog w = .ok (.string (strOf D)) w := by
  have hl : D.length = n := by have := h.1; rw [u8s_len] at this; omega
  rcases h.2 with ⟨hv, h0⟩ | ⟨gd, cp, cur, hv, _⟩
  · subst hv
    have : D = [] := List.length_eq_zero_iff.1 (by omega)
    subst this
    exact run_string_nil7 w
  · subst hv
    exact run_string_own (P := Try.prog) (src := 22) (dst := 9) Try.underlying22 Try.underlying5 Try.underlying9 h hl
/-- Where one element has been appended to a row of one's own behind a world. -/
theorem bel_app {B : Nat} {a wr w3 : World} {v : Value} {n : Nat} {E : TypeId} {S : Nat} {xs : List Value} {cs : Array Value} {T : TypeId} (h : Below B a wr) (hB : B ≤ wr.heap.size) (hown : wr.ownsRow B E S v n xs) (hg : (wr.alloc (.cells cs T)).grownBy w3 v.ownBlock) : Below B a w3 :=
  (h.alloc hB _).grown hg (by simp; omega) (fun g hg => (hown.lt g hg).1)
set_option maxHeartbeats 1000000 in
set_option maxRecDepth 100000 in
theorem specUsed_any (s : ByteArray) (w : World) (hs : s.size ≤ 1048576) :
    Calls Try.prog 25 #[.string s] w fun e w' => e = .returned (.string (strOf (usedL (bytesOf s)))) ∧ Below w.heap.size w w' := by
  obtain ⟨i0, hi, hz0, hz1, hz2⟩ := info_parts Try.info5
  have K := hidden (fun W : World => l7counts_any s W hs)
  obtain ⟨L, hL⟩ : ∃ L, bytesOf s = L := ⟨_, rfl⟩
  rw [hL] at K ⊢
  clear hL
  have HS : Hid (∀ k, usedTo L (k + 1) = if 0 < L.count k then usedTo L k ++ [k] else usedTo L k) := hidden (usedTo_succ L)
  have HE : Hid (usedTo L 256 = usedL L) := hidden rfl
  obtain ⟨f, hf⟩ : ∃ f : Nat → Nat, (fun b => L.count b) = f := ⟨_, rfl⟩
  have HF : Hid (∀ k, f k = L.count k) := hidden (fun k => by rw [← hf])
  rw [hf] at K
  clear hf
  go_enter Try.func25, Try.ntmps25
  go_wp2_with fail
  refine (K.out _).mono ?_
  rintro e w1 ⟨rfl, hC, b1⟩
  have hs1 := b1.size
  go_wp2
  go_loopw [4, 5] (fun v si wr => ∃ k : Nat, k ≤ 256 ∧ si = .int .i64 k ∧ wr.ownsRow w1.heap.size 5 1 v (usedTo L k).length (u8s (usedTo L k)) ∧ Below w1.heap.size w1 wr) (fun _ si _ => 256 - (intOf si).toNat)
  case atStart => exact ⟨0, by omega, rfl, World.ownsRow_nil _ _ _ _, Below.refl _ _⟩
  case round =>
    obtain ⟨k, hk, rfl, hown, hbl⟩ := hrel
    have hsz := hbl.size
    by_cases hlt : k < 256
    · have hle := usedTo_len L k
      have d0 := (own_bel hC hbl).cellAt k hlt
      rw [nats_get _ _ _ hlt] at d0
      have hk8 : (k : Int) % 256 = k := by omega
      by_cases hc : 0 < f k
      · have HN : Hid (usedTo L (k + 1) = usedTo L k ++ [k]) := hidden (by rw [HS.out, if_pos (by rw [← HF.out]; exact hc)])
        go_wp2_with (at_builtin; refine wpList_append_own _ rfl _ _ 22 rfl w1.heap.size 5 i0 (.int .u8 0) 1 1 Try.underlying22 hi hz0 hz1 hz2 rfl (by decide) _ _ _ rfl (hown.alloc _) ⟨wr.heap.size, 0, none⟩ 1 1 [.int .u8 (k : Int)] rfl rfl ?c1 ?c2 ?c3 ?c4 ?c5 ?_)
        case c1 => exact cell_one_new _ _ _
        case c2 => exact fun x hx => by simp at hx; subst hx; rfl
        case c3 => unfold maxLen; omega
        case c4 => omega
        case c5 => simp; omega
        intro v' w3 hown' hgrow _
        have hb3 := bel_app hbl hsz hown hgrow
        rw [← u8s_snoc, ← HN.out] at hown'
        have HO : Hid (w3.ownsRow w1.heap.size 5 1 v' (usedTo L (k + 1)).length (u8s (usedTo L (k + 1)))) := hidden (by have := hown'; rwa [show (usedTo L k).length + 1 = (usedTo L (k + 1)).length by rw [HN.out]; simp] at this)
        clear hown hgrow hbl hown'
        go_wp2
        go_roundw
        case rel => exact ⟨k + 1, by omega, by go_num, HO.out, hb3⟩
        case measure => simp [intOf]; omega
      · have HN : Hid (usedTo L (k + 1) = usedTo L k) := hidden (by rw [HS.out, if_neg (by rw [← HF.out]; exact hc)])
        have hc0 : f k = 0 := by omega
        go_wp2
        go_roundw
        case rel => exact ⟨k + 1, by omega, by go_num, by rw [HN.out]; exact hown, hbl⟩
        case measure => simp [intOf]; omega
    · have hkn : k = 256 := by omega
      subst hkn
      rw [HE.out] at hown
      have hrun := run_str hown
      go_wp2
      go_ret
      exact ⟨rfl, bel_then hbl hs1 b1⟩

set_option maxHeartbeats 2000000 in
set_option maxRecDepth 100000 in
theorem specByCount_any (s : ByteArray) (w : World) (hs : s.size ≤ 1048576) :
    Calls Try.prog 26 #[.string s] w fun e w' => ∃ R, Ranked (bytesOf s) R ∧ e = .returned (.string (strOf R)) ∧ Below w.heap.size w w' := by
  obtain ⟨i0, hi, hz0, hz1, hz2⟩ := info_parts Try.info5
  have K := hidden (fun W : World => l7counts_any s W hs)
  have HB := hidden (byt_bytesOf s)
  obtain ⟨L, hL⟩ : ∃ L, bytesOf s = L := ⟨_, rfl⟩
  rw [hL] at K HB ⊢
  clear hL
  rw [← remF_nil] at K
  go_enter Try.func26, Try.ntmps26
  go_wp2_with fail
  refine (K.out _).mono ?_
  rintro e w1 ⟨rfl, hC, b1⟩
  have hs1 := b1.size
  obtain ⟨c0, hc0⟩ : ∃ c0, w.heap.size = c0 := ⟨_, rfl⟩
  rw [hc0] at hC b1 ⊢
  have hlt0 : c0 < w1.heap.size := (hC.lt c0 rfl).2
  go_wp2
  go_loopg [4, 5, 6] 257 (fun gk v _ _ wr => ∃ R : List Nat, Hid (Sel L R) ∧ Hid (R.length + gk = 257) ∧ R.length ≤ 256 ∧ wr.ownsRow w1.heap.size 5 1 v R.length (u8s R) ∧ wr.ownsRow c0 3 1 (.slice (some ⟨c0, 0, none⟩) 256 256) 256 (nats 256 (remF L R)) ∧ Below c0 w1 wr ∧ w1.heap.size ≤ wr.heap.size)
  case atStart => exact ⟨[], hidden (sel_nil L), hidden rfl, by simp, World.ownsRow_nil _ _ _ _, hC, Below.refl _ _, Nat.le_refl _⟩
  case round =>
    obtain ⟨R, HSel, HG, hRl, hown, hcnt, hbl, hsz⟩ := hrel
    obtain ⟨f, hf⟩ : ∃ f : Nat → Nat, remF L R = f := ⟨_, rfl⟩
    have HF := hidden hf
    rw [hf] at hcnt
    clear hf hC K
    go_wp2
    go_loopw [5, 6] (fun sb sk wq => ∃ b k : Nat, sb = .int .i64 b ∧ sk = .int .i64 k ∧ b < k ∧ 1 ≤ k ∧ k ≤ 256 ∧ Hid (∀ x, x < k → f x ≤ f b ∧ (f x = f b → b ≤ x)) ∧ Hid (∃ q, wq = wr.drewN q)) (fun _ sk _ => 256 - (intOf sk).toNat)
    case atStart => exact ⟨0, 1, rfl, rfl, by omega, by omega, by omega, hidden (fun x hx => by rw [show x = 0 by omega]; exact ⟨Nat.le_refl _, fun _ => Nat.le_refl _⟩), hidden ⟨0, rfl⟩⟩
    case round =>
      obtain ⟨b, k, rfl, rfl, hb, hk1, hk, HM, HQ⟩ := hrel
      obtain ⟨q, rfl⟩ := HQ.out
      have db := hcnt.cellAt b (by omega)
      rw [nats_get _ _ _ (by omega)] at db
      by_cases hlt : k < 256
      · have dk := hcnt.cellAt k (by omega)
        rw [nats_get _ _ _ hlt] at dk
        obtain ⟨x, hx⟩ : ∃ x, f k = x := ⟨_, rfl⟩
        obtain ⟨y, hy⟩ : ∃ y, f b = y := ⟨_, rfl⟩
        have HX := hidden hx
        have HY := hidden hy
        rw [hx] at dk
        rw [hy] at db
        clear hx hy
        by_cases hgt : y < x
        · have hgd : decide ((y : Int) < x) = true := by simp; omega
          have hgi : (y : Int) < x := by omega
          go_wp2
          go_quiet (fail)
          go_wp2
          go_roundw
          case rel => exact ⟨k, k + 1, rfl, by go_num, by omega, by omega, by omega, hidden (fun z hz => by
              have h1 := HX.out; have h2 := HY.out
              rcases Nat.lt_or_ge z k with h | h
              · have := HM.out z h; exact ⟨by omega, fun e => by omega⟩
              · obtain rfl : z = k := by omega
                exact ⟨Nat.le_refl _, fun _ => Nat.le_refl _⟩), hidden ⟨_, rfl⟩⟩
          case measure => simp [intOf]; omega
        · have hgd : decide ((y : Int) < x) = false := by simp; omega
          have hgi : ¬ (y : Int) < x := by omega
          go_wp2
          go_quiet (fail)
          go_wp2
          go_roundw
          case rel => exact ⟨b, k + 1, rfl, by go_num, by omega, by omega, by omega, hidden (fun z hz => by
              have h1 := HX.out; have h2 := HY.out
              rcases Nat.lt_or_ge z k with h | h
              · exact HM.out z h
              · obtain rfl : z = k := by omega
                exact ⟨by omega, fun e => by omega⟩), hidden ⟨_, rfl⟩⟩
          case measure => simp [intOf]; omega
      · have hk256 : k = 256 := by omega
        subst hk256
        by_cases hz : f b = 0
        · have HR : Hid (Ranked L R) := hidden (by
            have h := HM.out; rw [← HF.out] at h hz
            exact sel_end HB.out HSel.out h hz)
          have hrun := run_str (w := wr.drewN q) hown
          rw [hz] at db
          go_wp2
          go_ret
          exact ⟨R, HR.out, rfl, by rw [hc0]; exact b1.trans (bel_drewN hbl q)⟩
        · have hp : 0 < f b := by omega
          have HS2 : Hid (Sel L (R ++ [b]) ∧ R.length + 1 ≤ 256) := hidden (by
            have h := HM.out; rw [← HF.out] at h hp
            exact sel_step HB.out HSel.out h hp)
          have HF2 : Hid (nats 256 (remF L (R ++ [b])) = (nats 256 f).set b (.int .i64 ((0 : Nat) : Int))) := hidden (by
            rw [nats_set]
            refine nats_congr fun t _ => ?_
            rw [remF_snoc, HF.out])
          have hb8 : (b : Int) % 256 = b := by omega
          have hlen := HS2.out.2
          have hnz : ¬ (f b : Int) = 0 := by omega
          obtain ⟨y, hy⟩ : ∃ y, f b = y := ⟨_, rfl⟩
          rw [hy] at db hnz
          clear hy hz hp
          go_wp2_with (at_builtin; refine wpList_append_own _ rfl _ _ 22 rfl w1.heap.size 5 i0 (.int .u8 0) 1 1 Try.underlying22 hi hz0 hz1 hz2 rfl (by decide) _ _ _ rfl (hown.alloc _) ⟨wr.heap.size, 0, none⟩ 1 1 [.int .u8 (b : Int)] rfl rfl ?c1 ?c2 ?c3 ?c4 ?c5 ?_)
          case c1 => exact cell_one_new _ _ _
          case c2 => exact fun x hx => by simp at hx; subst hx; rfl
          case c3 => unfold maxLen; omega
          case c4 => omega
          case c5 => simp; omega
          intro v' w3 hown' hgrow _
          have hlo := fun g hg => (hown.lt g hg).1
          have hb3 : Below c0 w1 w3 := ((bel_drewN hbl q).alloc (by simp; omega) _).grown hgrow (by simp; omega) (fun g hg => by have := hlo g hg; omega)
          have hc3 : w3.ownsRow c0 3 1 (.slice (some ⟨c0, 0, none⟩) 256 256) 256 (nats 256 f) := World.ownsRow.kept (World.ownsRow.alloc (w := wr.drewN q) hcnt _) hgrow (.inr (fun e => by have := hlo c0 e.symm; omega))
          have hs3 : w1.heap.size ≤ w3.heap.size := by have := hgrow.size; simp at this; omega
          rw [← u8s_snoc] at hown'
          have d3 := hc3.cellAt b (by omega)
          rw [nats_get _ _ _ (by omega)] at d3
          have f3 := hc3.frozenAt b
          clear hown hcnt hgrow hlo db
          go_wp2
          go_roundg (gk - 1)
          case measure => have := HG.out; omega
          case rel => exact ⟨R ++ [b], hidden HS2.out.1, hidden (by have := HG.out; simp; omega), by simp; omega, by simpa using own_away hown' (p := ⟨c0, b, none⟩) (by simpa using hlt0) _, by rw [HF2.out]; exact (hc3.stored b _).1, hb3.setCell (Nat.le_refl _) _, by simpa using hs3⟩
end Go.Proofs.Yteaohgipndmciaa
