/- Merged: C7, C7B, C7C, C7D, C6G, I7C. -/
import Derived.Test.YtpjgoikdfkaefaaGreatQZ3
import Derived.Test.YtpjgoikdfkaefaaGreatQZ12
import Derived.Test.YtpjgoikdfkaefaaGreatQZ1
import Derived.Test.YtpjgoikdfkaefaaGreatQZ5
import Derived.Maps.AppendAt
import Derived.Deep.LoopGhost
import Derived.BigQuiet
import Derived.Deep.QuietTactic
import Derived.Lib.Strings
import Derived.Lib.SmallJoins
import Derived.RegionTactic
import Derived.ChangeAlike
import Derived.Carry
namespace Go.Proofs.YtpjgoikdfkaefaaGreat
set_option linter.unusedVariables false
set_option linter.unusedSimpArgs false
open Go.RowKit

theorem bytes_at (s : ByteArray) (k : Nat) (h : k < s.size) : (bytesOf s).take (k + 1) = (bytesOf s).take k ++ [s[k].toNat] := by
  have hk : k < (bytesOf s).length := by rw [bytesOf_len]; exact h
  rw [List.take_succ_eq_append_getElem hk]
  congr 2
  have := bytesOf_get s k
  rw [List.getD_eq_getElem?_getD, List.getElem?_eq_getElem hk, Option.getD_some] at this
  rw [this, byteAt_get _ _ h]
theorem nats_up (s : ByteArray) (k : Nat) (h : k < s.size) : nats 256 (fun b => ((bytesOf s).take (k + 1)).count b) = (nats 256 (fun b => ((bytesOf s).take k).count b)).set s[k].toNat (.int .i64 ((((bytesOf s).take k).count s[k].toNat + 1 : Nat) : Int)) := by
  rw [nats_set]
  refine nats_congr fun t ht => ?_
  rw [bytes_at s k h, List.count_append]
  by_cases e : t = s[k].toNat
  · subst e; simp
  · simp [e, List.count_cons, Ne.symm e]
set_option maxHeartbeats 1000000 in
set_option maxRecDepth 100000 in
theorem l7counts_any (s : ByteArray) (w : World) (hs : s.size ≤ 1048576) :
    Calls Tryz.prog 30 #[.string s] w fun e w' => e = .returned (.slice (some ⟨w.heap.size, 0, none⟩) 256 256) ∧ w'.ownsRow w.heap.size 3 1 (.slice (some ⟨w.heap.size, 0, none⟩) 256 256) 256 (nats 256 (fun b => (bytesOf s).count b)) ∧ Below w.heap.size w w' := by
  obtain ⟨j0, ji, jz0, jz1, jz2⟩ := info_parts Tryz.infoInt
  have HALL : Hid ((bytesOf s).take s.size = bytesOf s) := hidden (by rw [← bytesOf_len]; exact List.take_length)
  go_enter Tryz.func30, Tryz.ntmps30
  go_wp2_with (at_make; refine wpList_make_full _ rfl _ _ 33 rfl w.heap.size 3 j0 (.int .i64 0) 1 Tryz.underlying33 ji jz0 jz1 .i64 .i64 _ _ 256 rfl rfl rfl rfl ?cb1 ?cb2 ?cb3 ?_)
  case cb1 => rw [jz2]; omega
  case cb2 => unfold maxLen; omega
  case cb3 => exact Nat.le_refl _
  intro w1 hown hgrow
  have hbl : Below w.heap.size w w1 := ⟨hgrow.os, hgrow.tape, hgrow.output, hgrow.size, fun i hi => hgrow.block i hi (by simp)⟩
  rw [made_nats] at hown
  clear hgrow
  go_wp2
  go_loopw [4] (fun si wr => ∃ k : Nat, k ≤ s.size ∧ si = .int .i64 k ∧ wr.ownsRow w.heap.size 3 1 (.slice (some ⟨w.heap.size, 0, none⟩) 256 256) 256 (nats 256 (fun b => ((bytesOf s).take k).count b)) ∧ Below w.heap.size w wr) (fun si _ => s.size - (intOf si).toNat)
  case atStart => exact ⟨0, by omega, rfl, by simpa using hown, hbl⟩
  case round =>
    obtain ⟨k, hk, rfl, hownD, hblD⟩ := hrel
    by_cases hlt : k < s.size
    · have hx : s[k].toNat < 256 := UInt8.toNat_lt _
      have HUP := hidden (nats_up s k hlt)
      have d0 := hownD.cellAt s[k].toNat (by omega)
      rw [nats_get _ _ _ hx] at d0
      have f0 := hownD.frozenAt s[k].toNat
      have hc : ((bytesOf s).take k).count s[k].toNat ≤ k := by
        have := List.count_le_length (a := s[k].toNat) (l := (bytesOf s).take k)
        rw [List.length_take] at this; omega
      obtain ⟨c, hcc⟩ : ∃ c, ((bytesOf s).take k).count s[k].toNat = c := ⟨_, rfl⟩
      rw [hcc] at hc d0 HUP
      clear hcc
      go_wp2
      go_roundw
      case rel => exact ⟨k + 1, by omega, by go_num, by rw [HUP.out]; exact (hownD.stored _ _).1, hblD.setCell (Nat.le_refl _) _⟩
      case measure => simp [intOf]; omega
    · have hkn : k = s.size := by omega
      subst hkn
      rw [HALL.out] at hownD
      go_wp2
      go_ret
      exact ⟨rfl, hownD, hblD⟩

theorem run_string_nil7 (w : World) : (convert 22 9 (.slice none 0 0)).run Tryz.prog w = .ok (.string ⟨#[]⟩) w := by
  rw [run_convert_bytes_string w _ _ _ _ _ _ Tryz.underlying22 Tryz.underlying5 Tryz.underlying9]
  rfl
/-- 'string(b)' of a row of one's own, a nil one too. -/
theorem run_str {w : World} {base n : Nat} {v : Value} {D : List Nat} (h : w.ownsRow base 5 1 v n (u8s D)) : (convert 22 9 v).run Tryz.prog w = .ok (.string (strOf D)) w := by
  have hl : D.length = n := by have := h.1; rw [u8s_len] at this; omega
  rcases h.2 with ⟨hv, h0⟩ | ⟨gd, cp, cur, hv, _⟩
  · subst hv
    have : D = [] := List.length_eq_zero_iff.1 (by omega)
    subst this
    exact run_string_nil7 w
  · subst hv
    exact run_string_own (P := Tryz.prog) (src := 22) (dst := 9) Tryz.underlying22 Tryz.underlying5 Tryz.underlying9 h hl
/-- Where one element has been appended to a row of one's own behind a world. -/
theorem bel_app {B : Nat} {a wr w3 : World} {v : Value} {n : Nat} {E : TypeId} {S : Nat} {xs : List Value} {cs : Array Value} {T : TypeId} (h : Below B a wr) (hB : B ≤ wr.heap.size) (hown : wr.ownsRow B E S v n xs) (hg : (wr.alloc (.cells cs T)).grownBy w3 v.ownBlock) : Below B a w3 :=
  (h.alloc hB _).grown hg (by simp; omega) (fun g hg => (hown.lt g hg).1)
set_option maxHeartbeats 1000000 in
set_option maxRecDepth 100000 in
theorem specUsed_any (s : ByteArray) (w : World) (hs : s.size ≤ 1048576) :
    Calls Tryz.prog 11 #[.string s] w fun e w' => e = .returned (.string (strOf (usedL (bytesOf s)))) ∧ Below w.heap.size w w' := by
  obtain ⟨i0, hi, hz0, hz1, hz2⟩ := info_parts Tryz.info5
  have K := hidden (fun W : World => l7counts_any s W hs)
  obtain ⟨L, hL⟩ : ∃ L, bytesOf s = L := ⟨_, rfl⟩
  rw [hL] at K ⊢
  clear hL
  have HS : Hid (∀ k, usedTo L (k + 1) = if 0 < L.count k then usedTo L k ++ [k] else usedTo L k) := hidden (usedTo_succ L)
  have HE : Hid (usedTo L 256 = usedL L) := hidden rfl
  obtain ⟨f, hf⟩ : ∃ f : Nat → Nat, (fun b => L.count b) = f := ⟨_, rfl⟩
  have HF : Hid (∀ k, f k = L.count k) := hidden (fun k => by rw [← hf])
  rw [hf] at K
  clear hf
  go_enter Tryz.func11, Tryz.ntmps11
  go_wp2_with fail
  refine (K.out _).mono ?_
  rintro e w1 ⟨rfl, hC, b1⟩
  have hs1 := b1.size
  go_wp2
  go_loopw [4, 5] (fun v si wr => ∃ k : Nat, k ≤ 256 ∧ si = .int .i64 k ∧ wr.ownsRow w1.heap.size 5 1 v (usedTo L k).length (u8s (usedTo L k)) ∧ Below w1.heap.size w1 wr) (fun _ si _ => 256 - (intOf si).toNat)
  case atStart => exact ⟨0, by omega, rfl, World.ownsRow_nil _ _ _ _, Below.refl _ _⟩
  case round =>
    obtain ⟨k, hk, rfl, hown, hbl⟩ := hrel
    have hsz := hbl.size
    by_cases hlt : k < 256
    · have hle := usedTo_len L k
      have d0 := (own_bel hC hbl).cellAt k hlt
      rw [nats_get _ _ _ hlt] at d0
      have hk8 : (k : Int) % 256 = k := by omega
      by_cases hc : 0 < f k
      · have HN : Hid (usedTo L (k + 1) = usedTo L k ++ [k]) := hidden (by rw [HS.out, if_pos (by rw [← HF.out]; exact hc)])
        go_wp2_with (at_builtin; refine wpList_append_own _ rfl _ _ 22 rfl w1.heap.size 5 i0 (.int .u8 0) 1 1 Tryz.underlying22 hi hz0 hz1 hz2 rfl (by decide) _ _ _ rfl (hown.alloc _) ⟨wr.heap.size, 0, none⟩ 1 1 [.int .u8 (k : Int)] rfl rfl ?c1 ?c2 ?c3 ?c4 ?c5 ?_)
        case c1 => exact cell_one_new _ _ _
        case c2 => exact fun x hx => by simp at hx; subst hx; rfl
        case c3 => unfold maxLen; omega
        case c4 => omega
        case c5 => simp; omega
        intro v' w3 hown' hgrow _
        have hb3 := bel_app hbl hsz hown hgrow
        rw [← u8s_snoc, ← HN.out] at hown'
        have HO : Hid (w3.ownsRow w1.heap.size 5 1 v' (usedTo L (k + 1)).length (u8s (usedTo L (k + 1)))) := hidden (by have := hown'; rwa [show (usedTo L k).length + 1 = (usedTo L (k + 1)).length by rw [HN.out]; simp] at this)
        clear hown hgrow hbl hown'
        go_wp2
        go_roundw
        case rel => exact ⟨k + 1, by omega, by go_num, HO.out, hb3⟩
        case measure => simp [intOf]; omega
      · have HN : Hid (usedTo L (k + 1) = usedTo L k) := hidden (by rw [HS.out, if_neg (by rw [← HF.out]; exact hc)])
        have hc0 : f k = 0 := by omega
        go_wp2
        go_roundw
        case rel => exact ⟨k + 1, by omega, by go_num, by rw [HN.out]; exact hown, hbl⟩
        case measure => simp [intOf]; omega
    · have hkn : k = 256 := by omega
      subst hkn
      rw [HE.out] at hown
      have hrun := run_str hown
      go_wp2
      go_ret
      exact ⟨rfl, bel_then hbl hs1 b1⟩

end Go.Proofs.YtpjgoikdfkaefaaGreat
namespace Go.Proofs.YtpjgoikdfkaefaaGreat
set_option linter.unusedVariables false
set_option linter.unusedSimpArgs false
open Go.RowKit

theorem getD_small {D : List Nat} (h : Byt D) (j : Nat) : D.getD j 0 < 256 := by
  rcases Nat.lt_or_ge j D.length with hj | hj
  · rw [List.getD_eq_getElem?_getD, List.getElem?_eq_getElem hj]; exact h _ (List.getElem_mem hj)
  · rw [List.getD_eq_getElem?_getD, List.getElem?_eq_none hj]; decide
theorem bytes_str {D : List Nat} (h : Byt D) : bytesOf (strOf D) = D := bytesOf_strOf D (getD_small h)
theorem str_eq {D : List Nat} (h : Byt D) (s : ByteArray) : strOf D = s ↔ D = bytesOf s := by
  constructor
  · intro e; rw [← e, bytes_str h]
  · intro e; rw [e, strOf_bytesOf]
theorem str_beq_ne {a b : ByteArray} (h : ¬ a = b) : (a.toList == b.toList) = false := by
  rw [beq_eq_false_iff_ne, ByteArray.toList_eq, ByteArray.toList_eq]
  intro e
  apply h
  cases a; cases b
  congr 1
  exact Array.toList_inj.1 e
theorem setOk_str (s : ByteArray) : setOk (bytesOf s) = true ↔ 0 < s.size ∧ strOf (usedL (bytesOf s)) = s := by
  rw [setOk_iff, str_eq (byt_usedL _)]
  have : bytesOf s ≠ [] ↔ 0 < s.size := by rw [← bytesOf_len, List.length_pos_iff]
  rw [this]
theorem ordOk_str (s : ByteArray) : ordOk (bytesOf s) = true ↔ 0 < s.size ∧ (usedL (bytesOf s)).length = s.size := by
  rw [ordOk_iff, ← used_len_eq (byt_bytesOf s), bytesOf_len]
  have : bytesOf s ≠ [] ↔ 0 < s.size := by rw [← bytesOf_len, List.length_pos_iff]
  rw [this]
end Go.Proofs.YtpjgoikdfkaefaaGreat
namespace Go.Proofs.YtpjgoikdfkaefaaGreat
set_option linter.unusedVariables false
set_option linter.unusedSimpArgs false
open Go.RowKit

theorem two_pow_small {n : Nat} (h : n ≤ 8) : 2 ^ n ≤ 256 := Nat.pow_le_pow_right (n := 2) (by omega) h
/-- Where a byte stands; -1: nowhere. -/
def placeI (u : List Nat) (b : Nat) : Int := if b ∈ u then (u.idxOf b : Int) else -1
theorem place_at {u : List Nat} {b k : Nat} (hk : k < u.length) (h : u.getD k 0 = b) (hno : ∀ j, j < k → u.getD j 0 ≠ b) : placeI u b = k := by
  have hb : b ∈ u := by
    rw [← h, List.getD_eq_getElem?_getD, List.getElem?_eq_getElem hk]; exact List.getElem_mem hk
  unfold placeI
  rw [if_pos hb]
  have h2 := idx_get hb
  rcases Nat.lt_trichotomy (u.idxOf b) k with h3 | h3 | h3
  · exact absurd h2 (hno _ h3)
  · rw [h3]
  · have h4 := List.not_of_lt_findIdx (p := (· == b)) (xs := u) h3
    rw [List.getD_eq_getElem?_getD, List.getElem?_eq_getElem hk, Option.getD_some] at h
    simp [h] at h4
theorem place_no {u : List Nat} {b : Nat} (hno : ∀ j, j < u.length → u.getD j 0 ≠ b) : placeI u b = -1 := by
  unfold placeI
  rw [if_neg]
  intro hb
  exact hno _ (idx_lt hb) (idx_get hb)
/-- A byte is struck out of a string. -/
theorem str_cut {D : List Nat} {s : ByteArray} (h : strOf D = s) (k : Nat) (hk : k < D.length) : s.extract 0 k ++ s.extract (k + 1) s.size = strOf (D.eraseIdx k) := by
  subst h
  have e : ∀ {a b : ByteArray}, a.data.toList = b.data.toList → a = b := fun {a b} h => by
    cases a; cases b; congr 1; exact Array.toList_inj.1 h
  apply e
  rw [ByteArray.data_append, Array.toList_append, Lib.extract_data, Lib.extract_data, strOf_size]
  have hd : ∀ L : List Nat, (strOf L).data.toList = L.map UInt8.ofNat := fun L => by simp [strOf]
  rw [hd, hd, List.eraseIdx_eq_take_drop_succ, List.map_append, List.map_take, List.map_drop, List.drop_zero, Nat.sub_zero]
  congr 1
  rw [List.take_of_length_le (by simp)]
theorem drop_at (s : ByteArray) (i : Nat) (h : i < s.size) : (bytesOf s).drop i = s[i].toNat :: (bytesOf s).drop (i + 1) := by
  have hk : i < (bytesOf s).length := by rw [bytesOf_len]; exact h
  rw [List.drop_eq_getElem_cons hk]
  congr 1
  have := bytesOf_get s i
  rw [List.getD_eq_getElem?_getD, List.getElem?_eq_getElem hk, Option.getD_some] at this
  rw [this, byteAt_get _ _ h]
end Go.Proofs.YtpjgoikdfkaefaaGreat
namespace Go.Proofs.YtpjgoikdfkaefaaGreat
set_option linter.unusedVariables false
set_option linter.unusedSimpArgs false
open Go.RowKit

/-- Two slices do not lie in one block. -/
def Apart (a b : Value) : Prop := ∀ k, a.ownBlock = some k → b.ownBlock ≠ some k
theorem apart_nil (b : Value) : Apart (.slice none 0 0) b := fun k h => by simp [Value.ownBlock] at h
theorem apart_to_nil (a : Value) : Apart a (.slice none 0 0) := fun k _ h => by simp [Value.ownBlock] at h
theorem Apart.symm {a b : Value} (h : Apart a b) : Apart b a := fun k hb ha => h k ha hb
theorem apart_app {w : World} {base n S : Nat} {E : TypeId} {v v' b : Value} {xs : List Value} (h : Apart v b) (hb : w.ownsRow base E S b n xs) (hloc : v'.ownBlock = v.ownBlock ∨ v'.ownBlock = some w.heap.size) : Apart v' b := by
  intro k hk hkb
  rcases hloc with h2 | h2
  · exact h k (by rw [← h2]; exact hk) hkb
  · have := (hb.lt k hkb).2
    rw [h2] at hk
    simp only [Option.some.injEq] at hk
    omega
theorem apart_app1 {w : World} {base n S : Nat} {E : TypeId} {v v' b : Value} {xs : List Value} (h : Apart v b) (hb : w.ownsRow base E S b n xs) (hloc : v'.ownBlock = v.ownBlock ∨ v'.ownBlock = some (w.heap.size + 1)) : Apart v' b := by
  intro k hk hkb
  rcases hloc with h2 | h2
  · exact h k (by rw [← h2]; exact hk) hkb
  · have := (hb.lt k hkb).2
    rw [h2] at hk
    simp only [Option.some.injEq] at hk
    omega
theorem apart_kept {w w' : World} {base n S : Nat} {E : TypeId} {v b : Value} {xs : List Value} (h : Apart v b) (hb : w.ownsRow base E S b n xs) (hg : w.grownBy w' v.ownBlock) : w'.ownsRow base E S b n xs := by
  cases hbb : b.ownBlock with
  | none => exact hb.kept hg (.inl hbb)
  | some k => exact hb.kept hg (.inr (fun e => h k (by rw [← e, hbb]) hbb))
/-- The first j bytes of a group. -/
def memTo (u : List Nat) (g j : Nat) : List Nat := (List.range j).map fun p => if 16 * g + p ∈ u then 1 else 0
def hasTo (u : List Nat) (g j : Nat) : Nat := if 1 ∈ memTo u g j then 1 else 0
theorem memTo_len (u : List Nat) (g j : Nat) : (memTo u g j).length = j := by simp [memTo]
theorem memTo_succ (u : List Nat) (g j : Nat) : memTo u g (j + 1) = memTo u g j ++ [if 16 * g + j ∈ u then 1 else 0] := by simp [memTo, List.range_succ]
theorem hasTo_succ (u : List Nat) (g j : Nat) : hasTo u g (j + 1) = (hasTo u g j ||| (if 16 * g + j ∈ u then 1 else 0)) := by
  unfold hasTo
  rw [memTo_succ]
  by_cases h1 : 1 ∈ memTo u g j
  · rw [if_pos h1, if_pos (List.mem_append_left _ h1)]
    split <;> rfl
  · rw [if_neg h1]
    by_cases h2 : 16 * g + j ∈ u
    · simp [h2]
    · simp [h1, h2]
theorem hasTo_lt (u : List Nat) (g j : Nat) : hasTo u g j < 2 := by unfold hasTo; split <;> omega
theorem or_bit (h x : Nat) (hh : h < 2) (hx : x < 2) : bits BinOp.or IntKind.u8 (h : Int) (x : Int) = ((h ||| x : Nat) : Int) := by
  have : h = 0 ∨ h = 1 := by omega
  have : x = 0 ∨ x = 1 := by omega
  rcases ‹h = 0 ∨ h = 1› with rfl | rfl <;> rcases ‹x = 0 ∨ x = 1› with rfl | rfl <;> rfl
theorem set_count {u : List Nat} (hb : Byt u) (hu : setOk u = true) (b : Nat) : u.count b = if b ∈ u then 1 else 0 := by
  have h := ((setOk_iff u).1 hu).2
  have := usedL_count u hb b
  rw [h] at this
  exact this
theorem usedRest_pos {u : List Nat} (hb : Byt u) (hu : setOk u = true) : 0 < (usedRest u 16).length := by
  obtain ⟨g, hg, h⟩ := used_some hb ((setOk_iff u).1 hu).1
  have h1 : grp16 u g ≠ [] := by
    unfold grp16
    rw [if_pos h]
    intro e
    have := mem16_len u g
    rw [e] at this; simp at this
  obtain ⟨x, hx⟩ := List.exists_mem_of_ne_nil _ h1
  exact List.length_pos_of_mem (List.mem_flatMap.2 ⟨g, List.mem_range.2 hg, hx⟩)
def headTo (u : List Nat) (g : Nat) : List Nat := (List.range g).map (has16 u)
theorem headTo_len (u : List Nat) (g : Nat) : (headTo u g).length = g := by simp [headTo]
theorem headTo_succ (u : List Nat) (g : Nat) : headTo u (g + 1) = headTo u g ++ [has16 u g] := by simp [headTo, List.range_succ]
end Go.Proofs.YtpjgoikdfkaefaaGreat
namespace Go.Proofs.YtpjgoikdfkaefaaGreat
set_option linter.unusedVariables false
set_option linter.unusedSimpArgs false
open Go.RowKit

theorem gam_ge {s : ByteArray} {a k j n : Nat} (h : Gam s a j n) (hz : ∀ i, i < k → bit s (a + i) = 0) : k ≤ j := by
  rcases Nat.lt_or_ge j k with hl | hl
  · have := hz j hl
    have := h.2.2.2.1
    omega
  · exact hl
/-- What reading a number answers, the reader being in block b. -/
def L6Post (s : ByteArray) (at0 b : Nat) (T : TypeId) (w : World) (e : Ending) (w' : World) : Prop :=
  ((∃ k n : Nat, Gam s at0 k n ∧ e = .returned (.int .i64 n) ∧ Has w' b T #[.string s, .int .i64 ((at0 + (2 * k + 1) : Nat) : Int)]) ∨
   ((∀ k n, ¬ Gam s at0 k n) ∧ e = .returned (.int .i64 0))) ∧ Only b w w'
theorem l6post_no {s : ByteArray} {at0 b : Nat} {T : TypeId} {w w' : World} (h : ∀ k n, ¬ Gam s at0 k n) (ho : Only b w w') : L6Post s at0 b T w (.returned (.int .i64 0)) w' := ⟨.inr ⟨h, rfl⟩, ho⟩
/-- Where the reader stands, and what was read last. -/
def L6At (s : ByteArray) (at0 b : Nat) (T : TypeId) (k : Nat) (x : Int) (w : World) : Prop :=
  (at0 + k + 1 ≤ 8 * s.size ∧ x = (bit s (at0 + k) : Int) ∧ Has w b T #[.string s, .int .i64 ((at0 + k + 1 : Nat) : Int)]) ∨ (8 * s.size < at0 + k + 1 ∧ x = -1 ∧ ∃ c : Int, Has w b T #[.string s, .int .i64 c])
end Go.Proofs.YtpjgoikdfkaefaaGreat
namespace Go.Proofs.YtpjgoikdfkaefaaGreat
set_option linter.unusedVariables false
set_option linter.unusedSimpArgs false
open Go.RowKit Go.Maps

theorem count_up (s : ByteArray) (k : Nat) (h : k < s.size) : (fun b => ((bytesOf s).take (k + 1)).count b) = fun b => if b = s[k].toNat then ((bytesOf s).take k).count s[k].toNat + 1 else ((bytesOf s).take k).count b := by
  funext t
  rw [bytes_at s k h, List.count_append]
  by_cases e : t = s[k].toNat
  · subst e; simp
  · simp [e, List.count_cons, Ne.symm e]
set_option maxHeartbeats 1000000 in
set_option maxRecDepth 100000 in
theorem countsOf_any (s : ByteArray) (w : World) (hs : s.size ≤ 1048576) :
    Calls Tryz.prog 28 #[.string s] w fun e w' => e = .returned (.map (some w.heap.size)) ∧ CntAt w' w.heap.size s.size (fun b => (bytesOf s).count b) ∧ Below w.heap.size w w' := by
  have HALL : Hid ((bytesOf s).take s.size = bytesOf s) := hidden (by rw [← bytesOf_len]; exact List.take_length)
  have hmm := @run_makeMap Tryz.prog
  go_enter Tryz.func28, Tryz.ntmps28
  go_wp2
  go_loopw [4, 8] (fun _ sk wr => ∃ k : Nat, k ≤ s.size ∧ sk = .int .i64 k ∧ CntAt wr w.heap.size k (fun b => ((bytesOf s).take k).count b) ∧ Below w.heap.size w wr) (fun _ sk _ => s.size - (intOf sk).toNat)
  case atStart => exact ⟨0, by omega, rfl, ⟨_, World.ownsMap_made w Tryz.prog 5 (plainElem (H := Unit) Tryz.prog 3), by simpa using cnt_nil⟩, (Below.refl _ _).alloc (Nat.le_refl _) _⟩
  case round =>
    obtain ⟨k, hk, rfl, ⟨D, hown, hC⟩, hbl⟩ := hrel
    by_cases hlt : k < s.size
    · have hx : s[k].toNat < 256 := UInt8.toNat_lt _
      have HUP := hidden (count_up s k hlt)
      have hc : ((bytesOf s).take k).count s[k].toNat ≤ k := by
        have := List.count_le_length (a := s[k].toNat) (l := (bytesOf s).take k)
        rw [List.length_take] at this; omega
      obtain ⟨x, hxx⟩ : ∃ x, s[k].toNat = x := ⟨_, rfl⟩
      rw [hxx] at hx hc HUP
      have HC2 := hidden (cnt_put hC hx)
      have HAT := hidden (hC.2.2.1 x hx)
      obtain ⟨c, hcc⟩ : ∃ c, ((bytesOf s).take k).count x = c := ⟨_, rfl⟩
      simp only [hcc] at hc HUP HC2 HAT
      have hkey := keyB hx
      clear hcc hC
      go_wp2_with (first | (at_lookup; refine wpList_lookup_own_int _ rfl _ _ 45 rfl 5 3 .i64 byteKey Tryz.underlying45 Tryz.underlying3 (zeroI7 _) w.heap.size k D rfl hown _ _ rfl hkey ?_; intro q hat hwc; obtain rfl : q = (c : Int) := (by have h1 := hat.symm.trans HAT.out; simpa using h1)) | (at_mapUpdate; refine wpList_mapUpdate_own _ rfl _ _ _ 45 rfl 5 3 byteKey Tryz.underlying45 _ w.heap.size k _ rfl hown (by unfold maxLen; omega) _ _ _ rfl rfl hkey (.lit (.int .i64 ((c : Int) + 1))) [] (plainElem_int Tryz.underlying3 (WalkArith.wf_i64 (by omega))) ?_; intro w2 hown2 hgrow2))
      go_roundw
      case rel => exact ⟨k + 1, by omega, by go_num, ⟨_, hown2, by rw [HUP.out]; exact HC2.out⟩, hbl.grown hgrow2 hbl.size (fun j hj => by cases hj; exact Nat.le_refl _)⟩
      case measure => simp [intOf]; omega
    · have hkn : k = s.size := by omega
      subst hkn
      rw [HALL.out] at hC
      go_wp2
      go_ret
      exact ⟨rfl, ⟨D, hown, hC⟩, hbl⟩

theorem str_ne_nil {s : ByteArray} (h : 0 < s.size) : (s.toList == ByteArray.toList ⟨#[]⟩) = false := by
  rw [beq_eq_false_iff_ne, ByteArray.toList_eq, ByteArray.toList_eq]
  intro e
  have h2 : s.data.toList.length = s.size := by simp
  rw [e] at h2
  simp at h2
  omega
theorem str_isEmpty {s : ByteArray} (h : 0 < s.size) : s.toList.isEmpty = false := by
  rw [Bool.eq_false_iff]
  intro e
  rw [List.isEmpty_iff, ByteArray.toList_eq] at e
  have h2 : s.data.toList.length = s.size := by simp
  rw [e] at h2
  simp at h2
  omega
theorem str_zero {s : ByteArray} (h : ¬ 0 < s.size) : s = ⟨#[]⟩ := by
  have : bytesOf s = [] := List.length_eq_zero_iff.1 (by rw [bytesOf_len]; omega)
  rw [← strOf_bytesOf s, this]; rfl
end Go.Proofs.YtpjgoikdfkaefaaGreat
