/- Merged: I11A, Turns. -/
import Derived.Test.YtpjgoikdfkaefaaGreatQZ19
import Derived.Test.YtpjgoikdfkaefaaGreatQZ24
import Derived.Test.YtpjgoikdfkaefaaGreatQZ5
namespace Go.Proofs.YtpjgoikdfkaefaaGreat
set_option linter.unusedVariables false
set_option linter.unusedSimpArgs false
open Go.RowKit

set_option maxHeartbeats 1000000 in
theorem hasSuffixes_any (s : ByteArray) (w : World) (hs : s.size ≤ 1048576) : Calls Tryz.prog 40 #[.string s] w fun e w' => e = .returned (.bool (decide (0 < s.size ∧ s.size ≤ 1200))) ∧ w = w' := by
  go_enter Tryz.func40, Tryz.ntmps40
  by_cases h1 : (1 : Int) ≤ (s.size : Int)
  · by_cases h2 : (s.size : Int) ≤ 1200
    · go_wp2
      go_ret
      exact ⟨ret_bool (by symm; simp; omega), rfl⟩
    · go_wp2
      go_ret
      exact ⟨ret_bool (by symm; simp; omega), rfl⟩
  · go_wp2
    go_ret
    exact ⟨ret_bool (by symm; simp; omega), rfl⟩
set_option maxHeartbeats 1000000 in
theorem suffixBefore_any (s : ByteArray) (w : World) :
    Calls Tryz.prog 53 #[.string s] w fun e w' => e = .returned (.func (.func 68) #[] #[.pointer (some ⟨w.heap.size, 0, none⟩)]) ∧ SufAt w' w.heap.size s ∧ Below w.heap.size w w' := by
  go_enter Tryz.func53, Tryz.ntmps53
  go_wp2
  go_ret
  exact ⟨rfl, ⟨by simp, by simp⟩, ⟨rfl, rfl, rfl, by simp, fun i hi => Below.heap_alloc w _ i hi⟩⟩
theorem own_base11 {w : World} {base base' : Nat} {e : TypeId} {size : Nat} {v : Value} {n : Nat} {xs : List Value} (h : w.ownsRow base e size v n xs) (hb : base' ≤ base) : w.ownsRow base' e size v n xs :=
  ⟨h.1, h.2.imp id fun ⟨g, cap, cur, a, b, c⟩ => ⟨g, cap, cur, a, Nat.le_trans hb b, c⟩⟩
theorem range'_len1 (a n : Nat) : (List.range' a n).length = n := List.length_range'
theorem nats_range' (a n : Nat) : nats n (fun j => a + j) = natsL (List.range' a n) := by
  unfold nats natsL
  rw [List.range'_eq_map_range, List.map_map]
  rfl
set_option maxHeartbeats 2000000 in
set_option maxRecDepth 100000 in
theorem sortedPart_any (s : ByteArray) (A N : Nat) (w : World) (hs : s.size ≤ 1048576) (hAN : A + N ≤ s.size) :
    Calls Tryz.prog 41 #[.string s, .int .i64 (A : Int), .int .i64 ((A + N : Nat) : Int)] w fun e w' => ∃ v, e = .returned v ∧ w'.ownsRow w.heap.size 3 1 v N (natsL (srt (sufB (bytesOf s)) (List.range' A N))) ∧ Below w.heap.size w w' := by
  obtain ⟨j0, ji, jz0, jz1, jz2⟩ := info_parts Tryz.infoInt
  have HLo : Hid (Lo s (List.range' A N)) := hidden (fun x hx => by rw [List.mem_range'_1] at hx; omega)
  have hsub : True := trivial
  go_enter Tryz.func41, Tryz.ntmps41
  go_wp2_with (at_make; refine wpList_make_full _ rfl _ _ 33 rfl w.heap.size 3 j0 (.int .i64 0) 1 Tryz.underlying33 ji jz0 jz1 .i64 .i64 _ _ N rfl rfl (by omega) (by omega) ?cb1 ?cb2 ?cb3 ?_)
  case cb1 => rw [jz2]; omega
  case cb2 => unfold maxLen; omega
  case cb3 => exact Nat.le_refl _
  intro w2 hown hgrow
  have hb2 := bel_made hgrow
  rw [made_nats] at hown
  clear hgrow
  go_wp2
  go_loopw [8, 15] (fun _ sk wr => ∃ (k : Nat), k ≤ N ∧ sk = .int .i64 k ∧ wr.ownsRow w.heap.size 3 1 (.slice (some ⟨w.heap.size, 0, none⟩) N N) N (nats N (fun j => if j < k then A + j else 0)) ∧ Below w.heap.size w wr) (fun _ sk _ => N - (intOf sk).toNat)
  case atStart => exact ⟨0, by omega, rfl, by simpa using hown, hb2⟩
  case round =>
    clear hown hb2
    obtain ⟨k, hk, rfl, hown, hbl⟩ := hrel
    by_cases hlt : k < N
    · have d0 := hown.cellAt k (by omega)
      rw [nats_get _ _ _ hlt] at d0
      have f0 := hown.frozenAt k
      have hownN := (hown.stored k (.int .i64 ((A + k : Nat) : Int))).1
      rw [nats_set] at hownN
      have e : nats N (fun t => if t = k then A + k else if t < k then A + t else 0) = nats N (fun j => if j < k + 1 then A + j else 0) := nats_congr fun j _ => by
        by_cases h1 : j = k
        · subst h1; rw [if_pos rfl, if_pos (by omega)]
        · by_cases h2 : j < k
          · rw [if_neg h1, if_pos h2, if_pos (by omega)]
          · rw [if_neg h1, if_neg h2, if_neg (by omega)]
      rw [e] at hownN
      have hblN := hbl.setCell (p := ⟨w.heap.size, k, none⟩) (Nat.le_refl _) (.int .i64 ((A + k : Nat) : Int))
      clear e hown hbl
      go_wp2
      go_roundw
      case rel => exact ⟨k + 1, by omega, by go_num, hownN, hblN⟩
      case measure => simp [intOf]; omega
    · obtain rfl : k = N := by omega
      have HO : Hid (wr.ownsRow w.heap.size 3 1 (.slice (some ⟨w.heap.size, 0, none⟩) k k) k (natsL (List.range' A k))) := hidden (by
        have e : nats k (fun j => if j < k then A + j else 0) = nats k (fun j => A + j) := nats_congr fun j hj => by rw [if_pos hj]
        rw [e, nats_range'] at hown
        exact hown)
      clear hown
      go_wp2_with fail
      refine (suffixBefore_any s _).mono ?_
      rintro ed w3 ⟨rfl, hS, b3⟩
      have B3 := bel_then b3 hbl.size hbl
      have HL : Hid (Lies w3 wr.heap.size (some ⟨w.heap.size, 0, none⟩) (natsL (List.range' A k))) := hidden ((Lies.own (HO.out)).below b3)
      have K := hidden (sortedZ_any wr.heap.size s hs k (some ⟨w.heap.size, 0, none⟩) k wr.heap.size (List.range' A k) w3 hS HLo.out (range'_len1 A k) HL.out b3.size (Nat.le_refl _) (fun e => by cases e) (by omega))
      clear hS
      go_wp2_with fail
      refine K.out.mono ?_
      rintro ed w4 ⟨v, rfl, o4, b4⟩
      have B4 := bel_then b4 B3.size B3
      have O4 := hidden (own_base11 (base' := w.heap.size) o4 B3.size)
      clear K o4
      go_wp2
      go_ret
      exact ⟨v, rfl, O4.out, B4⟩
def sufZ (s : ByteArray) : List Nat := if 0 < s.size ∧ s.size ≤ 1200 then sufO (bytesOf s) else []
theorem sufZ_len (s : ByteArray) (h : 0 < s.size ∧ s.size ≤ 1200) : (sufZ s).length = s.size := by unfold sufZ; rw [if_pos h, sufO_len, bytesOf_len]
set_option maxHeartbeats 1000000 in
set_option maxRecDepth 100000 in
/-- A text of fewer than 64 bytes: no goroutine is started. -/
theorem implSuf_small (s : ByteArray) (w : World) (hs : s.size < 64) :
    Calls Tryz.prog 26 #[.string s] w fun e w' => ∃ v, e = .returned v ∧ w'.ownsRow w.heap.size 3 1 v (sufZ s).length (natsL (sufZ s)) ∧ Below w.heap.size w w' := by
  have KO := hidden (fun W => hasSuffixes_any s W (by omega))
  by_cases hok : 0 < s.size ∧ s.size ≤ 1200
  · have HZ : Hid (natsL (sufZ s) = natsL (srt (sufB (bytesOf s)) (List.range' 0 s.size))) := hidden (by
      unfold sufZ; rw [if_pos hok]; unfold sufO; rw [bytesOf_len, List.range_eq_range'])
    have HL := hidden (sufZ_len s hok)
    rw [decide_eq_true hok] at KO
    have K := hidden (fun W => sortedPart_any s 0 s.size W (by omega) (by omega))
    rw [Nat.zero_add] at K
    go_enter Tryz.func26, Tryz.ntmps26
    go_wp2_with fail
    refine (KO.out _).mono ?_
    rintro e w1 ⟨rfl, rfl⟩
    go_wp2_with fail
    refine (K.out _).mono ?_
    rintro e w1 ⟨v, rfl, o1, b1⟩
    have O1 := hidden o1
    clear o1
    go_wp2
    go_ret
    exact ⟨v, rfl, by rw [HZ.out, HL.out]; exact O1.out, b1⟩
  · have HZ : Hid (sufZ s = []) := hidden (by unfold sufZ; rw [if_neg hok])
    rw [decide_eq_false hok] at KO
    go_enter Tryz.func26, Tryz.ntmps26
    go_wp2_with fail
    refine (KO.out _).mono ?_
    rintro e w1 ⟨rfl, rfl⟩
    go_wp2
    go_ret
    exact ⟨_, rfl, by rw [HZ.out]; exact World.ownsRow_nil _ _ _ _, Below.refl _ _⟩
end Go.Proofs.YtpjgoikdfkaefaaGreat
namespace Go.Proofs.YtpjgoikdfkaefaaGreat
set_option linter.unusedVariables false
set_option linter.unusedSimpArgs false
open Go.RowKit

theorem rot_ab : rotO [97, 98] = [0, 1] := by
  refine (rotO_is ⟨by decide, ?_⟩).symm
  refine List.pairwise_cons.2 ⟨fun x hx => ?_, List.pairwise_singleton _ _⟩
  obtain rfl := List.mem_singleton.1 hx
  decide
def sAB : ByteArray := { data := #[97, 98] }
def sBA : ByteArray := { data := #[98, 97] }
def sABAB : ByteArray := { data := #[97, 98, 97, 98] }
theorem tn_lst : lstZ sAB = sBA ∧ fstZ sAB = 0 := by
  have h : bytesOf sAB = [97, 98] := by decide
  unfold lstZ fstZ lastL fstN
  rw [h, rot_ab, if_pos (by decide), if_pos (by decide)]
  decide
theorem tn_can : unC sBA 0 = sAB := by decide
theorem tn_un : unB sBA 0 = true ∧ unS sBA 0 = sAB := by
  have h : unB sBA 0 = true := by
    unfold unB
    rw [tn_can, tn_lst.1, tn_lst.2]
    decide
  exact ⟨h, by unfold unS; rw [if_pos h, tn_can]⟩
theorem tn_suf : sufZ sBA = [1, 0] := by
  have h : bytesOf sBA = [98, 97] := by decide
  unfold sufZ
  rw [if_pos (by decide), h, suf_ba]
theorem tn_per : perZ sABAB = 2 := by
  have h : bytesOf sABAB = [97, 98, 97, 98] := by decide
  have hp : IsPer [97, 98, 97, 98] 2 := by
    refine ⟨by decide, by decide, by decide, ?_⟩
    intro q h1 h2
    obtain rfl : q = 1 := by omega
    decide
  unfold perZ
  rw [if_pos (by decide), h, per_is hp]
  rfl
theorem tn_l2 (w : World) : Ints (w.alloc (.cells #[.int .i64 1, .int .i64 0] 3)) (w.heap.size + 1) (some ⟨w.heap.size, 0, none⟩) [1, 0] := Ints.lit w [1, 0] (by decide) (by decide)
/-- A row of its own beside a literal that holds the same. -/
theorem sameOwn11 (n : Nat) (Z : List Int) (base : Nat) (v : Value) (c2 : Nat) (w W : World) (a2 : Addr) (hn : Z.length = n) (hm : n ≤ 1000) (hr : ∀ x ∈ Z, -9223372036854775808 ≤ x ∧ x ≤ 9223372036854775807) (hown : w.ownsRow base 3 1 v n (intsV Z)) (hb : Below w.heap.size w W) (h2 : Ints W (w.heap.size + 1) (some a2) Z) :
    Calls Tryz.prog 25 #[v, .slice (some a2) n c2] W fun e w' => e = .returned (.bool true) ∧ Below W.heap.size W w' := by
  subst hn
  obtain ⟨a, c, rfl⟩ := own_shape hown
  have hI := (Ints.ofOwn hown (by omega) hr).2
  have := sameInts_any a (some a2) c c2 (w.heap.size + 1) Z Z W ((hI.below hb).mono (by omega)) h2
  rw [decide_eq_true rfl] at this
  exact this
theorem tn_k1 (W : World) : Calls Tryz.prog 5 #[.string sAB] W fun e w' => e = .returned (.tuple #[.string sBA, .int .i64 0]) ∧ Below W.heap.size W w' := by
  have := implLast_any sAB W (by decide)
  rw [tn_lst.1, tn_lst.2] at this
  exact this
theorem tn_k2 (W : World) : Calls Tryz.prog 6 #[.string sBA, .int .i64 0] W fun e w' => e = .returned (.tuple #[.string sAB, .bool true]) ∧ Below W.heap.size W w' := by
  have := implUnrotate_any sBA 0 W (by decide) (by decide) (by decide)
  rw [tn_un.1, tn_un.2] at this
  exact this
theorem tn_k3 (W : World) : Calls Tryz.prog 26 #[.string sBA] W fun e w' => ∃ v, e = .returned v ∧ w'.ownsRow W.heap.size 3 1 v 2 (intsV [1, 0]) ∧ Below W.heap.size W w' := by
  have := implSuf_small sBA W (by decide)
  rw [tn_suf] at this
  exact this
theorem tn_k4 (m : Int) (W : World) (hm : W.cell? ⟨0, 0, none⟩ = some (.int .i64 m)) : Calls Tryz.prog 27 #[.string sABAB] W fun e w' => e = .returned (.int .i64 2) ∧ Below W.heap.size W w' := by
  have := implPeriod_any sABAB m W (by decide) hm
  rw [tn_per] at this
  exact this
set_option maxHeartbeats 2000000 in
set_option maxRecDepth 100000 in
theorem turns_any (m : Int) (w : World) (hm : w.cell? ⟨0, 0, none⟩ = some (.int .i64 m)) (hg : 0 < w.heap.size) : Calls Tryz.prog 9 #[] w fun e w' => e = .returned (.bool true) ∧ Below w.heap.size w w' := by
  have K1 := hidden tn_k1
  have K2 := hidden tn_k2
  have K3 := hidden tn_k3
  have K4 := hidden (tn_k4 m)
  have q1 : sBA.toList = [98, 97] := by rw [ByteArray.toList_eq]; rfl
  have q2 : sAB.toList = [97, 98] := by rw [ByteArray.toList_eq]; rfl
  go_enter Tryz.func9, Tryz.ntmps9
  go_wp2_with fail
  refine (K1.out _).mono ?_
  rintro e w1 ⟨rfl, b1⟩
  go_wp2_with fail
  refine (K2.out _).mono ?_
  rintro e w2 ⟨rfl, b2⟩
  have B2 := bel_then b2 b1.size b1
  clear b1 b2
  go_wp2_with fail
  refine (K3.out _).mono ?_
  rintro e w3 ⟨v3, rfl, ho3, b3⟩
  have B3 := bel_then b3 B2.size B2
  clear b3 B2
  go_wp2_with fail
  refine (sameOwn11 2 [1, 0] _ v3 _ w3 _ _ rfl (by decide) (by decide) ho3 ((Below.refl _ _).alloc (by omega) _) (tn_l2 w3)).mono ?_
  rintro e w4 ⟨rfl, b4⟩
  have B4 : Below w.heap.size w w4 := bel_then b4 (by have := B3.size; simp; omega) (B3.alloc B3.size _)
  clear b4 B3 ho3
  have hm4 := (B4.cell (p := ⟨0, 0, none⟩) hg).trans hm
  go_wp2_with fail
  refine (K4.out _ hm4).mono ?_
  rintro e w5 ⟨rfl, b5⟩
  have B5 := bel_then b5 B4.size B4
  go_wp2
  go_ret
  exact ⟨rfl, B5⟩
end Go.Proofs.YtpjgoikdfkaefaaGreat
