/- Merged: I11A, Turns, RotW, WRotations, WLfs. -/
import Derived.Test.YtpjgoikdfkaefaaQ1115
import Derived.Test.YtpjgoikdfkaefaaQ1117
import Derived.Test.YtpjgoikdfkaefaaQ115
import Derived.Test.YtpjgoikdfkaefaaQ116
import Derived.Test.YtpjgoikdfkaefaaQ1113
import Derived.Deep.RegionHeld3
import Derived.BigQuiet
import Derived.Deep.QuietTactic
namespace Go.Proofs.Ytpjgoikdfkaefaa
set_option linter.unusedVariables false
set_option linter.unusedSimpArgs false
open Go.RowKit

set_option maxHeartbeats 1000000 in
theorem hasSuffixes_any (s : ByteArray) (w : World) (hs : s.size ≤ 1048576) : Calls Try.prog 38 #[.string s] w fun e w' => e = .returned (.bool (decide (0 < s.size ∧ s.size ≤ 1200))) ∧ w = w' := by
  go_enter Try.func38, Try.ntmps38
  by_cases h1 : (1 : Int) ≤ (s.size : Int)
  · by_cases h2 : (s.size : Int) ≤ 1200
    · go_wp2
      go_ret
      exact ⟨ret_bool (by symm; simp; omega), rfl⟩
    · go_wp2
      go_ret
      exact ⟨ret_bool (by symm; simp; omega), rfl⟩
  · go_wp2
    go_ret
    exact ⟨ret_bool (by symm; simp; omega), rfl⟩
set_option maxHeartbeats 1000000 in
theorem suffixBefore_any (s : ByteArray) (w : World) :
    Calls Try.prog 59 #[.string s] w fun e w' => e = .returned (.func (.func 74) #[] #[.pointer (some ⟨w.heap.size, 0, none⟩)]) ∧ SufAt w' w.heap.size s ∧ Below w.heap.size w w' := by
  go_enter Try.func59, Try.ntmps59
  go_wp2
  go_ret
  exact ⟨rfl, ⟨by simp, by simp⟩, ⟨rfl, rfl, rfl, by simp, fun i hi => Below.heap_alloc w _ i hi⟩⟩
theorem own_base11 {w : World} {base base' : Nat} {e : TypeId} {size : Nat} {v : Value} {n : Nat} {xs : List Value} (h : w.ownsRow base e size v n xs) (hb : base' ≤ base) : w.ownsRow base' e size v n xs :=
  ⟨h.1, h.2.imp id fun ⟨g, cap, cur, a, b, c⟩ => ⟨g, cap, cur, a, Nat.le_trans hb b, c⟩⟩
theorem range'_len1 (a n : Nat) : (List.range' a n).length = n := List.length_range'
theorem nats_range' (a n : Nat) : nats n (fun j => a + j) = natsL (List.range' a n) := by
  unfold nats natsL
  rw [List.range'_eq_map_range, List.map_map]
  rfl
set_option maxHeartbeats 2000000 in
set_option maxRecDepth 100000 in
theorem sortedPart_any (s : ByteArray) (A N : Nat) (w : World) (hs : s.size ≤ 1048576) (hAN : A + N ≤ s.size) :
    Calls Try.prog 39 #[.string s, .int .i64 (A : Int), .int .i64 ((A + N : Nat) : Int)] w fun e w' => ∃ v, e = .returned v ∧ w'.ownsRow w.heap.size 3 1 v N (natsL (srt (sufB (bytesOf s)) (List.range' A N))) ∧ Below w.heap.size w w' := by
  obtain ⟨j0, ji, jz0, jz1, jz2⟩ := info_parts Try.infoInt
  have HLo : Hid (Lo s (List.range' A N)) := hidden (fun x hx => by rw [List.mem_range'_1] at hx; omega)
  have hsub : True := trivial
  go_enter Try.func39, Try.ntmps39
  go_wp2_with (at_make; refine wpList_make_full _ rfl _ _ 22 rfl w.heap.size 3 j0 (.int .i64 0) 1 Try.underlying22 ji jz0 jz1 .i64 .i64 _ _ N rfl rfl (by omega) (by omega) ?cb1 ?cb2 ?cb3 ?_)
  case cb1 => rw [jz2]; omega
  case cb2 => unfold maxLen; omega
  case cb3 => exact Nat.le_refl _
  intro w2 hown hgrow
  have hb2 := bel_made hgrow
  rw [made_nats] at hown
  clear hgrow
  go_wp2
  go_loopw [8, 15] (fun _ sk wr => ∃ (k : Nat), k ≤ N ∧ sk = .int .i64 k ∧ wr.ownsRow w.heap.size 3 1 (.slice (some ⟨w.heap.size, 0, none⟩) N N) N (nats N (fun j => if j < k then A + j else 0)) ∧ Below w.heap.size w wr) (fun _ sk _ => N - (intOf sk).toNat)
  case atStart => exact ⟨0, by omega, rfl, by simpa using hown, hb2⟩
  case round =>
    clear hown hb2
    obtain ⟨k, hk, rfl, hown, hbl⟩ := hrel
    by_cases hlt : k < N
    · have d0 := hown.cellAt k (by omega)
      rw [nats_get _ _ _ hlt] at d0
      have f0 := hown.frozenAt k
      have hownN := (hown.stored k (.int .i64 ((A + k : Nat) : Int))).1
      rw [nats_set] at hownN
      have e : nats N (fun t => if t = k then A + k else if t < k then A + t else 0) = nats N (fun j => if j < k + 1 then A + j else 0) := nats_congr fun j _ => by
        by_cases h1 : j = k
        · subst h1; rw [if_pos rfl, if_pos (by omega)]
        · by_cases h2 : j < k
          · rw [if_neg h1, if_pos h2, if_pos (by omega)]
          · rw [if_neg h1, if_neg h2, if_neg (by omega)]
      rw [e] at hownN
      have hblN := hbl.setCell (p := ⟨w.heap.size, k, none⟩) (Nat.le_refl _) (.int .i64 ((A + k : Nat) : Int))
      clear e hown hbl
      go_wp2
      go_roundw
      case rel => exact ⟨k + 1, by omega, by go_num, hownN, hblN⟩
      case measure => simp [intOf]; omega
    · obtain rfl : k = N := by omega
      have HO : Hid (wr.ownsRow w.heap.size 3 1 (.slice (some ⟨w.heap.size, 0, none⟩) k k) k (natsL (List.range' A k))) := hidden (by
        have e : nats k (fun j => if j < k then A + j else 0) = nats k (fun j => A + j) := nats_congr fun j hj => by rw [if_pos hj]
        rw [e, nats_range'] at hown
        exact hown)
      clear hown
      go_wp2_with fail
      refine (suffixBefore_any s _).mono ?_
      rintro ed w3 ⟨rfl, hS, b3⟩
      have B3 := bel_then b3 hbl.size hbl
      have HL : Hid (Lies w3 wr.heap.size (some ⟨w.heap.size, 0, none⟩) (natsL (List.range' A k))) := hidden ((Lies.own (HO.out)).below b3)
      have K := hidden (sortedZ_any wr.heap.size s hs k (some ⟨w.heap.size, 0, none⟩) k wr.heap.size (List.range' A k) w3 hS HLo.out (range'_len1 A k) HL.out b3.size (Nat.le_refl _) (fun e => by cases e) (by omega))
      clear hS
      go_wp2_with fail
      refine K.out.mono ?_
      rintro ed w4 ⟨v, rfl, o4, b4⟩
      have B4 := bel_then b4 B3.size B3
      have O4 := hidden (own_base11 (base' := w.heap.size) o4 B3.size)
      clear K o4
      go_wp2
      go_ret
      exact ⟨v, rfl, O4.out, B4⟩
def sufZ (s : ByteArray) : List Nat := if 0 < s.size ∧ s.size ≤ 1200 then sufO (bytesOf s) else []
theorem sufZ_len (s : ByteArray) (h : 0 < s.size ∧ s.size ≤ 1200) : (sufZ s).length = s.size := by unfold sufZ; rw [if_pos h, sufO_len, bytesOf_len]
set_option maxHeartbeats 1000000 in
set_option maxRecDepth 100000 in
/-- A text of fewer than 64 bytes: no goroutine is started. -/
theorem implSuf_small (s : ByteArray) (w : World) (hs : s.size < 64) :
    Calls Try.prog 13 #[.string s] w fun e w' => ∃ v, e = .returned v ∧ w'.ownsRow w.heap.size 3 1 v (sufZ s).length (natsL (sufZ s)) ∧ Below w.heap.size w w' := by
  have KO := hidden (fun W => hasSuffixes_any s W (by omega))
  by_cases hok : 0 < s.size ∧ s.size ≤ 1200
  · have HZ : Hid (natsL (sufZ s) = natsL (srt (sufB (bytesOf s)) (List.range' 0 s.size))) := hidden (by
      unfold sufZ; rw [if_pos hok]; unfold sufO; rw [bytesOf_len, List.range_eq_range'])
    have HL := hidden (sufZ_len s hok)
    rw [decide_eq_true hok] at KO
    have K := hidden (fun W => sortedPart_any s 0 s.size W (by omega) (by omega))
    rw [Nat.zero_add] at K
    go_enter Try.func13, Try.ntmps13
    go_wp2_with fail
    refine (KO.out _).mono ?_
    rintro e w1 ⟨rfl, rfl⟩
    go_wp2_with fail
    refine (K.out _).mono ?_
    rintro e w1 ⟨v, rfl, o1, b1⟩
    have O1 := hidden o1
    clear o1
    go_wp2
    go_ret
    exact ⟨v, rfl, by rw [HZ.out, HL.out]; exact O1.out, b1⟩
  · have HZ : Hid (sufZ s = []) := hidden (by unfold sufZ; rw [if_neg hok])
    rw [decide_eq_false hok] at KO
    go_enter Try.func13, Try.ntmps13
    go_wp2_with fail
    refine (KO.out _).mono ?_
    rintro e w1 ⟨rfl, rfl⟩
    go_wp2
    go_ret
    exact ⟨_, rfl, by rw [HZ.out]; exact World.ownsRow_nil _ _ _ _, Below.refl _ _⟩
end Go.Proofs.Ytpjgoikdfkaefaa
namespace Go.Proofs.Ytpjgoikdfkaefaa
set_option linter.unusedVariables false
set_option linter.unusedSimpArgs false
open Go.RowKit

theorem rot_ab : rotO [97, 98] = [0, 1] := by
  refine (rotO_is ⟨by decide, ?_⟩).symm
  refine List.pairwise_cons.2 ⟨fun x hx => ?_, List.pairwise_singleton _ _⟩
  obtain rfl := List.mem_singleton.1 hx
  decide
def sAB : ByteArray := { data := #[97, 98] }
def sBA : ByteArray := { data := #[98, 97] }
def sABAB : ByteArray := { data := #[97, 98, 97, 98] }
theorem tn_lst : lstZ sAB = sBA ∧ fstZ sAB = 0 := by
  have h : bytesOf sAB = [97, 98] := by decide
  unfold lstZ fstZ lastL fstN
  rw [h, rot_ab, if_pos (by decide), if_pos (by decide)]
  decide
theorem tn_can : unC sBA 0 = sAB := by decide
theorem tn_un : unB sBA 0 = true ∧ unS sBA 0 = sAB := by
  have h : unB sBA 0 = true := by
    unfold unB
    rw [tn_can, tn_lst.1, tn_lst.2]
    decide
  exact ⟨h, by unfold unS; rw [if_pos h, tn_can]⟩
theorem tn_suf : sufZ sBA = [1, 0] := by
  have h : bytesOf sBA = [98, 97] := by decide
  unfold sufZ
  rw [if_pos (by decide), h, suf_ba]
theorem tn_per : perZ sABAB = 2 := by
  have h : bytesOf sABAB = [97, 98, 97, 98] := by decide
  have hp : IsPer [97, 98, 97, 98] 2 := by
    refine ⟨by decide, by decide, by decide, ?_⟩
    intro q h1 h2
    obtain rfl : q = 1 := by omega
    decide
  unfold perZ
  rw [if_pos (by decide), h, per_is hp]
  rfl
theorem tn_l2 (w : World) : Ints (w.alloc (.cells #[.int .i64 1, .int .i64 0] 3)) (w.heap.size + 1) (some ⟨w.heap.size, 0, none⟩) [1, 0] := Ints.lit w [1, 0] (by decide) (by decide)
/-- A row of its own beside a literal that holds the same. -/
theorem sameOwn11 (n : Nat) (Z : List Int) (base : Nat) (v : Value) (c2 : Nat) (w W : World) (a2 : Addr) (hn : Z.length = n) (hm : n ≤ 1000) (hr : ∀ x ∈ Z, -9223372036854775808 ≤ x ∧ x ≤ 9223372036854775807) (hown : w.ownsRow base 3 1 v n (intsV Z)) (hb : Below w.heap.size w W) (h2 : Ints W (w.heap.size + 1) (some a2) Z) :
    Calls Try.prog 34 #[v, .slice (some a2) n c2] W fun e w' => e = .returned (.bool true) ∧ Below W.heap.size W w' := by
  subst hn
  obtain ⟨a, c, rfl⟩ := own_shape hown
  have hI := (Ints.ofOwn hown (by omega) hr).2
  have := sameInts_any a (some a2) c c2 (w.heap.size + 1) Z Z W ((hI.below hb).mono (by omega)) h2
  rw [decide_eq_true rfl] at this
  exact this
theorem tn_k1 (W : World) : Calls Try.prog 33 #[.string sAB] W fun e w' => e = .returned (.tuple #[.string sBA, .int .i64 0]) ∧ Below W.heap.size W w' := by
  have := implLast_any sAB W (by decide)
  rw [tn_lst.1, tn_lst.2] at this
  exact this
theorem tn_k2 (W : World) : Calls Try.prog 51 #[.string sBA, .int .i64 0] W fun e w' => e = .returned (.tuple #[.string sAB, .bool true]) ∧ Below W.heap.size W w' := by
  have := implUnrotate_any sBA 0 W (by decide) (by decide) (by decide)
  rw [tn_un.1, tn_un.2] at this
  exact this
theorem tn_k3 (W : World) : Calls Try.prog 13 #[.string sBA] W fun e w' => ∃ v, e = .returned v ∧ w'.ownsRow W.heap.size 3 1 v 2 (intsV [1, 0]) ∧ Below W.heap.size W w' := by
  have := implSuf_small sBA W (by decide)
  rw [tn_suf] at this
  exact this
theorem tn_k4 (m : Int) (W : World) (hm : W.cell? ⟨0, 0, none⟩ = some (.int .i64 m)) : Calls Try.prog 30 #[.string sABAB] W fun e w' => e = .returned (.int .i64 2) ∧ Below W.heap.size W w' := by
  have := implPeriod_any sABAB m W (by decide) hm
  rw [tn_per] at this
  exact this
set_option maxHeartbeats 2000000 in
set_option maxRecDepth 100000 in
theorem turns_any (m : Int) (w : World) (hm : w.cell? ⟨0, 0, none⟩ = some (.int .i64 m)) (hg : 0 < w.heap.size) : Calls Try.prog 27 #[] w fun e w' => e = .returned (.bool true) ∧ Below w.heap.size w w' := by
  have K1 := hidden tn_k1
  have K2 := hidden tn_k2
  have K3 := hidden tn_k3
  have K4 := hidden (tn_k4 m)
  have q1 : sBA.toList = [98, 97] := by rw [ByteArray.toList_eq]; rfl
  have q2 : sAB.toList = [97, 98] := by rw [ByteArray.toList_eq]; rfl
  go_enter Try.func27, Try.ntmps27
  go_wp2_with fail
  refine (K1.out _).mono ?_
  rintro e w1 ⟨rfl, b1⟩
  go_wp2_with fail
  refine (K2.out _).mono ?_
  rintro e w2 ⟨rfl, b2⟩
  have B2 := bel_then b2 b1.size b1
  clear b1 b2
  go_wp2_with fail
  refine (K3.out _).mono ?_
  rintro e w3 ⟨v3, rfl, ho3, b3⟩
  have B3 := bel_then b3 B2.size B2
  clear b3 B2
  go_wp2_with fail
  refine (sameOwn11 2 [1, 0] _ v3 _ w3 _ _ rfl (by decide) (by decide) ho3 ((Below.refl _ _).alloc (by omega) _) (tn_l2 w3)).mono ?_
  rintro e w4 ⟨rfl, b4⟩
  have B4 : Below w.heap.size w w4 := bel_then b4 (by have := B3.size; simp; omega) (B3.alloc B3.size _)
  clear b4 B3 ho3
  have hm4 := (B4.cell (p := ⟨0, 0, none⟩) hg).trans hm
  go_wp2_with fail
  refine (K4.out _ hm4).mono ?_
  rintro e w5 ⟨rfl, b5⟩
  have B5 := bel_then b5 B4.size B4
  go_wp2
  go_ret
  exact ⟨rfl, B5⟩
end Go.Proofs.Ytpjgoikdfkaefaa
namespace Go.Proofs.Ytpjgoikdfkaefaa
set_option linter.unusedVariables false
set_option linter.unusedSimpArgs false
open Go.RowKit

theorem Try.infoBool11 : (Try.prog.info? 4).map (fun i => (i.zero, i.size, i.bytes)) = some (some (.bool false), 1, 1) := by kernel_rfl
theorem Fs.bel11 {w w' : World} {g n cap B : Nat} {f : Nat → Nat} (h : Fs w g n cap f) (hb : Below B w w') (hg : g < B) : Fs w' g n cap f := by
  obtain ⟨h1, cur, h2, h3⟩ := h
  exact ⟨h1, cur, h2.below hb hg, h3⟩
theorem Fs.set11 {w : World} {g n cap : Nat} {f : Nat → Nat} (h : Fs w g n cap f) {p : Addr} (hp : g ≠ p.block) (u : Value) : Fs (w.setCell p u) g n cap f := by
  obtain ⟨h1, cur, h2, h3⟩ := h
  exact ⟨h1, cur, h2.storeAway hp u, h3⟩
def bl (n : Nat) (f : Nat → Bool) : List Value := (List.range n).map fun j => Value.bool (f j)
theorem bl_len (n : Nat) (f : Nat → Bool) : (bl n f).length = n := by simp [bl]
theorem bl_get (n : Nat) (f : Nat → Bool) (s : Nat) (h : s < n) : (bl n f)[s]? = some (.bool (f s)) := by simp [bl, h]
theorem bl_set (n : Nat) (f : Nat → Bool) (s : Nat) (b : Bool) : (bl n f).set s (.bool b) = bl n (fun t => if t = s then b else f t) := by
  apply List.ext_getElem (by simp [bl])
  intro i h1 h2
  by_cases e : s = i
  · subst e; simp [bl]
  · have : ¬ i = s := fun h => e h.symm
    simp [bl, List.getElem_set, e, this]
theorem bl_congr {n : Nat} {f g : Nat → Bool} (h : ∀ s, s < n → f s = g s) : bl n f = bl n g := by
  unfold bl
  exact List.map_congr_left fun s hs => by rw [h s (List.mem_range.1 hs)]
theorem made_bl (n : Nat) : (madeCells #[Value.bool false] n).toList = bl n (fun _ => false) := by
  rw [toList_madeCells_one]
  apply List.ext_getElem (by simp [bl])
  intro i h1 h2
  simp [bl]
theorem rot_le (s : ByteArray) (a b : Nat) (ha : a ≤ s.size) (hb : b ≤ s.size) (h : leL (rotL (bytesOf s) a) (rotL (bytesOf s) b)) :
    (Op.bytesLess (s.extract a s.size ++ s.extract 0 a).toList (s.extract b s.size ++ s.extract 0 b).toList || (s.extract a s.size ++ s.extract 0 a).toList == (s.extract b s.size ++ s.extract 0 b).toList) = true := by
  have e : ∀ c, bytesOf (s.extract c s.size ++ s.extract 0 c) = rotL (bytesOf s) c := by
    intro c
    unfold rotL
    rw [← bytesOf_from]
    unfold bytesOf
    rw [ByteArray.data_append, Array.toList_append, List.map_append]
    congr 1
    rw [ByteArray.data_extract, Array.toList_extract, List.extract_eq_take_drop, List.map_take]
    simp
  rw [str_less, e, e]
  rcases h with h | h
  · simp [h]
  · have h2 := (e a).trans (h.trans (e b).symm)
    have h3 : s.extract a s.size ++ s.extract 0 a = s.extract b s.size ++ s.extract 0 b := by
      rw [← strOf_bytesOf (s.extract a s.size ++ s.extract 0 a), h2, strOf_bytesOf]
    rw [h3]; simp
end Go.Proofs.Ytpjgoikdfkaefaa
namespace Go.Proofs.Ytpjgoikdfkaefaa
set_option linter.unusedVariables false
set_option linter.unusedSimpArgs false
open Go.RowKit

set_option maxHeartbeats 4000000 in
set_option maxRecDepth 100000 in
theorem walk_FnRotations (w : World) (mx : Int) (hmx : w.cell? ⟨0, 0, none⟩ = some (.int .i64 mx)) (hgx : 0 < w.heap.size) (a0 : Option Addr) (len0 cap0 : Nat) (z0 : List Int) (w0 : IsRow .u8 w a0 len0 cap0 z0) :
    Calls Try.prog 8 #[.slice a0 len0 cap0] w fun e w' => e = .returned (.bool true) ∧ Below w.heap.size w w' := by
  have hcode := Code.ofRow w0
  obtain ⟨i0, hi, hz0, hz1, hz2⟩ := info_parts Try.infoBool11
  have KT := hidden (fun (W : World) (hW : Below w.heap.size w W) => turns_any mx W ((hW.cell (p := ⟨0, 0, none⟩) hgx).trans hmx) (Nat.lt_of_lt_of_le hgx hW.size))
  clear w0 hmx
  go_enter Try.func8, Try.ntmps8
  go_wp2_with fail
  refine (drawRotations_any _ _ _ _ _ hcode).mono ?_
  rintro e wa ⟨s, rfl, hs, Ba⟩
  clear hcode
  by_cases hok : 0 < s.size ∧ s.size ≤ 600
  · obtain ⟨h1, h2⟩ := hok
    have KR := hidden (fun W => rotations_in s W h1 h2)
    have hne : ¬ s = ByteArray.empty := by rintro rfl; simp at h1
    have h6 : decide ((600 : Int) < (s.size : Int)) = false := by simp; omega
    have h7 : ((s.size : Int) == 0) = false := by simp; omega
    go_wp2_with fail
    refine (KR.out _).mono ?_
    rintro e wb ⟨g, f, rfl, hg, hF, hL, Bb⟩
    have B := bel_then Bb Ba.size Ba
    have HF := hidden hF
    have HL := hidden hL
    have hgw : w.heap.size ≤ g := Nat.le_trans Ba.size hg
    have hgl := hF.lt
    clear hF hL KR Bb Ba hg
    have HR : Hid (∀ k, k < s.size → f k < s.size) := hidden (fun k hk => by
      have := rotO_lt (bytesOf s) (f k) (by rw [← HL.out]; unfold lF; exact List.mem_map.2 ⟨k, List.mem_range.2 hk, rfl⟩)
      rwa [bytesOf_len] at this)
    have HI : Hid (∀ i j, i < j → j < s.size → f i ≠ f j ∧ leL (rotL (bytesOf s) (f i)) (rotL (bytesOf s) (f j))) := hidden (fun i j hij hj => by
      have hp := List.pairwise_iff_getElem.1 (rotO_srt (bytesOf s)).2
      have hl : (rotO (bytesOf s)).length = s.size := by rw [rotO_len, bytesOf_len]
      have ei : ∀ k (hk : k < s.size), (rotO (bytesOf s))[k]'(by omega) = f k := fun k hk => by
        have := lF_get s.size f k hk
        rw [HL.out, List.getD_eq_getElem?_getD, List.getElem?_eq_getElem (by omega)] at this
        exact this
      have := hp i j (by omega) (by omega) hij
      rw [ei i (by omega), ei j hj] at this
      refine ⟨fun e => ?_, this.elim .inl fun h => .inr h.1⟩
      rw [e] at this
      exact rlt_irr _ _ this)
    clear HL
    go_wp2_with (at_make; refine wpList_make_full _ rfl _ _ 32 rfl wb.heap.size 4 i0 (.bool false) 1 Try.underlying32 hi hz0 hz1 .i64 .i64 _ _ s.size rfl rfl rfl rfl ?cc1 ?cc2 ?cc3 ?_)
    case cc1 => rw [hz2]; omega
    case cc2 => unfold maxLen; omega
    case cc3 => exact Nat.le_refl _
    intro w2 hown hgrow
    rw [made_bl] at hown
    have hbl := bel_made hgrow
    have hs2 := hbl.size
    clear hgrow
    have B2 : Below w.heap.size w w2 := bel_then hbl B.size B
    have HF2 := hidden (HF.out.bel11 hbl hgl)
    obtain ⟨q, hq⟩ : ∃ q, wb.heap.size = q := ⟨_, rfl⟩
    rw [hq] at hown hs2 hgl ⊢
    have hqw : w.heap.size ≤ q := by have := B.size; omega
    clear B HF hbl
    go_wp2
    go_loopw [6] (fun sk wr => ∃ (k : Nat), k ≤ s.size ∧ sk = .int .i64 k ∧ wr.ownsRow q 4 1 (.slice (some ⟨q, 0, none⟩) s.size s.size) s.size (bl s.size (fun j => decide (∃ i, i < k ∧ f i = j))) ∧ Hid (Fs wr g s.size s.size f) ∧ Below w.heap.size w wr) (fun sk _ => s.size - (intOf sk).toNat)
    case atStart => exact ⟨0, by omega, rfl, by rw [bl_congr (g := fun _ => false) (fun j _ => by simp)]; exact hown, HF2, B2⟩
    case round =>
      clear hown HF2 B2
      obtain ⟨k, hk, rfl, hown, HFr, hbl⟩ := hrel
      by_cases hlt : k < s.size
      · have hfk := HR.out k hlt
        have c1 := HFr.out.cell hlt
        have d0 := hown.cellAt (f k) (by omega)
        rw [bl_get _ _ _ hfk, decide_eq_false (by
          rintro ⟨i, h1, h2⟩
          exact (HI.out i k h1 hlt).1 h2)] at d0
        have f0 := hown.frozenAt (f k)
        have hownN := (hown.stored (f k) (.bool true)).1
        rw [bl_set] at hownN
        have e : bl s.size (fun t => if t = f k then true else decide (∃ i, i < k ∧ f i = t)) = bl s.size (fun j => decide (∃ i, i < k + 1 ∧ f i = j)) := bl_congr fun j _ => by
          by_cases h1 : j = f k
          · subst h1
            rw [if_pos rfl]
            exact (decide_eq_true ⟨k, by omega, rfl⟩).symm
          · rw [if_neg h1]
            apply decide_eq_decide.2
            constructor
            · rintro ⟨i, h2, h3⟩; exact ⟨i, by omega, h3⟩
            · rintro ⟨i, h2, h3⟩
              by_cases h4 : i = k
              · subst h4; exact absurd h3.symm h1
              · exact ⟨i, by omega, h3⟩
        rw [e] at hownN
        have hblN := hbl.setCell (p := ⟨q, f k, none⟩) hqw (.bool true)
        have HFN : Hid (Fs (wr.setCell ⟨q, f k, none⟩ (.bool true)) g s.size s.size f) := hidden (HFr.out.set11 (by show g ≠ q; omega) _)
        have hgq : g ≠ q := by omega
        clear e hown hbl
        by_cases hk0 : k = 0
        · subst hk0
          go_wp2
          go_big_quiet (fail)
          go_wp2
          go_roundw
          case rel => exact ⟨1, by omega, by go_num, hownN, HFN, ⟨hblN.os, hblN.tape, hblN.output, hblN.size, hblN.block⟩⟩
          case measure => simp [intOf]; omega
        · obtain ⟨k, rfl⟩ : ∃ j, k = j + 1 := ⟨k - 1, by omega⟩
          have hfj := HR.out k (by omega)
          have e0 := HFN.out.cell (j := k) (by omega)
          have e1 := HFN.out.cell (j := k + 1) hlt
          have hX := rot_le s (f k) (f (k + 1)) (by omega) (by omega) (HI.out k (k + 1) (by omega) hlt).2
          have hl1 : (f k : Int) ≤ (s.size : Int) := by omega
          have hl2 : (f (k + 1) : Int) ≤ (s.size : Int) := by omega
          go_wp2
          go_big_quiet (fail)
          go_wp2
          go_roundw
          case rel => exact ⟨k + 2, by omega, by go_num, hownN, HFN, ⟨hblN.os, hblN.tape, hblN.output, hblN.size, hblN.block⟩⟩
          case measure => simp [intOf]; omega
      · obtain rfl : k = s.size := by omega
        go_wp2_with fail
        refine (KT.out _ hbl).mono ?_
        rintro e w3 ⟨rfl, b3⟩
        have B3 := bel_then b3 hbl.size hbl
        go_wp2
        go_ret
        exact ⟨rfl, B3⟩
  · have KR := hidden (fun W => implRotations_own s W (by omega))
    have hZ : rotZ s = [] := by unfold rotZ; rw [if_neg hok]
    rw [hZ] at KR
    go_wp2_with fail
    refine (KR.out _).mono ?_
    rintro e wb ⟨v, rfl, hown, Bb⟩
    have B := bel_then Bb Ba.size Ba
    clear Bb Ba
    obtain ⟨a, c, rfl⟩ := own_shape hown
    by_cases h0 : s.size = 0
    · go_wp2_with fail
      refine (KT.out _ B).mono ?_
      rintro e w3 ⟨rfl, b3⟩
      have B3 := bel_then b3 B.size B
      go_wp2
      go_ret
      exact ⟨rfl, B3⟩
    · have h6 : 600 < s.size := by omega
      go_wp2_with fail
      refine (KT.out _ B).mono ?_
      rintro e w3 ⟨rfl, b3⟩
      have B3 := bel_then b3 B.size B
      go_wp2
      go_ret
      exact ⟨rfl, B3⟩
end Go.Proofs.Ytpjgoikdfkaefaa
namespace Go.Proofs.Ytpjgoikdfkaefaa
set_option linter.unusedVariables false
set_option linter.unusedSimpArgs false
open Go.RowKit

theorem lfN_ne {L : List Nat} {i j : Nat} (hi : i < L.length) (hj : j < L.length) (h : i ≠ j) : lfN L i ≠ lfN L j := by
  have key : ∀ x, x < L.length → ∃ k, k < L.length ∧ (ordO L).getD k 0 = x ∧ lfN L x = k := by
    intro x hx
    obtain ⟨k, hk, hkx⟩ := List.mem_iff_getElem.1 ((ordO_perm L).mem_iff.2 (List.mem_range.2 hx))
    have hk2 : k < L.length := by rwa [ordO_len] at hk
    have e : (ordO L).getD k 0 = x := by rw [List.getD_eq_getElem?_getD, List.getElem?_eq_getElem hk, hkx]; rfl
    have := ordO_place L k hk2
    rw [e] at this
    exact ⟨k, hk2, e, this⟩
  intro e
  obtain ⟨a, _, ha, ha2⟩ := key i hi
  obtain ⟨b, _, hb, hb2⟩ := key j hj
  rw [e, hb2] at ha2
  rw [ha2, ha] at hb
  exact h hb
theorem own_at11 {w : World} {base n : Nat} {e : TypeId} {v : Value} {xs : List Value} (h : w.ownsRow base e 1 v n xs) (hn : 0 < n) : ∃ g c, v = .slice (some ⟨g, 0, none⟩) n c ∧ base ≤ g := by
  rcases h.2 with ⟨_, h0⟩ | ⟨g, cap, cur, rfl, hb, _⟩
  · omega
  · exact ⟨g, cap, rfl, hb⟩
theorem lf_fs {w : World} {base g n c : Nat} {S : List Nat} (hn : S.length = n) (h : w.ownsRow base 3 1 (.slice (some ⟨g, 0, none⟩) n c) n (natsL (lfL S))) : Fs w g n c (lfN S) := by
  refine Fs.ofOwn (base := base) ?_
  rw [nats_lF]
  unfold lF
  rw [← hn]
  rw [← hn] at h
  exact h
theorem per_facts (s : ByteArray) (h1 : 0 < s.size) (h2 : s.size ≤ 600) : ∃ p : Nat, 1 ≤ p ∧ p ≤ s.size ∧ s.size % p = 0 ∧ ((s.extract p s.size ++ s.extract 0 p).toList == s.toList) = true ∧ perZ s = (p : Int) := by
  have hl := bytesOf_len s
  obtain ⟨p, hp⟩ := per_ex (bytesOf s) (by rw [hl]; exact h1)
  refine ⟨p, hp.1, by rw [← hl]; exact hp.2.1, by rw [← hl]; exact per_div hp, ?_, ?_⟩
  · have e : bytesOf (s.extract p s.size ++ s.extract 0 p) = rotL (bytesOf s) p := by
      unfold rotL
      rw [← bytesOf_from]
      unfold bytesOf
      rw [ByteArray.data_append, Array.toList_append, List.map_append]
      congr 1
      rw [ByteArray.data_extract, Array.toList_extract, List.extract_eq_take_drop, List.map_take]
      simp
    have e2 : rotL (bytesOf s) p = bytesOf s := by
      by_cases h : p < (bytesOf s).length
      · exact hp.2.2.1 h
      · have hq : p = (bytesOf s).length := by have := hp.2.1; omega
        unfold rotL
        rw [hq, List.drop_length, List.take_length, List.nil_append]
    have e3 : s.extract p s.size ++ s.extract 0 p = s := by
      rw [← strOf_bytesOf (s.extract p s.size ++ s.extract 0 p), e, e2, strOf_bytesOf]
    rw [e3]
    exact beq_self_eq_true _
  · unfold perZ
    rw [if_pos ⟨h1, h2⟩, per_is hp]
set_option maxHeartbeats 4000000 in
set_option maxRecDepth 100000 in
theorem walk_FnLfs (w : World) (mx : Int) (hmx : w.cell? ⟨0, 0, none⟩ = some (.int .i64 mx)) (hgx : 0 < w.heap.size) (a0 : Option Addr) (len0 cap0 : Nat) (z0 : List Int) (w0 : IsRow .u8 w a0 len0 cap0 z0) :
    Calls Try.prog 9 #[.slice a0 len0 cap0] w fun e w' => e = .returned (.bool true) ∧ Below w.heap.size w w' := by
  have hcode := Code.ofRow w0
  obtain ⟨i0, hi, hz0, hz1, hz2⟩ := info_parts Try.infoBool11
  have KT := hidden (fun (W : World) (hW : Below w.heap.size w W) => turns_any mx W ((hW.cell (p := ⟨0, 0, none⟩) hgx).trans hmx) (Nat.lt_of_lt_of_le hgx hW.size))
  have KM : Hid (∀ W : World, Below w.heap.size w W → W.cell? ⟨0, 0, none⟩ = some (.int .i64 mx)) := hidden (fun W hW => (hW.cell (p := ⟨0, 0, none⟩) hgx).trans hmx)
  clear w0 hmx
  go_enter Try.func9, Try.ntmps9
  go_wp2_with fail
  refine (drawLf_any _ _ _ _ _ hcode).mono ?_
  rintro e wa ⟨s, rfl, hs, Ba⟩
  clear hcode
  have KL := hidden (fun W => implLf_any s W (by omega))
  have KP := hidden (fun W hW => implPeriod_any s mx W (by omega) (KM.out W hW))
  go_wp2_with fail
  refine (KL.out _).mono ?_
  rintro e wb ⟨v, rfl, hown, Bb⟩
  have B := bel_then Bb Ba.size Ba
  have hown0 := hidden hown
  have hbw := Ba.size
  clear Bb Ba KL hown
  go_wp2_with fail
  refine (KP.out _ B).mono ?_
  rintro e wc ⟨rfl, Bc⟩
  have BC := bel_then Bc B.size B
  have HO := hidden (own_bel hown0.out Bc)
  have hbc := Bc.size
  clear Bc B KP hown0
  by_cases hok : 0 < s.size ∧ s.size ≤ 600
  · obtain ⟨h1, h2⟩ := hok
    have hZ : lfZ s = ints (lfL (bytesOf s)) := by unfold lfZ; rw [if_pos ⟨h1, h2⟩]
    have hll : (lfL (bytesOf s)).length = s.size := by unfold lfL; rw [List.length_map, List.length_range, bytesOf_len]
    obtain ⟨p, hp1, hp2, hp3, hp4, hp5⟩ := per_facts s h1 h2
    rw [hZ, intsV_ints, ints_len, hll] at HO
    rw [hp5]
    have HR : Hid (∀ k, k < s.size → lfN (bytesOf s) k < s.size) := hidden (fun k hk => by
      have := lfN_lt (S := bytesOf s) (i := k) (by rw [bytesOf_len]; exact hk)
      rwa [bytesOf_len] at this)
    have HI : Hid (∀ i j, i < j → j < s.size → lfN (bytesOf s) i ≠ lfN (bytesOf s) j) := hidden (fun i j hij hj => lfN_ne (by rw [bytesOf_len]; omega) (by rw [bytesOf_len]; omega) (by omega))
    obtain ⟨g, cp, rfl, hg⟩ := own_at11 HO.out h1
    have HF : Hid (Fs wc g s.size cp (lfN (bytesOf s))) := hidden (lf_fs (bytesOf_len s) HO.out)
    have hgw : w.heap.size ≤ g := Nat.le_trans hbw hg
    have hgl := HF.out.lt
    have HP4 := hidden hp4
    clear hZ hll hg HO hp4 hbc hbw hp5
    generalize lfN (bytesOf s) = f at HR HI HF
    have hne : ¬ s = ByteArray.empty := by rintro rfl; simp at h1
    have h6 : decide ((600 : Int) < (s.size : Int)) = false := by simp; omega
    have h7 : ((s.size : Int) == 0) = false := by simp; omega
    have hcw := BC.size
    go_wp2_with (at_make; refine wpList_make_full _ rfl _ _ 32 rfl wc.heap.size 4 i0 (.bool false) 1 Try.underlying32 hi hz0 hz1 .i64 .i64 _ _ s.size rfl rfl rfl rfl ?cc1 ?cc2 ?cc3 ?_)
    case cc1 => rw [hz2]; omega
    case cc2 => unfold maxLen; omega
    case cc3 => exact Nat.le_refl _
    intro w2 hown hgrow
    rw [made_bl] at hown
    have hbl := bel_made hgrow
    have hs2 := hbl.size
    clear hgrow
    have B2 : Below w.heap.size w w2 := bel_then hbl BC.size BC
    have HF2 := hidden (HF.out.bel11 hbl hgl)
    obtain ⟨q, hq⟩ : ∃ q, wc.heap.size = q := ⟨_, rfl⟩
    rw [hq] at hown hs2 hgl hcw ⊢
    have hqw : w.heap.size ≤ q := hcw
    clear BC HF hbl
    go_wp2
    go_loopw [7] (fun sk wr => ∃ (k : Nat), k ≤ s.size ∧ sk = .int .i64 k ∧ wr.ownsRow q 4 1 (.slice (some ⟨q, 0, none⟩) s.size s.size) s.size (bl s.size (fun j => decide (∃ i, i < k ∧ f i = j))) ∧ Hid (Fs wr g s.size cp f) ∧ Below w.heap.size w wr) (fun sk _ => s.size - (intOf sk).toNat)
    case atStart => exact ⟨0, by omega, rfl, by rw [bl_congr (g := fun _ => false) (fun j _ => by simp)]; exact hown, HF2, B2⟩
    case round =>
      clear hown HF2 B2
      obtain ⟨k, hk, rfl, hown, HFr, hbl⟩ := hrel
      have hgc : s.size ≤ cp := HFr.out.1
      by_cases hlt : k < s.size
      · have hfk := HR.out k hlt
        have c1 := HFr.out.cell hlt
        have d0 := hown.cellAt (f k) (by omega)
        rw [bl_get _ _ _ hfk, decide_eq_false (by
          rintro ⟨i, h1, h2⟩
          exact (HI.out i k h1 hlt) h2)] at d0
        have f0 := hown.frozenAt (f k)
        have hownN := (hown.stored (f k) (.bool true)).1
        rw [bl_set] at hownN
        have e : bl s.size (fun t => if t = f k then true else decide (∃ i, i < k ∧ f i = t)) = bl s.size (fun j => decide (∃ i, i < k + 1 ∧ f i = j)) := bl_congr fun j _ => by
          by_cases h1 : j = f k
          · subst h1
            rw [if_pos rfl]
            exact (decide_eq_true ⟨k, by omega, rfl⟩).symm
          · rw [if_neg h1]
            apply decide_eq_decide.2
            constructor
            · rintro ⟨i, h2, h3⟩; exact ⟨i, by omega, h3⟩
            · rintro ⟨i, h2, h3⟩
              by_cases h4 : i = k
              · subst h4; exact absurd h3.symm h1
              · exact ⟨i, by omega, h3⟩
        rw [e] at hownN
        have hblN := hbl.setCell (p := ⟨q, f k, none⟩) hqw (.bool true)
        have HFN : Hid (Fs (wr.setCell ⟨q, f k, none⟩ (.bool true)) g s.size cp f) := hidden (HFr.out.set11 (by show g ≠ q; omega) _)
        have hgq : g ≠ q := by omega
        clear e hown hbl
        go_wp2
        go_roundw
        case rel => exact ⟨k + 1, by omega, by go_num, hownN, HFN, hblN⟩
        case measure => simp [intOf]; omega
      · obtain rfl : k = s.size := by omega
        have r1 : (1 : Int) ≤ (p : Int) := by omega
        have r2 : (p : Int) ≤ (s.size : Int) := by omega
        have r3 : (s.size : Int).tmod (p : Int) = 0 := by rw [← Int.ofNat_tmod, hp3]; rfl
        have r4 := HP4.out
        have r5 : ¬ p = 0 := by omega
        have r7 : ((s.size : Int).tmod (p : Int) == 0) = true := by rw [r3]; rfl
        have r6 : ∀ W : World, (Op.stringOp .add (s.extract p s.size) (s.extract 0 p)).run Try.prog W = .ok (.string (s.extract p s.size ++ s.extract 0 p)) W := fun W =>
          run_string_add_sum W _ _ (by simp only [ByteArray.size_extract]; omega)
        have bb : Below w.heap.size w wr := hbl
        clear hbl hown HFr
        go_wp2
        go_region_held3 (fun w' => Below w.heap.size w w') (exact ⟨bb.os, bb.tape, bb.output, bb.size, bb.block⟩) (first | (go_at_call 27; (with_reducible refine (KT.out _ ?hW).mono ?_); (case hW => exact ⟨bb.os, bb.tape, bb.output, bb.size, bb.block⟩); rintro e wX ⟨rfl, BX⟩; have yX := BX.size; (try simp at yX); replace bb : Below w.heap.size w wX := bel_then BX (by (have hbb := bb.size; (try simp); (try omega))) ⟨bb.os, bb.tape, bb.output, bb.size, bb.block⟩; clear BX))
        all_goals
          go_wp2
          go_ret
          exact ⟨rfl, ⟨bb.os, bb.tape, bb.output, bb.size, bb.block⟩⟩
  · have hZ : lfZ s = [] := by unfold lfZ; rw [if_neg hok]
    have hP : perZ s = -1 := by unfold perZ; rw [if_neg hok]
    rw [hZ] at HO
    rw [hP]
    obtain ⟨a, c, rfl⟩ := own_shape HO.out
    clear HO
    by_cases h0 : s.size = 0
    · go_wp2_with fail
      refine (KT.out _ BC).mono ?_
      rintro e w3 ⟨rfl, b3⟩
      have B3 := bel_then b3 BC.size BC
      go_wp2
      go_ret
      exact ⟨rfl, B3⟩
    · have h6 : 600 < s.size := by omega
      go_wp2_with fail
      refine (KT.out _ BC).mono ?_
      rintro e w3 ⟨rfl, b3⟩
      have B3 := bel_then b3 BC.size BC
      go_wp2
      go_ret
      exact ⟨rfl, B3⟩
end Go.Proofs.Ytpjgoikdfkaefaa
