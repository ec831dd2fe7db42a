/- Merged: C7F, C7G, C7J, C8, C10, C8M, C10F, C10P. -/
import Derived.Test.YtpjgoikdfkaefaaGreatQZ15
import Derived.Test.YtpjgoikdfkaefaaGreatQZ13
import Derived.Test.YtpjgoikdfkaefaaGreatQZ3
import Derived.Test.YtpjgoikdfkaefaaGreatQZ5
import Derived.Lib.SmallJoins
import Derived.Deep.QuietTactic
import Derived.BigQuiet
import Derived.RegionTactic
import Derived.ChangeAlike
namespace Go.Proofs.YtpjgoikdfkaefaaGreat
set_option linter.unusedVariables false
set_option linter.unusedSimpArgs false
open Go.RowKit

theorem wide_bit (m k : Nat) (hm : m < 65536) : bits BinOp.and IntKind.i64 ((m : Int) / 2 ^ k) 1 = ((m / 2 ^ k % 2 : Nat) : Int) := by
  have h0 : m / 2 ^ k ≤ m := Nat.div_le_self _ _
  have := i64_and_nat (m / 2 ^ k) 1 (by omega) (by omega)
  rw [nat_mask1] at this
  rw [show ((m : Int) / 2 ^ k) = ((m / 2 ^ k : Nat) : Int) by simp, show (1 : Int) = ((1 : Nat) : Int) by rfl, this]
/-- What reading a set answers, the reader being in block b. -/
def L7UPost (s : ByteArray) (at0 b : Nat) (T : TypeId) (w : World) (e : Ending) (w' : World) : Prop :=
  ((∃ (u : List Nat) (q : Nat), getU s at0 = some (u, q) ∧ e = .returned (.string (strOf u)) ∧ Has w' b T #[.string s, .int .i64 (q : Int)]) ∨
   (getU s at0 = none ∧ e = .returned (.string ⟨#[]⟩))) ∧ Only b w w'
end Go.Proofs.YtpjgoikdfkaefaaGreat
namespace Go.Proofs.YtpjgoikdfkaefaaGreat
set_option linter.unusedVariables false
set_option linter.unusedSimpArgs false
open Go.RowKit

/-- What a reader of chapter 7 answers, G being what stands there. -/
def GG7 (s : ByteArray) (G : Option (List Nat × Nat)) (w : World) (e : Ending) (w' : World) : Prop :=
  ((∃ (u : List Nat) (q : Nat), G = some (u, q) ∧ e = .returned (.tuple #[.string (strOf u), .agg #[.string s, .int .i64 (q : Int)], .bool true])) ∨
   (G = none ∧ e = .returned (.tuple #[.string ⟨#[]⟩, .agg #[.string ⟨#[]⟩, .int .i64 0], .bool false]))) ∧ Below w.heap.size w w'
theorem str_nonempty {s : ByteArray} (h : 0 < s.size) : s.toList.isEmpty = false := by
  rw [Bool.eq_false_iff]
  intro e
  rw [List.isEmpty_iff, ByteArray.toList_eq] at e
  have h2 : s.data.toList.length = s.size := by simp
  rw [e] at h2
  simp at h2
  omega
theorem str_pos {D : List Nat} (h : D ≠ []) : 0 < (strOf D).size := by rw [strOf_size]; exact List.length_pos_iff.2 h
end Go.Proofs.YtpjgoikdfkaefaaGreat
namespace Go.Proofs.YtpjgoikdfkaefaaGreat
set_option linter.unusedVariables false
set_option linter.unusedSimpArgs false
open Go.RowKit

/-- Can S be told by an order O? -/
def rkOk (S O : List Nat) : Bool := decide (S.length ≤ 600 ∧ ordOk O = true ∧ ∀ b ∈ S, b ∈ O)
theorem rkOk_iff (S O : List Nat) : rkOk S O = true ↔ S.length ≤ 600 ∧ ordOk O = true ∧ ∀ b ∈ S, b ∈ O := by simp [rkOk]
def rkTo (S O : List Nat) (k : Nat) : List Int := (S.take k).map fun b => (O.idxOf b : Int)
/-- The ranks of S in O; nothing where they can't be told. -/
def rkL (S O : List Nat) : List Int := if rkOk S O = true then rkTo S O S.length else []
theorem rkTo_len (S O : List Nat) (k : Nat) (h : k ≤ S.length) : (rkTo S O k).length = k := by simp [rkTo]; omega
theorem rkTo_succ (S O : List Nat) (k : Nat) (h : k < S.length) : rkTo S O (k + 1) = rkTo S O k ++ [(O.idxOf (S.getD k 0) : Int)] := by
  unfold rkTo
  rw [List.take_succ_eq_append_getElem h, List.map_append]
  simp [List.getD_eq_getElem?_getD, h]
theorem intsV_snoc7 (D : List Int) (x : Int) : intsV (D ++ [x]) = intsV D ++ [.int .i64 x] := by simp [intsV]
theorem ret_pair {v : Value} {a b : Bool} (h : a = b) : Ending.returned (.tuple #[v, .bool a]) = .returned (.tuple #[v, .bool b]) := by rw [h]
theorem bool_false {b : Bool} (h : ¬ b = true) : b = false := by simpa using h
/-- Are these ranks in an order O? -/
def frOk (z : List Int) (O : List Nat) : Bool := decide (z.length ≤ 600 ∧ ordOk O = true ∧ ∀ x ∈ z, 0 ≤ x ∧ x < (O.length : Int))
theorem frOk_iff (z : List Int) (O : List Nat) : frOk z O = true ↔ z.length ≤ 600 ∧ ordOk O = true ∧ ∀ x ∈ z, 0 ≤ x ∧ x < (O.length : Int) := by simp [frOk]
def frTo (z : List Int) (O : List Nat) (k : Nat) : List Nat := (z.take k).map fun x => O.getD x.toNat 0
/-- The bytes of ranks; none where they are no ranks. -/
def frL (z : List Int) (O : List Nat) : List Nat := if frOk z O = true then frTo z O z.length else []
theorem frTo_len (z : List Int) (O : List Nat) (k : Nat) (h : k ≤ z.length) : (frTo z O k).length = k := by simp [frTo]; omega
theorem frTo_succ (z : List Int) (O : List Nat) (k : Nat) (h : k < z.length) : frTo z O (k + 1) = frTo z O k ++ [O.getD (z.getD k 0).toNat 0] := by
  unfold frTo
  rw [List.take_succ_eq_append_getElem h, List.map_append]
  simp [List.getD_eq_getElem?_getD, h]
theorem strOf_nil : strOf [] = ⟨#[]⟩ := rfl
end Go.Proofs.YtpjgoikdfkaefaaGreat
namespace Go.Proofs.YtpjgoikdfkaefaaGreat
set_option linter.unusedVariables false
set_option linter.unusedSimpArgs false
open Go.RowKit

theorem ret_i8 {a b : Int} (h : a = b) : Ending.returned (.int .i64 a) = .returned (.int .i64 b) := by rw [h]
theorem own_cap7 {w : World} {base g n c S : Nat} {e : TypeId} {xs : List Value} (h : w.ownsRow base e S (.slice (some ⟨g, 0, none⟩) n c) n xs) : n ≤ c := by
  rcases h.2 with ⟨h', _⟩ | ⟨g', cap', cur, h', _, _, hnc, _⟩
  · simp at h'
  · simp only [Value.slice.injEq] at h'
    omega
theorem add_at7 (g i j : Nat) : (⟨g, i, none⟩ : Addr).add j = ⟨g, i + j, none⟩ := by unfold Addr.add; split <;> simp_all
theorem own_bel7 {w w' : World} {base n S B : Nat} {e : TypeId} {v : Value} {xs : List Value} (h : w.ownsRow base e S v n xs) (hB : base ≤ B) (hb : Below w.heap.size w w') : w'.ownsRow base e S v n xs := own_bel h hb
theorem bel_made {w w1 : World} (hg : w.grownBy w1 none) : Below w.heap.size w w1 := ⟨hg.os, hg.tape, hg.output, hg.size, fun i hi => hg.block i hi (by simp)⟩
set_option maxHeartbeats 1000000 in
set_option maxRecDepth 100000 in
theorem l8row_any (n : Nat) (w : World) (hn : n ≤ 1048576) :
    Calls Tryz.prog 51 #[.int .i64 n] w fun e w' => ∃ g, e = .returned (.slice (some ⟨g, 0, none⟩) n n) ∧ w'.ownsRow w.heap.size 3 1 (.slice (some ⟨g, 0, none⟩) n n) n (natsL (List.range n)) ∧ Below w.heap.size w w' := by
  obtain ⟨i0, hi, hz0, hz1, hz2⟩ := info_parts Tryz.infoInt
  go_enter Tryz.func51, Tryz.ntmps51
  go_wp2_with (at_make; refine wpList_make_full _ rfl _ _ 33 rfl w.heap.size 3 i0 (.int .i64 0) 1 Tryz.underlying33 hi hz0 hz1 .i64 .i64 _ _ n rfl rfl rfl rfl ?cb1 ?cb2 ?cb3 ?_)
  case cb1 => rw [hz2]; omega
  case cb2 => unfold maxLen; omega
  case cb3 => exact Nat.le_refl _
  intro w2 hown hgrow
  have hbl := bel_made hgrow
  rw [made_nats] at hown
  clear hgrow
  go_wp2
  go_loopw [4] (fun sk wr => ∃ (k : Nat) (f : Nat → Nat), k ≤ n ∧ sk = .int .i64 k ∧ Hid (∀ j, j < k → f j = j) ∧ wr.ownsRow w.heap.size 3 1 (.slice (some ⟨w.heap.size, 0, none⟩) n n) n (nats n f) ∧ Below w.heap.size w wr) (fun sk _ => n - (intOf sk).toNat)
  case atStart => exact ⟨0, fun _ => 0, by omega, rfl, hidden (fun j hj => by omega), hown, hbl⟩
  case round =>
    obtain ⟨k, f, hk, rfl, HF, hownF, hblF⟩ := hrel
    clear hown hbl
    by_cases hlt : k < n
    · have d0 := hownF.cellAt k (by omega)
      rw [nats_get _ _ _ hlt] at d0
      have f0 := hownF.frozenAt k
      have HF2 : Hid (∀ j, j < k + 1 → (if j = k then k else f j) = j) := hidden (fun j hj => by
        split
        · omega
        · exact HF.out j (by omega))
      go_wp2
      go_roundw
      case rel => exact ⟨k + 1, fun t => if t = k then k else f t, by omega, by go_num, HF2, by rw [← nats_set]; exact (hownF.stored k _).1, hblF.setCell (by simp) _⟩
      case measure => simp [intOf]; omega
    · have hkn : k = n := by omega
      subst hkn
      have HE : Hid (nats k f = natsL (List.range k)) := hidden (by
        rw [natsL_nats, List.length_range]
        exact nats_congr fun s hs => by rw [HF.out s hs]; simp [List.getD_eq_getElem?_getD, hs])
      rw [HE.out] at hownF
      go_wp2
      go_ret
      exact ⟨_, rfl, hownF, hblF⟩
end Go.Proofs.YtpjgoikdfkaefaaGreat
namespace Go.Proofs.YtpjgoikdfkaefaaGreat
set_option linter.unusedVariables false
set_option linter.unusedSimpArgs false
open Go.RowKit

theorem specL10ok_any (s : ByteArray) (w : World) (hs : s.size ≤ 1048576) :
    Calls Tryz.prog 23 #[.string s] w fun e w' => e = .returned (.bool (decide (0 < s.size ∧ s.size ≤ 600))) ∧ w = w' := by
  by_cases h1 : 0 < s.size
  · by_cases h2 : s.size ≤ 600
    · go_enter Tryz.func23, Tryz.ntmps23
      go_wp2
      go_ret
      exact ⟨ret_bool (by simp [h1, h2]; try omega), rfl⟩
    · go_enter Tryz.func23, Tryz.ntmps23
      go_wp2
      go_ret
      exact ⟨ret_bool (by simp [h1, h2]; try omega), rfl⟩
  · go_enter Tryz.func23, Tryz.ntmps23
    go_wp2
    go_ret
    exact ⟨ret_bool (by simp [h1]), rfl⟩
theorem rotB_at (s : ByteArray) (i k q : Nat) (h : (i + k) % s.size = q) (hq : q < s.size) : rotB (bytesOf s) i k = s[q].toNat := by
  unfold rotB
  rw [bytesOf_len, h, bytesOf_get]
  unfold byteAt
  simp [hq]
  rfl
set_option maxHeartbeats 1000000 in
set_option maxRecDepth 100000 in
theorem specL10less_any (s : ByteArray) (i j : Nat) (w : World) (hs : s.size ≤ 1048576) (hi : i < s.size) (hj : j < s.size) :
    Calls Tryz.prog 66 #[.string s, .int .i64 i, .int .i64 j] w fun e w' => e = .returned (.bool (decide (rlt (bytesOf s) i j))) ∧ w = w' := by
  have HD := hidden (fun k => rlt_diff (S := bytesOf s) (i := i) (j := j) (k := k) (by rw [bytesOf_len]; exact hi) (by rw [bytesOf_len]; exact hj))
  have HS := hidden (rlt_same (S := bytesOf s) (i := i) (j := j) (by rw [bytesOf_len]; exact hi) (by rw [bytesOf_len]; exact hj))
  obtain ⟨b, hb⟩ : ∃ b, decide (rlt (bytesOf s) i j) = b := ⟨_, rfl⟩
  have HB := hidden hb
  rw [hb]
  clear hb
  go_enter Tryz.func66, Tryz.ntmps66
  go_wp2
  go_loopw [7] (fun sk wr => ∃ k : Nat, k ≤ s.size ∧ sk = .int .i64 k ∧ Hid (∀ t, t < k → rotB (bytesOf s) i t = rotB (bytesOf s) j t) ∧ w = wr) (fun sk _ => s.size - (intOf sk).toNat)
  case atStart => exact ⟨0, Nat.zero_le _, rfl, hidden (fun t ht => by omega), rfl⟩
  case round =>
    obtain ⟨k, hk, rfl, HE, rfl⟩ := hrel
    by_cases hlt : k < s.size
    · obtain ⟨p, hp⟩ : ∃ p, (i + k) % s.size = p := ⟨_, rfl⟩
      obtain ⟨q, hq⟩ : ∃ q, (j + k) % s.size = q := ⟨_, rfl⟩
      have hp2 : p < s.size := by rw [← hp]; exact Nat.mod_lt _ (by omega)
      have hq2 : q < s.size := by rw [← hq]; exact Nat.mod_lt _ (by omega)
      have hpi : ((i : Int) + (k : Int)) % (s.size : Int) = (p : Int) := by rw [← hp]; simp
      have hqi : ((j : Int) + (k : Int)) % (s.size : Int) = (q : Int) := by rw [← hq]; simp
      have HP := hidden (rotB_at s i k p hp hp2)
      have HQ := hidden (rotB_at s j k q hq hq2)
      clear hp hq
      by_cases e : s[p].toNat = s[q].toNat
      · have hne : ((s[p].toNat : Int) != (s[q].toNat : Int)) = false := by simp [e]
        have HE2 : Hid (∀ t, t < k + 1 → rotB (bytesOf s) i t = rotB (bytesOf s) j t) := hidden (fun t ht => by
          rcases Nat.lt_or_ge t k with h | h
          · exact HE.out t h
          · rw [show t = k by omega, HP.out, HQ.out, e])
        clear e
        go_wp2
        go_roundw
        case rel => exact ⟨k + 1, by omega, by go_num, HE2, trivial⟩
        case measure => simp [intOf]; omega
      · have hne : ((s[p].toNat : Int) != (s[q].toNat : Int)) = true := by simp; omega
        have HF : Hid (b = decide (s[p].toNat < s[q].toNat)) := hidden (by
          have := HD.out k (by rw [bytesOf_len]; exact hlt) HE.out (by rw [HP.out, HQ.out]; exact e)
          rw [HP.out, HQ.out] at this
          rw [← HB.out, Bool.eq_iff_iff]
          simp only [decide_eq_true_eq]
          exact this)
        clear e
        go_wp2
        go_ret
        exact ⟨ret_bool HF.out.symm, rfl⟩
    · have hke : k = s.size := by omega
      subst hke
      have HF : Hid (b = decide (j < i)) := hidden (by
        have := HS.out (by rw [bytesOf_len]; exact HE.out)
        rw [← HB.out, Bool.eq_iff_iff]
        simp only [decide_eq_true_eq]
        exact this)
      go_wp2
      go_ret
      exact ⟨ret_bool HF.out.symm, rfl⟩
end Go.Proofs.YtpjgoikdfkaefaaGreat
namespace Go.Proofs.YtpjgoikdfkaefaaGreat
set_option linter.unusedVariables false
set_option linter.unusedSimpArgs false
open Go.RowKit

theorem intsV_ints (L : List Nat) : intsV (ints L) = natsL L := by simp [intsV, ints, natsL]
theorem natsL_snoc8 (D : List Nat) (x : Nat) : natsL (D ++ [x]) = natsL D ++ [.int .i64 (x : Int)] := by simp [natsL]
theorem ints_cell {w : World} {B b off : Nat} {L : List Nat} (hc : ∀ i, i < (ints L).length → w.cell? ⟨b, off + i, none⟩ = some (.int .i64 ((ints L).getD i 0))) (k : Nat) (hk : k < L.length) : w.cell? ⟨b, off + k, none⟩ = some (.int .i64 ((L.getD k 0 : Nat) : Int)) := by
  have := hc k (by rw [ints_len]; exact hk)
  rwa [ints_get] at this
end Go.Proofs.YtpjgoikdfkaefaaGreat
namespace Go.Proofs.YtpjgoikdfkaefaaGreat
set_option linter.unusedVariables false
set_option linter.unusedSimpArgs false
open Go.RowKit

def lfZ (s : ByteArray) : List Int := if 0 < s.size ∧ s.size ≤ 600 then ints (lfL (bytesOf s)) else []
/-- The row while the number at i is counted. -/
def lfW (S : List Nat) (i t j : Nat) : Nat := if j < i then lfN S j else if j = i then t else 0
theorem byte_get (s : ByteArray) (k : Nat) (h : k < s.size) : (bytesOf s).getD k 0 = s[k].toNat := by
  rw [bytesOf_get]; unfold byteAt; simp [h]; rfl
set_option maxHeartbeats 2000000 in
set_option maxRecDepth 100000 in
theorem specLf_any (s : ByteArray) (w : World) (hs : s.size ≤ 1048576) :
    Calls Tryz.prog 24 #[.string s] w fun e w' => ∃ v, e = .returned v ∧ w'.ownsRow w.heap.size 3 1 v (lfZ s).length (intsV (lfZ s)) ∧ Below w.heap.size w w' := by
  obtain ⟨i0, hi, hz0, hz1, hz2⟩ := info_parts Tryz.infoI
  have KO := hidden (fun W => specL10ok_any s W hs)
  by_cases hok : 0 < s.size ∧ s.size ≤ 600
  · have hZ : lfZ s = ints (lfL (bytesOf s)) := by unfold lfZ; rw [if_pos hok]
    have hl : (lfL (bytesOf s)).length = s.size := by unfold lfL; rw [List.length_map, List.length_range, bytesOf_len]
    rw [hZ, ints_len, hl, intsV_ints]
    rw [decide_eq_true hok] at KO
    obtain ⟨h1, h2⟩ := hok
    have HALL : Hid (∀ t, nats s.size (lfW (bytesOf s) s.size t) = natsL (lfL (bytesOf s))) := hidden (fun t => by
      unfold nats natsL lfL
      rw [List.map_map, bytesOf_len]
      apply List.map_congr_left
      intro j hj
      have := List.mem_range.1 hj
      simp [lfW, this])
    have HB := hidden (byte_get s)
    have HLT := hidden (fun i k => lfT_le (bytesOf s) i k)
    have HST := hidden (fun i k => lfT_succ (bytesOf s) i k)
    have HZERO : Hid (nats s.size (fun _ => 0) = nats s.size (lfW (bytesOf s) 0 0)) := hidden (nats_congr fun j _ => by simp [lfW])
    have HNEXT : Hid (∀ i, i < s.size → nats s.size (lfW (bytesOf s) i (lfT (bytesOf s) i s.size)) = nats s.size (lfW (bytesOf s) (i + 1) 0)) := hidden (fun i hi => nats_congr fun j _ => by
      unfold lfW lfN
      rw [bytesOf_len]
      by_cases a : j < i
      · rw [if_pos a, if_pos (by omega)]
      · by_cases b : j = i
        · subst b; rw [if_neg a, if_pos rfl, if_pos (by omega)]
        · rw [if_neg a, if_neg b, if_neg (by omega)]; split <;> rfl)
    have HSET : Hid (∀ i t u, (nats s.size (lfW (bytesOf s) i t)).set i (.int .i64 ((u : Nat) : Int)) = nats s.size (lfW (bytesOf s) i u)) := hidden (fun i t u => by
      rw [nats_set]
      apply nats_congr
      intro j _
      unfold lfW
      by_cases b : j = i
      · subst b; simp
      · simp [b])
    clear hZ hl
    go_enter Tryz.func24, Tryz.ntmps24
    go_wp2_with fail
    refine (KO.out _).mono ?_
    rintro e w1 ⟨rfl, rfl⟩
    clear KO
    go_wp2_with (at_make; refine wpList_make_full _ rfl _ _ 33 rfl w.heap.size 3 i0 (.int .i64 0) 1 Tryz.underlying33 hi hz0 hz1 .i64 .i64 _ _ s.size rfl rfl rfl rfl ?cc1 ?cc2 ?cc3 ?_)
    case cc1 => rw [hz2]; omega
    case cc2 => unfold maxLen; omega
    case cc3 => exact Nat.le_refl _
    intro w2 hown hgrow
    rw [made_nats, HZERO.out] at hown
    have hbl := bel_made hgrow
    clear hgrow
    obtain ⟨g, hg⟩ : ∃ g, w.heap.size = g := ⟨_, rfl⟩
    rw [hg] at hown hbl ⊢
    go_wp2
    go_loopw [4] (fun si wr => ∃ i : Nat, i ≤ s.size ∧ si = .int .i64 i ∧ wr.ownsRow g 3 1 (.slice (some ⟨g, 0, none⟩) s.size s.size) s.size (nats s.size (lfW (bytesOf s) i 0)) ∧ Below g w wr) (fun si _ => s.size - (intOf si).toNat)
    case atStart => exact ⟨0, Nat.zero_le _, rfl, hown, hbl⟩
    case round =>
      clear hown hbl
      obtain ⟨i, hi2, rfl, hown, hbl⟩ := hrel
      by_cases hlt : i < s.size
      · have hLT0 : lfT (bytesOf s) i 0 = 0 := rfl
        rw [← hLT0] at hown
        clear hLT0
        obtain ⟨wi, hwi⟩ : ∃ W, wr = W := ⟨_, rfl⟩
        rw [hwi] at hown hbl ⊢
        clear hwi
        go_wp2
        go_loopw [5] (fun sk wq => ∃ k : Nat, k ≤ s.size ∧ sk = .int .i64 k ∧ wq.ownsRow g 3 1 (.slice (some ⟨g, 0, none⟩) s.size s.size) s.size (nats s.size (lfW (bytesOf s) i (lfT (bytesOf s) i k))) ∧ Below g w wq) (fun sk _ => s.size - (intOf sk).toNat)
        case atStart => exact ⟨0, Nat.zero_le _, rfl, hown, hbl⟩
        case round =>
          clear hown hbl
          obtain ⟨k, hk, rfl, hown, hbl⟩ := hrel
          by_cases hkl : k < s.size
          · have HK := hidden (HB.out k hkl)
            have HI := hidden (HB.out i hlt)
            have HS := hidden (HST.out i k)
            have hle := HLT.out i k
            obtain ⟨t, ht⟩ : ∃ t, lfT (bytesOf s) i k = t := ⟨_, rfl⟩
            have HT := hidden ht
            rw [ht] at hle hown
            have d0 := hown.cellAt i (by omega)
            rw [nats_get _ _ _ hlt, show lfW (bytesOf s) i t i = t by simp [lfW]] at d0
            have f0 := hown.frozenAt i
            clear ht
            by_cases c1 : s[k].toNat < s[i].toNat
            · have hA : decide (s[k].toNat < s[i].toNat) = true := by simp; omega
              have HBV : Hid (lfB (bytesOf s) i k = true) := hidden (by unfold lfB; rw [HK.out, HI.out]; simp; omega)
              have HU : Hid (lfT (bytesOf s) i (k + 1) = t + 1) := hidden (by rw [HS.out, HBV.out, HT.out]; simp)
              clear c1
              have hownN := (hown.stored i (.int .i64 ((t + 1 : Nat) : Int))).1
              rw [HSET.out] at hownN
              have eN : nats s.size (lfW (bytesOf s) i (t + 1)) = nats s.size (lfW (bytesOf s) i (lfT (bytesOf s) i (k + 1))) := by rw [HU.out]
              rw [eN] at hownN
              have et : ((t + 1 : Nat) : Int) = (t : Int) + 1 := by omega
              rw [et] at hownN
              clear et eN
              go_wp2
              go_big_quiet (fail)
              go_wp2
              exact ⟨⟨k + 1, by omega, by go_num, hownN, (bel_drewN hbl _).setCell (p := ⟨g, i, none⟩) (Nat.le_refl _) _⟩, by simp [intOf]; omega⟩
            by_cases c2 : s[k].toNat = s[i].toNat
            · by_cases c3 : k < i
              · have hA : decide (s[k].toNat < s[i].toNat) = false := by simp; omega
                have hE : ((s[k].toNat : Int) == (s[i].toNat : Int)) = true := by simp; omega
                have hE2 : (s[k].toNat == s[i].toNat) = true := by simp; omega
                have hE3 : decide (s[k].toNat = s[i].toNat) = true := by simp; omega
                have hK : decide (k < i) = true := by simp; omega
                have HBV : Hid (lfB (bytesOf s) i k = true) := hidden (by unfold lfB; rw [HK.out, HI.out]; simp; omega)
                have HU : Hid (lfT (bytesOf s) i (k + 1) = t + 1) := hidden (by rw [HS.out, HBV.out, HT.out]; simp)
                clear c1 c2 c3
                have hownN := (hown.stored i (.int .i64 ((t + 1 : Nat) : Int))).1
                rw [HSET.out] at hownN
                have eN : nats s.size (lfW (bytesOf s) i (t + 1)) = nats s.size (lfW (bytesOf s) i (lfT (bytesOf s) i (k + 1))) := by rw [HU.out]
                rw [eN] at hownN
                have et : ((t + 1 : Nat) : Int) = (t : Int) + 1 := by omega
                rw [et] at hownN
                clear et eN
                go_wp2
                go_big_quiet (fail)
                go_wp2
                exact ⟨⟨k + 1, by omega, by go_num, hownN, (bel_drewN hbl _).setCell (p := ⟨g, i, none⟩) (Nat.le_refl _) _⟩, by simp [intOf]; omega⟩
              · have hA : decide (s[k].toNat < s[i].toNat) = false := by simp; omega
                have hE : ((s[k].toNat : Int) == (s[i].toNat : Int)) = true := by simp; omega
                have hE2 : (s[k].toNat == s[i].toNat) = true := by simp; omega
                have hE3 : decide (s[k].toNat = s[i].toNat) = true := by simp; omega
                have hK : decide (k < i) = false := by simp; omega
                have HBV : Hid (lfB (bytesOf s) i k = false) := hidden (by unfold lfB; rw [HK.out, HI.out]; simp; omega)
                have HU : Hid (lfT (bytesOf s) i (k + 1) = t) := hidden (by rw [HS.out, HBV.out, HT.out]; simp)
                clear c1 c2 c3
                rw [← HU.out] at hown
                go_wp2
                go_big_quiet (fail)
                go_wp2
                exact ⟨⟨k + 1, by omega, by go_num, hown, bel_drewN hbl _⟩, by simp [intOf]; omega⟩
            · have hA : decide (s[k].toNat < s[i].toNat) = false := by simp; omega
              have hE : ((s[k].toNat : Int) == (s[i].toNat : Int)) = false := by simp; omega
              have hE2 : (s[k].toNat == s[i].toNat) = false := by simp; omega
              have hE3 : decide (s[k].toNat = s[i].toNat) = false := by simp; omega
              have HBV : Hid (lfB (bytesOf s) i k = false) := hidden (by unfold lfB; rw [HK.out, HI.out]; simp; omega)
              have HU : Hid (lfT (bytesOf s) i (k + 1) = t) := hidden (by rw [HS.out, HBV.out, HT.out]; simp)
              clear c1 c2
              rw [← HU.out] at hown
              go_wp2
              go_big_quiet (fail)
              go_wp2
              exact ⟨⟨k + 1, by omega, by go_num, hown, bel_drewN hbl _⟩, by simp [intOf]; omega⟩
          · have hke : k = s.size := by omega
            subst hke
            rw [HNEXT.out i hlt] at hown
            go_wp2
            exact ⟨⟨i + 1, by omega, by go_num, hown, hbl⟩, by simp [intOf]; omega⟩
      · have hie : i = s.size := by omega
        subst hie
        rw [HALL.out] at hown
        go_wp2
        go_ret
        exact ⟨_, rfl, by rw [hg]; exact hown, by rw [hg]; exact hbl⟩
  · have hZ : lfZ s = [] := by unfold lfZ; rw [if_neg hok]
    rw [hZ]
    rw [decide_eq_false hok] at KO
    clear hok hZ
    go_enter Tryz.func24, Tryz.ntmps24
    go_wp2_with fail
    refine (KO.out _).mono ?_
    rintro e w1 ⟨rfl, rfl⟩
    go_wp2
    go_ret
    exact ⟨_, rfl, World.ownsRow_nil _ _ _ _, Below.refl _ _⟩
end Go.Proofs.YtpjgoikdfkaefaaGreat
namespace Go.Proofs.YtpjgoikdfkaefaaGreat
set_option linter.unusedVariables false
set_option linter.unusedSimpArgs false
open Go.RowKit

open Classical in
noncomputable def perN (S : List Nat) : Nat := if h : ∃ p, IsPer S p then Classical.choose h else 0
theorem per_is {S : List Nat} {p : Nat} (h : IsPer S p) : perN S = p := by
  unfold perN
  have hx : ∃ p, IsPer S p := ⟨p, h⟩
  rw [dif_pos hx]
  exact per_unique (Classical.choose_spec hx) h
noncomputable def perZ (s : ByteArray) : Int := if 0 < s.size ∧ s.size ≤ 600 then (perN (bytesOf s) : Int) else -1
theorem turn_bytes (s : ByteArray) (p : Nat) (h : p ≤ s.size) : bytesOf (s.extract p s.size ++ s.extract 0 p) = rotL (bytesOf s) p := by
  unfold rotL bytesOf
  simp only [ByteArray.data_append, ByteArray.data_extract, Array.toList_append, Array.toList_extract, List.map_append]
  congr 1
  · rw [List.extract_eq_take_drop, List.map_take, List.map_drop, List.take_of_length_le]
    simp
  · rw [List.extract_eq_take_drop]; simp
theorem turn_same (s : ByteArray) (p : Nat) (h : p ≤ s.size) : s.extract p s.size ++ s.extract 0 p = s ↔ rotL (bytesOf s) p = bytesOf s := by
  rw [← turn_bytes s p h]
  constructor
  · intro e; rw [e]
  · intro e
    have := congrArg strOf e
    rwa [strOf_bytesOf, strOf_bytesOf] at this
end Go.Proofs.YtpjgoikdfkaefaaGreat
