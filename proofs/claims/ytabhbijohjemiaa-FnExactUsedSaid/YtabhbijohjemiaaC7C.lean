/- Chapter 7: places, needed bits, an order as bits (the model). -/
import Derived.Test.YtabhbijohjemiaaC7B
import Derived.Test.YtabhbijohjemiaaAlph2
import Derived.Test.YtabhbijohjemiaaC1Close
import Derived.Lib.Strings
namespace Go.Proofs.Ytabhbijohjemiaa
set_option linter.unusedVariables false
set_option linter.unusedSimpArgs false
open Go.RowKit

theorem two_pow_small {n : Nat} (h : n ≤ 8) : 2 ^ n ≤ 256 := Nat.pow_le_pow_right (n := 2) (by omega) h
set_option maxHeartbeats 1000000 in
theorem l7need_any (m : Nat) (w : World) (hm : m ≤ 256) :
    Calls Try.prog 97 #[.int .i64 m] w fun e w' => e = .returned (.int .i64 (needB m : Int)) ∧ w' = w := by
  have HU := hidden (fun n => need_one (m := m) (n := n))
  have H8 := hidden (need_le m hm)
  have HLo := hidden (need_up m)
  obtain ⟨g, hg⟩ : ∃ g, needB m = g := ⟨_, rfl⟩
  rw [hg] at HU H8 HLo ⊢
  clear hg
  go_enter Try.func97, Try.ntmps97
  go_wp2
  go_loopw [3] (fun sn wr => ∃ n : Nat, sn = .int .i64 n ∧ n ≤ 8 ∧ Hid (∀ j, j < n → 2 ^ j < m) ∧ Hid (wr = w)) (fun sn _ => 8 - (intOf sn).toNat)
  case atStart => exact ⟨0, rfl, by omega, hidden (fun j hj => by omega), hidden rfl⟩
  case round =>
    obtain ⟨n, rfl, hn, HJ, HW⟩ := hrel
    obtain ⟨p, hp⟩ : ∃ p, 2 ^ n = p := ⟨_, rfl⟩
    have hp2 : p ≤ 256 := by rw [← hp]; exact two_pow_small hn
    have hwd : Value.int .i64 (wrap64 (2 ^ n)) = Value.int .i64 (p : Int) := by
      rw [show ((2 : Int) ^ n) = ((2 ^ n : Nat) : Int) by simp, hp, wrap64_n _ (by omega)]
    have HP := hidden hp
    clear hp
    by_cases hlt : p < m
    · have hlI : (p : Int) < m := by omega
      have hn8 : n < 8 := by
        rcases Nat.lt_or_ge n 8 with h | h
        · exact h
        · have : n = 8 := by omega
          subst this
          have := HP.out
          omega
      have HJ2 : Hid (∀ j, j < n + 1 → 2 ^ j < m) := hidden (fun j hj => by
        rcases Nat.lt_or_ge j n with h | h
        · exact HJ.out j h
        · rw [show j = n by omega, HP.out]; exact hlt)
      go_wp2
      go_roundw
      case rel => exact ⟨n + 1, by go_num, by omega, HJ2, HW⟩
      case measure => simp [intOf]; omega
    · have hlI : ¬ (p : Int) < m := by omega
      have e : n = g := HU.out n (by rw [HP.out]; omega) HJ.out
      subst e
      go_wp2
      go_ret
      exact ⟨rfl, HW.out⟩
/-- Where a byte stands; -1: nowhere. -/
def placeI (u : List Nat) (b : Nat) : Int := if b ∈ u then (u.idxOf b : Int) else -1
theorem place_at {u : List Nat} {b k : Nat} (hk : k < u.length) (h : u.getD k 0 = b) (hno : ∀ j, j < k → u.getD j 0 ≠ b) : placeI u b = k := by
  have hb : b ∈ u := by
    rw [← h, List.getD_eq_getElem?_getD, List.getElem?_eq_getElem hk]; exact List.getElem_mem hk
  unfold placeI
  rw [if_pos hb]
  have h2 := idx_get hb
  rcases Nat.lt_trichotomy (u.idxOf b) k with h3 | h3 | h3
  · exact absurd h2 (hno _ h3)
  · rw [h3]
  · have h4 := List.not_of_lt_findIdx (p := (· == b)) (xs := u) h3
    rw [List.getD_eq_getElem?_getD, List.getElem?_eq_getElem hk, Option.getD_some] at h
    simp [h] at h4
theorem place_no {u : List Nat} {b : Nat} (hno : ∀ j, j < u.length → u.getD j 0 ≠ b) : placeI u b = -1 := by
  unfold placeI
  rw [if_neg]
  intro hb
  exact hno _ (idx_lt hb) (idx_get hb)
set_option maxHeartbeats 1000000 in
theorem l7place_any (s : ByteArray) (b : Nat) (w : World) (hs : s.size ≤ 1048576) (hb : b < 256) :
    Calls Try.prog 79 #[.string s, .int .u8 b] w fun e w' => e = .returned (.int .i64 (placeI (bytesOf s) b)) ∧ w' = w := by
  have HG : Hid (∀ k (h : k < s.size), s[k].toNat = (bytesOf s).getD k 0) := hidden (fun k h => by rw [byteAt_get _ _ h, bytesOf_get])
  have HL : Hid ((bytesOf s).length = s.size) := hidden (bytesOf_len s)
  go_enter Try.func79, Try.ntmps79
  go_wp2
  go_loopw [5] (fun sk wr => ∃ k : Nat, sk = .int .i64 k ∧ k ≤ s.size ∧ Hid (∀ j, j < k → (bytesOf s).getD j 0 ≠ b) ∧ Hid (wr = w)) (fun sk _ => s.size - (intOf sk).toNat)
  case atStart => exact ⟨0, rfl, by omega, hidden (fun j hj => by omega), hidden rfl⟩
  case round =>
    obtain ⟨k, rfl, hk, HNO, HW⟩ := hrel
    by_cases hlt : k < s.size
    · have hgk := HG.out k hlt
      by_cases he : s[k].toNat = b
      · have HF : Hid (placeI (bytesOf s) b = k) := hidden (place_at (by rw [HL.out]; exact hlt) (by rw [← hgk]; exact he) HNO.out)
        clear hgk
        go_wp2
        go_ret
        exact ⟨ret_int HF.out.symm, HW.out⟩
      · have HN2 : Hid (∀ j, j < k + 1 → (bytesOf s).getD j 0 ≠ b) := hidden (fun j hj => by
          rcases Nat.lt_or_ge j k with h | h
          · exact HNO.out j h
          · rw [show j = k by omega, ← hgk]; exact he)
        clear hgk
        go_wp2
        go_roundw
        case rel => exact ⟨k + 1, by go_num, by omega, HN2, HW⟩
        case measure => simp [intOf]; omega
    · have HF : Hid (placeI (bytesOf s) b = -1) := hidden (place_no (fun j hj => HNO.out j (by rw [HL.out] at hj; omega)))
      go_wp2
      go_ret
      exact ⟨ret_int HF.out.symm, HW.out⟩

/-- A byte is struck out of a string. -/
theorem str_cut {D : List Nat} {s : ByteArray} (h : strOf D = s) (k : Nat) (hk : k < D.length) : s.extract 0 k ++ s.extract (k + 1) s.size = strOf (D.eraseIdx k) := by
  subst h
  have e : ∀ {a b : ByteArray}, a.data.toList = b.data.toList → a = b := fun {a b} h => by
    cases a; cases b; congr 1; exact Array.toList_inj.1 h
  apply e
  rw [ByteArray.data_append, Array.toList_append, Lib.extract_data, Lib.extract_data, strOf_size]
  have hd : ∀ L : List Nat, (strOf L).data.toList = L.map UInt8.ofNat := fun L => by simp [strOf]
  rw [hd, hd, List.eraseIdx_eq_take_drop_succ, List.map_append, List.map_take, List.map_drop, List.drop_zero, Nat.sub_zero]
  congr 1
  rw [List.take_of_length_le (by simp)]
theorem drop_at (s : ByteArray) (i : Nat) (h : i < s.size) : (bytesOf s).drop i = s[i].toNat :: (bytesOf s).drop (i + 1) := by
  have hk : i < (bytesOf s).length := by rw [bytesOf_len]; exact h
  rw [List.drop_eq_getElem_cons hk]
  congr 1
  have := bytesOf_get s i
  rw [List.getD_eq_getElem?_getD, List.getElem?_eq_getElem hk, Option.getD_some] at this
  rw [this, byteAt_get _ _ h]
set_option maxHeartbeats 400000 in
set_option maxRecDepth 100000 in
theorem l7order_any (s : ByteArray) (w : World) (hok : ordOk (bytesOf s) = true) :
    Calls Try.prog 82 #[.string s] w fun e w' => ∃ v, e = .returned v ∧ w'.ownsRow w.heap.size 5 1 v (putO (usedL (bytesOf s)) (bytesOf s)).length (u8s (putO (usedL (bytesOf s)) (bytesOf s))) ∧ Below w.heap.size w w' := by
  obtain ⟨i0, hi, hz0, hz1, hz2⟩ := info_parts Try.info5
  have hnd := ((ordOk_iff _).1 hok).2
  have hs : s.size ≤ 256 := by rw [← bytesOf_len]; exact nodup_256 (byt_bytesOf s) hnd
  have K1 := hidden (fun W : World => specUsed_any s W (by omega))
  have HP0 := hidden (used_perm (byt_bytesOf s) hnd)
  have HX := hidden (drop_at s)
  have HLn := hidden (bytesOf_len s)
  obtain ⟨O, hO⟩ : ∃ O, bytesOf s = O := ⟨_, rfl⟩
  rw [hO] at K1 HP0 HX HLn ⊢
  have HB : Hid (Byt O) := hidden (by rw [← hO]; exact byt_bytesOf s)
  obtain ⟨A, hA⟩ : ∃ A, putO (usedL O) O = A := ⟨_, rfl⟩
  have HA := hidden hA
  rw [hA]
  clear hA hnd hok hO
  go_enter Try.func82, Try.ntmps82
  go_wp2_with fail
  refine (K1.out _).mono ?_
  rintro e w1 ⟨rfl, b1⟩
  have hs1 := b1.size
  go_wp2
  go_loopw [3, 4, 5, 6] (fun v su si _ wr => ∃ (i : Nat) (P D : List Nat), i ≤ s.size ∧ si = .int .i64 i ∧ su = .string (strOf P) ∧ Hid (A = D ++ putO P (O.drop i)) ∧ Hid (P.Perm (O.drop i)) ∧ D.length ≤ 8 * i ∧ wr.ownsRow w.heap.size 5 1 v D.length (u8s D) ∧ Below w.heap.size w wr) (fun _ _ si _ _ => s.size - (intOf si).toNat)
  case atStart => exact ⟨0, usedL O, [], by omega, rfl, rfl, hidden (by rw [← HA.out]; rfl), HP0, by simp, World.ownsRow_nil _ _ _ _, b1⟩
  case round =>
    obtain ⟨i, P, D, hi2, rfl, rfl, HD, HP, hDl, hown, hbl⟩ := hrel
    have hsz := hbl.size
    by_cases hlt : i < s.size
    · obtain ⟨x, hx⟩ : ∃ x, s[i].toNat = x := ⟨_, rfl⟩
      have hx256 : x < 256 := by rw [← hx]; exact UInt8.toNat_lt _
      have hdr := HX.out i hlt
      rw [hx] at hdr
      rw [hdr] at HD HP
      have hxP : x ∈ P := HP.out.mem_iff.2 (List.mem_cons_self ..)
      have hBP : Byt P := fun b hb => HB.out b (List.mem_of_mem_drop (i := i) (by rw [hdr]; exact HP.out.mem_iff.1 hb))
      have hPl : P.length = s.size - i := by rw [HP.out.length_eq, ← hdr, List.length_drop, HLn.out]
      have hk := idx_lt hxP
      have hus := strOf_size P
      have HPL := hidden (l7place_any (strOf P) x wr (by omega) hx256)
      rw [bytes_str hBP, placeI, if_pos hxP] at HPL
      have HCUT := hidden (str_cut (D := P) rfl (P.idxOf x) hk)
      rw [← erase_idx hxP] at HCUT
      obtain ⟨us, hus2⟩ : ∃ us, strOf P = us := ⟨_, rfl⟩
      rw [hus2] at HPL HCUT hus ⊢
      have HND := hidden (l7need_any us.size wr (by omega))
      have hnd8 := need_le us.size (by omega)
      have hup := need_up us.size
      obtain ⟨k, hkk⟩ : ∃ k, P.idxOf x = k := ⟨_, rfl⟩
      obtain ⟨m, hmm⟩ : ∃ m, needB us.size = m := ⟨_, rfl⟩
      have hE : Hid (putO P (x :: O.drop (i + 1)) = nbits k m ++ putO (P.erase x) (O.drop (i + 1))) := hidden (by rw [putO, hkk, ← hus, hmm])
      have HP2 : Hid ((P.erase x).Perm (O.drop (i + 1))) := hidden (by have := HP.out.erase x; rwa [List.erase_cons_head] at this)
      rw [hkk] at hk HPL HCUT
      rw [hmm] at HND hnd8 hup
      have HX2 := hidden hx
      have hk32 : k < 256 := by omega
      have hku : k < us.size := by omega
      have hu256 : us.size ≤ 256 := by omega
      have HN1 := hidden (fun W => l1num_any k m W (by omega) (by omega))
      clear hkk hmm hus2 hBP hxP hdr hus hPl hk
      go_wp2_with fail
      refine HPL.out.mono ?_
      rintro e w2 ⟨rfl, rfl⟩
      go_wp2_with fail
      refine HND.out.mono ?_
      rintro e w3 ⟨rfl, rfl⟩
      go_wp2_with fail
      refine (HN1.out _).mono ?_
      rintro e w4 ⟨rfl, hown2, b4⟩
      have hs4 := b4.size
      have hown3 := own_bel hown b4
      have hbl4 := bel_then b4 hsz hbl
      go_wp2_with (at_builtin; refine wpList_append_own _ rfl _ _ 22 rfl w.heap.size 5 i0 (.int .u8 0) 1 1 Try.underlying22 hi hz0 hz1 hz2 rfl (by decide) _ _ _ rfl hown3 ⟨w3.heap.size, 0, none⟩ m m (u8s (nbits k m)) rfl ?c0 ?c1 ?c2 ?c3 ?c4 ?c5 ?_)
      case c0 => rw [u8s_len, nbits_len, Nat.mul_one]
      case c1 => exact fun j u hu => hown2.cells rfl j u hu
      case c2 => exact u8s_one _
      case c3 => unfold maxLen; omega
      case c4 => omega
      case c5 => omega
      intro v1 w5 hown5 hgrow _
      rw [← u8s_append] at hown5
      have hlo := fun g hg => (hown3.lt g hg).1
      have hb5 : Below w.heap.size w w5 := hbl4.grown hgrow (by omega) hlo
      have HD2 : Hid (A = (D ++ nbits k m) ++ putO (P.erase x) (O.drop (i + 1))) := hidden (by rw [HD.out, hE.out, List.append_assoc])
      have HL2 : Hid ((D ++ nbits k m).length = D.length + m) := hidden (by rw [List.length_append, nbits_len])
      have HO5 : Hid (w5.ownsRow w.heap.size 5 1 v1 (D ++ nbits k m).length (u8s (D ++ nbits k m))) := hidden (by rw [HL2.out]; exact hown5)
      clear hown hown2 hown3 hown5 hgrow hbl hbl4 hlo b4
      go_wp2
      go_quiet (fail)
      go_wp2
      go_roundw
      case rel => exact ⟨i + 1, P.erase x, D ++ nbits k m, by omega, by go_num, by rw [HCUT.out], HD2, HP2, by rw [HL2.out]; omega, HO5.out, bel_drewN hb5 _⟩
      case measure => simp [intOf]; omega
    · have hie : i = s.size := by omega
      have HF : Hid (D = A) := hidden (by rw [HD.out, hie, ← HLn.out, List.drop_length, putO, List.append_nil])
      subst hie
      go_wp2
      go_ret
      exact ⟨_, rfl, by rw [← HF.out]; exact hown, hbl⟩
end Go.Proofs.Ytabhbijohjemiaa
