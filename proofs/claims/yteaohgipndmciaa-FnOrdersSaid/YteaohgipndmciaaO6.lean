/- Merged: C7F, C7G, C7J, I7G, I7U, M7G. -/
import Derived.Test.YteaohgipndmciaaO2
import Derived.Test.YteaohgipndmciaaO4
import Derived.Test.YteaohgipndmciaaO1
import Derived.Test.YteaohgipndmciaaO3
import Derived.Test.YteaohgipndmciaaNats
import Derived.Lib.SmallJoins
namespace Go.Proofs.Yteaohgipndmciaa
set_option linter.unusedVariables false
set_option linter.unusedSimpArgs false
open Go.RowKit

theorem wide_bit (m k : Nat) (hm : m < 65536) : bits BinOp.and IntKind.i64 ((m : Int) / 2 ^ k) 1 = ((m / 2 ^ k % 2 : Nat) : Int) := by
  have h0 : m / 2 ^ k ≤ m := Nat.div_le_self _ _
  have := i64_and_nat (m / 2 ^ k) 1 (by omega) (by omega)
  rw [nat_mask1] at this
  rw [show ((m : Int) / 2 ^ k) = ((m / 2 ^ k : Nat) : Int) by simp, show (1 : Int) = ((1 : Nat) : Int) by rfl, this]
/-- What reading a set answers, the reader being in block b. -/
def L7UPost (s : ByteArray) (at0 b : Nat) (T : TypeId) (w : World) (e : Ending) (w' : World) : Prop :=
  ((∃ (u : List Nat) (q : Nat), getU s at0 = some (u, q) ∧ e = .returned (.string (strOf u)) ∧ Has w' b T #[.string s, .int .i64 (q : Int)]) ∨
   (getU s at0 = none ∧ e = .returned (.string ⟨#[]⟩))) ∧ Only b w w'
end Go.Proofs.Yteaohgipndmciaa
namespace Go.Proofs.Yteaohgipndmciaa
set_option linter.unusedVariables false
set_option linter.unusedSimpArgs false
open Go.RowKit

/-- What a reader of chapter 7 answers, G being what stands there. -/
def GG7 (s : ByteArray) (G : Option (List Nat × Nat)) (w : World) (e : Ending) (w' : World) : Prop :=
  ((∃ (u : List Nat) (q : Nat), G = some (u, q) ∧ e = .returned (.tuple #[.string (strOf u), .agg #[.string s, .int .i64 (q : Int)], .bool true])) ∨
   (G = none ∧ e = .returned (.tuple #[.string ⟨#[]⟩, .agg #[.string ⟨#[]⟩, .int .i64 0], .bool false]))) ∧ Below w.heap.size w w'
theorem str_nonempty {s : ByteArray} (h : 0 < s.size) : s.toList.isEmpty = false := by
  rw [Bool.eq_false_iff]
  intro e
  rw [List.isEmpty_iff, ByteArray.toList_eq] at e
  have h2 : s.data.toList.length = s.size := by simp
  rw [e] at h2
  simp at h2
  omega
theorem str_pos {D : List Nat} (h : D ≠ []) : 0 < (strOf D).size := by rw [strOf_size]; exact List.length_pos_iff.2 h
end Go.Proofs.Yteaohgipndmciaa
namespace Go.Proofs.Yteaohgipndmciaa
set_option linter.unusedVariables false
set_option linter.unusedSimpArgs false
open Go.RowKit

/-- Can S be told by an order O? -/
def rkOk (S O : List Nat) : Bool := decide (S.length ≤ 600 ∧ ordOk O = true ∧ ∀ b ∈ S, b ∈ O)
theorem rkOk_iff (S O : List Nat) : rkOk S O = true ↔ S.length ≤ 600 ∧ ordOk O = true ∧ ∀ b ∈ S, b ∈ O := by simp [rkOk]
def rkTo (S O : List Nat) (k : Nat) : List Int := (S.take k).map fun b => (O.idxOf b : Int)
/-- The ranks of S in O; nothing where they can't be told. -/
def rkL (S O : List Nat) : List Int := if rkOk S O = true then rkTo S O S.length else []
theorem rkTo_len (S O : List Nat) (k : Nat) (h : k ≤ S.length) : (rkTo S O k).length = k := by simp [rkTo]; omega
theorem rkTo_succ (S O : List Nat) (k : Nat) (h : k < S.length) : rkTo S O (k + 1) = rkTo S O k ++ [(O.idxOf (S.getD k 0) : Int)] := by
  unfold rkTo
  rw [List.take_succ_eq_append_getElem h, List.map_append]
  simp [List.getD_eq_getElem?_getD, h]
theorem intsV_snoc7 (D : List Int) (x : Int) : intsV (D ++ [x]) = intsV D ++ [.int .i64 x] := by simp [intsV]
theorem ret_pair {v : Value} {a b : Bool} (h : a = b) : Ending.returned (.tuple #[v, .bool a]) = .returned (.tuple #[v, .bool b]) := by rw [h]
theorem bool_false {b : Bool} (h : ¬ b = true) : b = false := by simpa using h
set_option maxHeartbeats 1000000 in
set_option maxRecDepth 100000 in
theorem specToRanks_any (s o : ByteArray) (w : World) (hs : s.size ≤ 1048576) (ho : o.size ≤ 1048576) :
    Calls Try.prog 30 #[.string s, .string o] w fun e w' => ∃ v, e = .returned (.tuple #[v, .bool (rkOk (bytesOf s) (bytesOf o))]) ∧ w'.ownsRow w.heap.size 3 1 v (rkL (bytesOf s) (bytesOf o)).length (intsV (rkL (bytesOf s) (bytesOf o))) ∧ Below w.heap.size w w' := by
  have K1 := hidden (fun W => specOrderOk_any o W ho)
  have HNIL : Hid (rkOk (bytesOf s) (bytesOf o) = false → rkL (bytesOf s) (bytesOf o) = []) := hidden (fun h => by unfold rkL; rw [if_neg (by rw [h]; decide)])
  have HLs := hidden (bytesOf_len s)
  by_cases h6 : s.size ≤ 600
  · by_cases hok : ordOk (bytesOf o) = true
    · obtain ⟨i0, hi, hz0, hz1, hz2⟩ := info_parts Try.infoI
      have ho256 : o.size ≤ 256 := by rw [← bytesOf_len]; exact nodup_256 (byt_bytesOf o) ((ordOk_iff _).1 hok).2
      have KP := hidden (fun (W : World) (b : Nat) (hb : b < 256) => l7place_any o b W ho hb)
      have HIT := hidden (rkOk_iff (bytesOf s) (bytesOf o))
      have HOK := hidden hok
      have HGT : Hid (∀ k (h : k < s.size), s[k].toNat = (bytesOf s).getD k 0) := hidden (fun k h => by rw [byteAt_get _ _ h, bytesOf_get])
      have HME : Hid (∀ k, k < s.size → (bytesOf s).getD k 0 ∈ bytesOf s) := hidden (fun k h => by
        have h2 : k < (bytesOf s).length := by rw [bytesOf_len]; exact h
        rw [List.getD_eq_getElem?_getD, List.getElem?_eq_getElem h2]; exact List.getElem_mem h2)
      have HRS := hidden (fun k h => rkTo_succ (bytesOf s) (bytesOf o) k h)
      have HRL := hidden (fun k h => rkTo_len (bytesOf s) (bytesOf o) k h)
      have HAL : Hid (rkOk (bytesOf s) (bytesOf o) = true → rkL (bytesOf s) (bytesOf o) = rkTo (bytesOf s) (bytesOf o) s.size) := hidden (fun h => by unfold rkL; rw [if_pos h, bytesOf_len])
      have HBY := hidden (byt_bytesOf s)
      have HIX : Hid (∀ b, b ∈ bytesOf o → (bytesOf o).idxOf b < o.size) := hidden (fun b h => by rw [← bytesOf_len]; exact idx_lt h)
      rw [hok] at K1
      have HMA : Hid (∀ x, (x ∈ bytesOf s → ∃ k, k < s.size ∧ (bytesOf s).getD k 0 = x)) := hidden (fun x hx => by
        obtain ⟨k, hk, rfl⟩ := List.getElem_of_mem hx
        exact ⟨k, by rw [← bytesOf_len]; exact hk, by simp [List.getD_eq_getElem?_getD, hk]⟩)
      obtain ⟨S, hS⟩ : ∃ S, bytesOf s = S := ⟨_, rfl⟩
      obtain ⟨O, hO⟩ : ∃ O, bytesOf o = O := ⟨_, rfl⟩
      rw [hS] at HNIL HIT HGT HME HRS HRL HAL HBY HLs HMA
      rw [hO] at HNIL HIT HRS HRL HAL HOK KP HIX
      rw [hS, hO]
      clear hS hO hok
      go_enter Try.func30, Try.ntmps30
      go_wp2_with fail
      refine (K1.out _).mono ?_
      rintro e w1 ⟨rfl, b1⟩
      have hs1 := b1.size
      go_wp2
      go_loopw [6, 7, 8] (fun v sk _ wr => ∃ k : Nat, k ≤ s.size ∧ sk = .int .i64 k ∧ Hid (∀ j, j < k → S.getD j 0 ∈ O) ∧ wr.ownsRow w.heap.size 3 1 v k (intsV (rkTo S O k)) ∧ Below w.heap.size w wr) (fun _ sk _ _ => s.size - (intOf sk).toNat)
      case atStart => exact ⟨0, by omega, rfl, hidden (fun j hj => by omega), World.ownsRow_nil _ _ _ _, b1⟩
      case round =>
        obtain ⟨k, hk, rfl, HA, hown, hbl⟩ := hrel
        have hsz := hbl.size
        by_cases hlt : k < s.size
        · have hx256 : s[k].toNat < 256 := UInt8.toNat_lt _
          have hgk := HGT.out k hlt
          have HM := hidden (HME.out k hlt)
          have HR := hidden (HRS.out k (by rw [HLs.out]; exact hlt))
          obtain ⟨x, hx⟩ : ∃ x, s[k].toNat = x := ⟨_, rfl⟩
          rw [hx] at hgk hx256
          rw [← hgk] at HM HR
          have KX := hidden (KP.out wr x hx256)
          have HGK := hidden hgk
          clear hgk
          by_cases hin : x ∈ O
          · have hix := HIX.out x hin
            rw [placeI, if_pos hin] at KX
            obtain ⟨y, hy⟩ : ∃ y, O.idxOf x = y := ⟨_, rfl⟩
            rw [hy] at KX HR hix
            have HA2 : Hid (∀ j, j < k + 1 → S.getD j 0 ∈ O) := hidden (fun j hj => by
              rcases Nat.lt_or_ge j k with h | h
              · exact HA.out j h
              · rw [show j = k by omega, ← HGK.out]; exact hin)
            clear hy
            go_wp2_with fail
            refine KX.out.mono ?_
            rintro e w2 ⟨rfl, rfl⟩
            go_wp2_with (at_builtin; refine wpList_append_own _ rfl _ _ 39 rfl w.heap.size 3 i0 (.int .i64 0) 1 8 Try.underlying39 hi hz0 hz1 hz2 rfl (by decide) _ _ _ rfl (hown.alloc _) ⟨w2.heap.size, 0, none⟩ 1 1 [.int .i64 (y : Int)] rfl rfl ?c1 ?c2 ?c3 ?c4 ?c5 ?_)
            case c1 => exact cell_one_new _ _ _
            case c2 => exact fun u hu => by simp at hu; subst hu; rfl
            case c3 => unfold maxLen; omega
            case c4 => omega
            case c5 => first | omega | (simp; omega)
            intro v5 w5 hown5 hgrow _
            have hb5 := bel_app hbl hsz hown hgrow
            rw [← intsV_snoc7, ← HR.out] at hown5
            clear hown hgrow hbl
            go_wp2
            go_roundw
            case rel => exact ⟨k + 1, by omega, by go_num, HA2, hown5, hb5⟩
            case measure => simp [intOf]; omega
          · rw [placeI, if_neg hin] at KX
            have HF : Hid (rkOk S O = false) := hidden (bool_false (fun h => hin ((HIT.out.1 h).2.2 x HM.out)))
            go_wp2_with fail
            refine KX.out.mono ?_
            rintro e w2 ⟨rfl, rfl⟩
            go_wp2
            go_ret2
            exact ⟨_, ret_pair HF.out.symm, by rw [HNIL.out HF.out]; exact World.ownsRow_nil _ _ _ _, hbl⟩
        · have hks : k = s.size := by omega
          subst hks
          have HT : Hid (rkOk S O = true) := hidden (HIT.out.2 ⟨by rw [HLs.out]; exact h6, HOK.out, fun b hb => by
            obtain ⟨j, hj, rfl⟩ := HMA.out b hb
            exact HA.out j hj⟩)
          have HL2 := hidden (HRL.out s.size (by rw [HLs.out]; exact Nat.le_refl _))
          go_wp2
          go_ret2
          exact ⟨_, ret_pair HT.out.symm, by rw [HAL.out HT.out, HL2.out]; exact hown, hbl⟩
    · have HF : Hid (rkOk (bytesOf s) (bytesOf o) = false) := hidden (bool_false (fun h => hok ((rkOk_iff _ _).1 h).2.1))
      rw [bool_false hok] at K1
      clear hok
      go_enter Try.func30, Try.ntmps30
      go_wp2_with fail
      refine (K1.out _).mono ?_
      rintro e w1 ⟨rfl, b1⟩
      go_wp2
      go_ret2
      exact ⟨_, ret_pair HF.out.symm, by rw [HNIL.out HF.out]; exact World.ownsRow_nil _ _ _ _, b1⟩
  · have HF : Hid (rkOk (bytesOf s) (bytesOf o) = false) := hidden (bool_false (fun h => h6 (by rw [← bytesOf_len]; exact ((rkOk_iff _ _).1 h).1)))
    have h6I : (600 : Int) < s.size := by omega
    go_enter Try.func30, Try.ntmps30
    go_wp2
    go_ret2
    exact ⟨_, ret_pair HF.out.symm, by rw [HNIL.out HF.out]; exact World.ownsRow_nil _ _ _ _, Below.refl _ _⟩

/-- Are these ranks in an order O? -/
def frOk (z : List Int) (O : List Nat) : Bool := decide (z.length ≤ 600 ∧ ordOk O = true ∧ ∀ x ∈ z, 0 ≤ x ∧ x < (O.length : Int))
theorem frOk_iff (z : List Int) (O : List Nat) : frOk z O = true ↔ z.length ≤ 600 ∧ ordOk O = true ∧ ∀ x ∈ z, 0 ≤ x ∧ x < (O.length : Int) := by simp [frOk]
def frTo (z : List Int) (O : List Nat) (k : Nat) : List Nat := (z.take k).map fun x => O.getD x.toNat 0
/-- The bytes of ranks; none where they are no ranks. -/
def frL (z : List Int) (O : List Nat) : List Nat := if frOk z O = true then frTo z O z.length else []
theorem frTo_len (z : List Int) (O : List Nat) (k : Nat) (h : k ≤ z.length) : (frTo z O k).length = k := by simp [frTo]; omega
theorem frTo_succ (z : List Int) (O : List Nat) (k : Nat) (h : k < z.length) : frTo z O (k + 1) = frTo z O k ++ [O.getD (z.getD k 0).toNat 0] := by
  unfold frTo
  rw [List.take_succ_eq_append_getElem h, List.map_append]
  simp [List.getD_eq_getElem?_getD, h]
theorem strOf_nil : strOf [] = ⟨#[]⟩ := rfl
end Go.Proofs.Yteaohgipndmciaa
namespace Go.Proofs.Yteaohgipndmciaa
set_option linter.unusedVariables false
set_option linter.unusedSimpArgs false
open Go.RowKit

theorem maskBit_any (p : Nat) (w : World) (hp : p < 16) :
    Calls Try.prog 57 #[.int .i64 p] w fun e w' => e = .returned (.int .i64 ((2 ^ (15 - p) : Nat) : Int)) ∧ w' = w := by
  have hpI : (p : Int) < 16 := by omega
  have h2 : 2 ^ (15 - p) ≤ 2 ^ 15 := Nat.pow_le_pow_right (by omega) (by omega)
  obtain ⟨q, hq⟩ : ∃ q, 2 ^ (15 - p) = q := ⟨_, rfl⟩
  have hwd : Value.int .i64 (wrap64 (2 ^ (15 - p))) = Value.int .i64 (q : Int) := by
    rw [show ((2 : Int) ^ (15 - p)) = ((2 ^ (15 - p) : Nat) : Int) by simp, hq, wrap64_n _ (by omega)]
  rw [hq]
  clear hq h2
  go_enter Try.func57, Try.ntmps57
  go_wp2
  go_ret
  exact ⟨congrArg Ending.returned hwd, rfl⟩

theorem and_mask (m k : Nat) (hm : m < 65536) (hk : k ≤ 15) : bits BinOp.and IntKind.i64 (m : Int) ((2 ^ k : Nat) : Int) = ((m / 2 ^ k % 2 * 2 ^ k : Nat) : Int) := by
  have h2 : 2 ^ k ≤ 2 ^ 15 := Nat.pow_le_pow_right (by omega) hk
  rw [i64_and_nat m (2 ^ k) (by omega) (by omega)]
  congr 1
  have ht := Nat.testBit_eq_decide_div_mod_eq (x := m) (i := k)
  rcases (by omega : m / 2 ^ k % 2 = 0 ∨ m / 2 ^ k % 2 = 1) with h | h
  · rw [h, Nat.zero_mul]
    rw [h] at ht
    apply Nat.eq_of_testBit_eq
    intro j
    rw [Nat.testBit_and, Nat.testBit_two_pow, Nat.zero_testBit]
    by_cases e : k = j
    · subst e; rw [ht]; rfl
    · simp [e]
  · rw [h, Nat.one_mul]
    rw [h] at ht
    apply Nat.eq_of_testBit_eq
    intro j
    rw [Nat.testBit_and, Nat.testBit_two_pow]
    by_cases e : k = j
    · subst e; rw [ht]; rfl
    · simp [e]
theorem natsL_snoc7 (D : List Nat) (x : Nat) : natsL (D ++ [x]) = natsL D ++ [.int .i64 (x : Int)] := by simp [natsL]
set_option maxHeartbeats 1000000 in
set_option maxRecDepth 100000 in
theorem getPlaces_yes (s : ByteArray) (a m : Nat) (w : World) (hs : s.size ≤ 1048576) (ha : a + 16 ≤ 8 * s.size) (hm : num (row s a 16) = m) (h0 : m ≠ 0) :
    Calls Try.prog 66 #[.agg #[.string s, .int .i64 a]] w fun e w' => ∃ v, e = .returned (.tuple #[v, .agg #[.string s, .int .i64 ((a + 16 : Nat) : Int)], .bool true]) ∧ w'.ownsRow w.heap.size 3 1 v (places m).length (natsL (places m)) ∧ Below w.heap.size w w' := by
  obtain ⟨i0, hi, hz0, hz1, hz2⟩ := info_parts Try.infoInt
  have hm16 : m < 65536 := by rw [← hm]; exact num_row_lt s a 16
  have K1 := hidden (fun W : World => implGet_yes s a 16 W hs (by omega) ha)
  rw [hm] at K1
  obtain ⟨c, hc⟩ : ∃ c, a + 16 = c := ⟨_, rfl⟩
  have HC := hidden hc
  rw [hc] at K1 ⊢
  have KM := hidden (fun (W : World) p hp => maskBit_any p W hp)
  have bb : Below w.heap.size w ((w.alloc (.cells #[.string s, .int .i64 a] 30)).alloc (.cells #[.string ⟨#[]⟩, .int .i64 0] 30)) := ((Below.refl _ _).alloc (Nat.le_refl _) _).alloc (by simp) _
  have hR := (Has.fresh w 30 #[.string s, .int .i64 a]).alloc (.cells #[.string ⟨#[]⟩, .int .i64 0] 30)
  have hS := Has.freshAt (w := w.alloc (.cells #[.string s, .int .i64 a] 30)) (g := w.heap.size + 1) (by simp) 30 #[.string ⟨#[]⟩, .int .i64 0]
  have hmz : ((m : Int) == 0) = false := by rw [beq_eq_false_iff_ne]; omega
  have hmn : ¬ (m : Int) = 0 := by omega
  clear hm h0
  go_enter Try.func66, Try.ntmps66
  go_wp2_with fail
  refine (K1.out _).mono ?_
  rintro e w2 ⟨rfl, b2⟩
  replace bb := bel_then b2 bb.size bb
  replace hR := hR.below b2 hR.lt
  replace hS := hS.below b2 hS.lt
  have hs2 := bb.size
  have hRl := hR.lt
  have hSl := hS.lt
  have r0 := hR.cell 0
  have r1 := hR.cell 1
  have q0 := hR.free 0
  have q1 := hR.free 1
  simp at r0 r1
  have hR2 := (hR.store 0 (.string s)).store 1 (.int .i64 (c : Int))
  have hS2 := (hS.storeAway (p := ⟨w.heap.size, 0, none⟩) (by simp) (.string s)).storeAway (p := ⟨w.heap.size, 1, none⟩) (by simp) (.int .i64 (c : Int))
  have bb2 := (bb.setCell (p := ⟨w.heap.size, 0, none⟩) (Nat.le_refl _) (.string s)).setCell (p := ⟨w.heap.size, 1, none⟩) (Nat.le_refl _) (.int .i64 (c : Int))
  simp at hR2
  clear b2 hR hS bb hc
  go_wp2
  go_loopw [7, 8, 22] (fun v _ sp wr => ∃ p : Nat, p ≤ 16 ∧ sp = .int .i64 p ∧ wr.ownsRow w2.heap.size 3 1 v (placesTo m p).length (natsL (placesTo m p)) ∧ Has wr w.heap.size 30 #[.string s, .int .i64 (c : Int)] ∧ Has wr (w.heap.size + 1) 30 #[.string ⟨#[]⟩, .int .i64 0] ∧ Below w.heap.size w wr ∧ w2.heap.size ≤ wr.heap.size) (fun _ _ sp _ => 16 - (intOf sp).toNat)
  case atStart => exact ⟨0, by omega, rfl, World.ownsRow_nil _ _ _ _, hR2, hS2, bb2, by simp⟩
  case round =>
    obtain ⟨p, hp, rfl, hown, hR, hS, hbl, hsz⟩ := hrel
    clear hR2 hS2 bb2 r0 r1 q0 q1
    by_cases hlt : p < 16
    · have hand := and_mask m (15 - p) hm16 (by omega)
      have KP := hidden (KM.out wr p hlt)
      have HPT := hidden (placesTo_succ m p)
      have hpl := placesTo_len m p
      obtain ⟨y, hy⟩ : ∃ y, m / 2 ^ (15 - p) % 2 = y := ⟨_, rfl⟩
      have hy2 : y < 2 := by omega
      obtain ⟨q, hq⟩ : ∃ q, 2 ^ (15 - p) = q := ⟨_, rfl⟩
      have hq0 : 0 < q := by rw [← hq]; exact Nat.two_pow_pos _
      rw [hy] at hand HPT
      rw [hq] at hand KP
      clear hy hq
      by_cases hy1 : y = 1
      · subst hy1
        have HN : Hid (placesTo m (p + 1) = placesTo m p ++ [p]) := hidden (by rw [HPT.out, if_pos rfl])
        rw [Nat.one_mul] at hand
        have hqz : ((q : Int) == 0) = false := by rw [beq_eq_false_iff_ne]; omega
        have hqn : ¬ (q : Int) = 0 := by omega
        go_wp2_with fail
        refine KP.out.mono ?_
        rintro e w3 ⟨rfl, rfl⟩
        go_wp2_with (at_builtin; refine wpList_append_own _ rfl _ _ 39 rfl w2.heap.size 3 i0 (.int .i64 0) 1 8 Try.underlying39 hi hz0 hz1 hz2 rfl (by decide) _ _ _ rfl (hown.alloc _) ⟨w3.heap.size, 0, none⟩ 1 1 [.int .i64 (p : Int)] rfl rfl ?c1 ?c2 ?c3 ?c4 ?c5 ?_)
        case c1 => exact cell_one_new _ _ _
        case c2 => exact fun u hu => by simp at hu; subst hu; rfl
        case c3 => unfold maxLen; omega
        case c4 => omega
        case c5 => first | omega | (simp; omega)
        intro v5 w5 hown5 hgrow _
        have hlo := fun g hg => (hown.lt g hg).1
        have hR5 := (hR.alloc (.cells #[.int .i64 (p : Int)] 3)).grown hgrow (fun e => by have := hlo _ e.symm; omega)
        have hS5 := (hS.alloc (.cells #[.int .i64 (p : Int)] 3)).grown hgrow (fun e => by have := hlo _ e.symm; omega)
        have hb5 : Below w.heap.size w w5 := (hbl.alloc hbl.size _).grown hgrow (by simp; omega) (fun g hg => by have := hlo g hg; omega)
        have hs5 : w2.heap.size ≤ w5.heap.size := by have := hgrow.size; simp at this; omega
        rw [← natsL_snoc7, ← HN.out] at hown5
        have HO5 : Hid (w5.ownsRow w2.heap.size 3 1 v5 (placesTo m (p + 1)).length (natsL (placesTo m (p + 1)))) := hidden (by rw [show (placesTo m (p + 1)).length = (placesTo m p).length + 1 by rw [HN.out]; simp]; exact hown5)
        clear hown hown5 hgrow hlo hR hS hbl
        go_wp2
        go_roundw
        case rel => exact ⟨p + 1, by omega, by go_num, HO5.out, hR5, hS5, hb5, hs5⟩
        case measure => simp [intOf]; omega
      · have hy0 : y = 0 := by omega
        subst hy0
        have HN : Hid (placesTo m (p + 1) = placesTo m p) := hidden (by rw [HPT.out, if_neg (by omega)])
        rw [Nat.zero_mul] at hand
        go_wp2_with fail
        refine KP.out.mono ?_
        rintro e w3 ⟨rfl, rfl⟩
        go_wp2
        go_roundw
        case rel => exact ⟨p + 1, by omega, by go_num, by rw [HN.out]; exact hown, hR, hS, hbl, hsz⟩
        case measure => simp [intOf]; omega
    · have hp16 : p = 16 := by omega
      subst hp16
      have HPE : Hid (placesTo m 16 = places m) := hidden rfl
      rw [HPE.out] at hown
      have d0 := hR.cell 0
      have d1 := hR.cell 1
      have e0 := hS.cell 0
      have e1 := hS.cell 1
      have g0 := hS.free 0
      have g1 := hS.free 1
      simp at d0 d1 e0 e1
      have hRl := hR.lt
      have hSl := hS.lt
      have HO := hidden hown
      have hlo := fun g hg => (hown.lt g hg).1
      have hbs := hbl.size
      clear hR hS hown
      go_wp2
      (try go_region)
      all_goals (try go_wp2)
      all_goals
        refine bodyPost_ret (v := .tuple #[u7, .agg #[.string s, .int .i64 (c : Int)], .bool true]) (by simp [results, Try.results66, go_sem, d0, d1, e0, e1, g0, g1]) rfl ⟨u7, rfl, ?_, ?_⟩
      · refine Joins.ownsRow_le (?_ : World.ownsRow _ w2.heap.size _ _ _ _ _) hs2
        exact own_away (own_away HO.out (p := ⟨w.heap.size + 1, 0, none⟩) (by simp; omega) _) (p := ⟨w.heap.size + 1, 1, none⟩) (by simp; omega) _
      · repeat (first | exact Below.refl _ _ | assumption | refine Below.alloc ?_ (by (try simp); (try omega)) _ | refine Below.setCell ?_ (by (try simp); (try omega)) _ | refine Below.drew ?_ | refine bel_then (by assumption) (by (try simp); (try omega)) ?_)
set_option maxHeartbeats 1000000 in
set_option maxRecDepth 100000 in
theorem getPlaces_no (s : ByteArray) (a : Int) (w : World) (hs : s.size ≤ 1048576) (b1 : -9223372036854775808 ≤ a) (b2 : a ≤ 9223372036854775807) (h : ¬ (0 ≤ a ∧ a + 16 ≤ 8 * s.size ∧ num (row s a.toNat 16) ≠ 0)) :
    Calls Try.prog 66 #[.agg #[.string s, .int .i64 a]] w fun e w' => e = .returned (.tuple #[.slice none 0 0, .agg #[.string ⟨#[]⟩, .int .i64 0], .bool false]) ∧ Below w.heap.size w w' := by
  have bb : Below w.heap.size w ((w.alloc (.cells #[.string s, .int .i64 a] 30)).alloc (.cells #[.string ⟨#[]⟩, .int .i64 0] 30)) := ((Below.refl _ _).alloc (Nat.le_refl _) _).alloc (by simp) _
  have hR := (Has.fresh w 30 #[.string s, .int .i64 a]).alloc (.cells #[.string ⟨#[]⟩, .int .i64 0] 30)
  have hS := Has.freshAt (w := w.alloc (.cells #[.string s, .int .i64 a] 30)) (g := w.heap.size + 1) (by simp) 30 #[.string ⟨#[]⟩, .int .i64 0]
  by_cases hr : 0 ≤ a ∧ a + 16 ≤ 8 * s.size
  · obtain ⟨q, rfl⟩ : ∃ q : Nat, a = q := ⟨a.toNat, by omega⟩
    have hz : num (row s q 16) = 0 := by
      apply Decidable.byContradiction
      intro hc
      exact h ⟨hr.1, hr.2, by rw [Int.toNat_natCast]; exact hc⟩
    have K1 := hidden (fun W : World => implGet_yes s q 16 W hs (by omega) (by omega))
    rw [hz] at K1
    obtain ⟨c, hc⟩ : ∃ c, q + 16 = c := ⟨_, rfl⟩
    rw [hc] at K1
    clear hz h hr b1 b2 hc
    go_enter Try.func66, Try.ntmps66
    go_wp2_with fail
    refine (K1.out _).mono ?_
    rintro e w2 ⟨rfl, b2⟩
    replace bb := bel_then b2 bb.size bb
    replace hR := hR.below b2 hR.lt
    replace hS := hS.below b2 hS.lt
    have hs2 := bb.size
    have hRl := hR.lt
    have hSl := hS.lt
    have r0 := hR.cell 0
    have r1 := hR.cell 1
    have q0 := hR.free 0
    have q1 := hR.free 1
    have e0 := hS.cell 0
    have e1 := hS.cell 1
    have g0 := hS.free 0
    have g1 := hS.free 1
    simp at r0 r1 e0 e1
    clear b2 hR hS
    go_wp2
    refine bodyPost_ret (v := .tuple #[.slice none 0 0, .agg #[.string ⟨#[]⟩, .int .i64 0], .bool false]) (by simp [results, Try.results66, go_sem, e0, e1, g0, g1]) rfl ⟨rfl, ?_⟩
    repeat (first | exact Below.refl _ _ | assumption | refine Below.alloc ?_ (by (try simp); (try omega)) _ | refine Below.setCell ?_ (by (try simp); (try omega)) _ | refine Below.drew ?_ | refine bel_then (by assumption) (by (try simp); (try omega)) ?_)
  · have K1 := hidden (fun W : World => implGet_no s a 16 W hs b1 b2 (fun h => hr ⟨h.1, h.2.2.2⟩))
    clear h hr
    go_enter Try.func66, Try.ntmps66
    go_wp2_with fail
    refine (K1.out _).mono ?_
    rintro e w2 ⟨rfl, b2⟩
    replace bb := bel_then b2 bb.size bb
    replace hR := hR.below b2 hR.lt
    replace hS := hS.below b2 hS.lt
    have hs2 := bb.size
    have hRl := hR.lt
    have hSl := hS.lt
    have r0 := hR.cell 0
    have r1 := hR.cell 1
    have q0 := hR.free 0
    have q1 := hR.free 1
    have e0 := hS.cell 0
    have e1 := hS.cell 1
    have g0 := hS.free 0
    have g1 := hS.free 1
    simp at r0 r1 e0 e1
    clear b2 hR hS
    go_wp2
    refine bodyPost_ret (v := .tuple #[.slice none 0 0, .agg #[.string ⟨#[]⟩, .int .i64 0], .bool false]) (by simp [results, Try.results66, go_sem, e0, e1, g0, g1]) rfl ⟨rfl, ?_⟩
    repeat (first | exact Below.refl _ _ | assumption | refine Below.alloc ?_ (by (try simp); (try omega)) _ | refine Below.setCell ?_ (by (try simp); (try omega)) _ | refine Below.drew ?_ | refine bel_then (by assumption) (by (try simp); (try omega)) ?_)
end Go.Proofs.Yteaohgipndmciaa
namespace Go.Proofs.Yteaohgipndmciaa
set_option linter.unusedVariables false
set_option linter.unusedSimpArgs false
open Go.RowKit

/-- What stays while a row of another element type grows. -/
theorem has_grown7 {w w' : World} {b base n S : Nat} {T E : TypeId} {cs : Array Value} {v : Value} {xs : List Value} (h : Has w b T cs) (hown : w.ownsRow base E S v n xs) (hne : E ≠ T) (hg : w.grownBy w' v.ownBlock) : Has w' b T cs := by
  refine h.grown hg (fun e => ?_)
  rcases hown.2 with ⟨rfl, _⟩ | ⟨g, cap, cur, rfl, _, hh, _⟩
  · simp [Value.ownBlock] at e
  · simp only [Value.ownBlock, Option.some.injEq] at e
    subst e
    unfold Has at h
    rw [hh] at h
    injection h with h
    injection h with _ h2
    exact hne h2
theorem own_grown7 {w w' : World} {b1 b2 s1 s2 n1 n2 : Nat} {e1 e2 : TypeId} {v1 v2 : Value} {xs ys : List Value} (h : w.ownsRow b1 e1 s1 v1 n1 xs) (h' : w.ownsRow b2 e2 s2 v2 n2 ys) (hne : e1 ≠ e2) (hg : w.grownBy w' v2.ownBlock) : w'.ownsRow b1 e1 s1 v1 n1 xs := by
  cases hb : v1.ownBlock with
  | none => exact h.kept hg (.inl hb)
  | some k => exact h.kept hg (.inr (fun e => own_types h h' hne hb (by rw [← e]; exact hb)))
set_option maxHeartbeats 2000000 in
set_option maxRecDepth 100000 in
theorem implGetUsed_any (s : ByteArray) (at0 : Nat) (w : World) (hs : s.size ≤ 1048576) (ha : at0 ≤ 8 * s.size) :
    Calls Try.prog 18 #[.agg #[.string s, .int .i64 at0]] w (GG7 s (getU s at0) w) := by
  have bb : Below w.heap.size w ((w.alloc (.cells #[.string s, .int .i64 at0] 30)).alloc (.cells #[.string ⟨#[]⟩, .int .i64 0] 30)) := ((Below.refl _ _).alloc (Nat.le_refl _) _).alloc (by simp) _
  have hR := (Has.fresh w 30 #[.string s, .int .i64 at0]).alloc (.cells #[.string ⟨#[]⟩, .int .i64 0] 30)
  have hS := Has.freshAt (w := w.alloc (.cells #[.string s, .int .i64 at0] 30)) (g := w.heap.size + 1) (by simp) 30 #[.string ⟨#[]⟩, .int .i64 0]
  by_cases hc : at0 + 16 ≤ 8 * s.size ∧ num (row s at0 16) ≠ 0
  · have HG0 : Hid (getU s at0 = getG s (places (num (row s at0 16))) (at0 + 16)) := hidden (by unfold getU; rw [if_pos hc])
    have HPL := hidden (places_lt (num (row s at0 16)))
    have HPN := hidden (places_ne hc.2)
    have K1 := hidden (fun W : World => getPlaces_yes s at0 _ W hs hc.1 rfl hc.2)
    obtain ⟨gs, hgs⟩ : ∃ gs, places (num (row s at0 16)) = gs := ⟨_, rfl⟩
    obtain ⟨G, hG⟩ : ∃ G, getU s at0 = G := ⟨_, rfl⟩
    rw [hgs] at HG0 HPL HPN K1
    rw [hG] at HG0 ⊢
    have HGL : Hid (gs.length ≤ 16) := hidden (by rw [← hgs]; exact placesTo_len _ 16)
    obtain ⟨n, hn⟩ : ∃ n, gs.length = n := ⟨_, rfl⟩
    have HN := hidden hn
    have hn1 : 1 ≤ n := by rw [← hn]; exact List.length_pos_iff.2 HPN.out
    rw [hn] at K1
    have hn16 : n ≤ 16 := by rw [← hn]; exact HGL.out
    obtain ⟨c0, hc0⟩ : ∃ c0, at0 + 16 = c0 := ⟨_, rfl⟩
    rw [hc0] at K1 HG0
    have hc08 : c0 ≤ 8 * s.size := by omega
    obtain ⟨i0, hi, hz0, hz1, hz2⟩ := info_parts Try.info5
    have KY := hidden (fun (W : World) (a x : Nat) (h1 : a + 16 ≤ 8 * s.size) (h2 : num (row s a 16) = x) (h3 : x ≠ 0) => getPlaces_yes s a x W hs h1 h2 h3)
    have KN := hidden (fun (W : World) (a : Nat) (h1 : a ≤ 8 * s.size) (h : ¬ (a + 16 ≤ 8 * s.size ∧ num (row s a 16) ≠ 0)) => getPlaces_no s a W hs (by omega) (by omega) (fun h2 => h ⟨by omega, by have := h2.2.2; rwa [Int.toNat_natCast] at this⟩))
    clear hc hgs hG hn hc0
    go_enter Try.func18, Try.ntmps18
    go_wp2_with fail
    refine (K1.out _).mono ?_
    rintro e w2 ⟨v1, rfl, hown1, b2⟩
    obtain ⟨g1, c1, rfl⟩ := Joins.ownsRow_form hown1 (by omega)
    have hg1 := hown1.lt g1 rfl
    simp at hg1
    replace bb := bel_then b2 bb.size bb
    replace hR := hR.below b2 hR.lt
    replace hS := hS.below b2 hS.lt
    have hs2 := bb.size
    have hRl := hR.lt
    have hSl := hS.lt
    have r0 := hR.cell 0
    have r1 := hR.cell 1
    have q0 := hR.free 0
    have q1 := hR.free 1
    simp at r0 r1
    have hR2 := (hR.store 0 (.string s)).store 1 (.int .i64 (c0 : Int))
    have hS2 := (hS.storeAway (p := ⟨w.heap.size, 0, none⟩) (by simp) (.string s)).storeAway (p := ⟨w.heap.size, 1, none⟩) (by simp) (.int .i64 (c0 : Int))
    have bb2 := (bb.setCell (p := ⟨w.heap.size, 0, none⟩) (Nat.le_refl _) (.string s)).setCell (p := ⟨w.heap.size, 1, none⟩) (Nat.le_refl _) (.int .i64 (c0 : Int))
    have hO2 := own_away (own_away hown1 (p := ⟨w.heap.size, 0, none⟩) (by simp; omega) (.string s)) (p := ⟨w.heap.size, 1, none⟩) (by simp; omega) (.int .i64 (c0 : Int))
    simp at hR2
    clear b2 hR hS bb hown1
    go_wp2
    go_loopw [7, 9, 10, 11, 12, 14, 26] (fun v _ _ _ _ _ sk wr => ∃ (k a : Nat) (D : List Nat), k ≤ n ∧ sk = .int .i64 k ∧ a ≤ 8 * s.size ∧ Hid (G = (getG s (gs.drop k) a).map (fun r => (D ++ r.1, r.2))) ∧ D.length ≤ 16 * k ∧ wr.ownsRow w2.heap.size 5 1 v D.length (u8s D) ∧ Hid (wr.ownsRow (w.heap.size + 1 + 1) 3 1 (.slice (some ⟨g1, 0, none⟩) n c1) n (natsL gs)) ∧ Has wr w.heap.size 30 #[.string s, .int .i64 (a : Int)] ∧ Has wr (w.heap.size + 1) 30 #[.string ⟨#[]⟩, .int .i64 0] ∧ Below w.heap.size w wr ∧ w2.heap.size ≤ wr.heap.size) (fun _ _ _ _ _ _ sk _ => n - (intOf sk).toNat)
    case atStart => exact ⟨0, c0, [], by omega, rfl, hc08, hidden (by rw [List.drop_zero, map_app_nil, HG0.out]), by simp, World.ownsRow_nil _ _ _ _, hidden (by simpa using hO2), hR2, hS2, bb2, by simp⟩
    case round =>
      obtain ⟨k, a, D, hk, rfl, haa, HD, hDl, hown, HGR, hR, hS, hbl, hsz⟩ := hrel
      clear hR2 hS2 bb2 r0 r1 q0 q1 hO2
      have r0 := hR.cell 0
      have r1 := hR.cell 1
      have q0 := hR.free 0
      have q1 := hR.free 1
      have e0 := hS.cell 0
      have e1 := hS.cell 1
      have g0 := hS.free 0
      have g1' := hS.free 1
      simp at r0 r1 e0 e1
      have hRl := hR.lt
      have hSl := hS.lt
      by_cases hlt : k < n
      · have hkg : k < gs.length := by rw [HN.out]; exact hlt
        have HDR := hidden (List.drop_eq_getElem_cons hkg)
        have cg := HGR.out.cellAt k (by omega)
        rw [natsL_get gs k hkg] at cg
        have hg16 := HPL.out gs[k] (List.getElem_mem hkg)
        obtain ⟨g, hg⟩ : ∃ g, gs[k] = g := ⟨_, rfl⟩
        rw [hg] at HDR cg hg16
        by_cases hcc : a + 16 ≤ 8 * s.size ∧ num (row s a 16) ≠ 0
        · obtain ⟨x, hx⟩ : ∃ x, num (row s a 16) = x := ⟨_, rfl⟩
          have hx0 : x ≠ 0 := by rw [← hx]; exact hcc.2
          have K2 := hidden (fun W => KY.out W a x hcc.1 hx hx0)
          have HPX : Hid (places x ≠ []) := hidden (by rw [← hx]; exact places_ne hcc.2)
          have HEQ : Hid (G = (getG s (gs.drop (k + 1)) (a + 16)).map (fun r => ((D ++ (places x).map (fun p => 16 * g + p)) ++ r.1, r.2))) := hidden (by rw [HD.out, HDR.out, getG_yes hcc.1 hcc.2, map_map_app, hx])
          have HPL2 := hidden (places_lt x)
          have HPM : Hid ((places x).length ≤ 16) := hidden (placesTo_len x 16)
          have ha16 := hcc.1
          obtain ⟨ps, hps⟩ : ∃ ps, places x = ps := ⟨_, rfl⟩
          rw [hps] at K2 HPX HEQ HPL2 HPM
          obtain ⟨m, hm⟩ : ∃ m, ps.length = m := ⟨_, rfl⟩
          have HM := hidden hm
          have hm1 : 1 ≤ m := by rw [← hm]; exact List.length_pos_iff.2 HPX.out
          rw [hm] at K2
          have hm16 : m ≤ 16 := by rw [← hm]; exact HPM.out
          obtain ⟨a2, ha2⟩ : ∃ a2, a + 16 = a2 := ⟨_, rfl⟩
          rw [ha2] at K2 HEQ ha16
          clear hcc hg hx hps hm ha2 HD HDR hx0
          go_wp2_with fail
          refine (K2.out _).mono ?_
          rintro e w4 ⟨v2, rfl, hown2, b4⟩
          clear r0 r1 q0 q1 e0 e1 g0 g1'
          obtain ⟨g2, c2, rfl⟩ := Joins.ownsRow_form hown2 (by omega)
          have b5 : Below w4.heap.size w4 (w4.alloc (.cells #[.string s, .int .i64 (a2 : Int)] 30)) := (Below.refl _ _).alloc (Nat.le_refl _) _
          have hN5 := Has.fresh w4 30 #[.string s, .int .i64 (a2 : Int)]
          have hs4 := b4.size
          have b45 := bel_then b5 hs4 b4
          have hR5 := hR.below b45 hRl
          have hS5 := hS.below b45 hSl
          have hbl5 := bel_then b45 hbl.size hbl
          have hown5 := own_bel hown b45
          have HG5 := hidden (own_bel HGR.out b45)
          have HP5 := hidden (own_bel hown2 b5)
          have hwr2 := hsz
          obtain ⟨N, hN⟩ : ∃ N, w4.heap.size = N := ⟨_, rfl⟩
          have hNs : w.heap.size + 1 < N := by omega
          rw [hN] at hN5
          have hs5 := hbl5.size
          simp at hs5
          obtain ⟨q4, hq4⟩ : ∃ q4, wr.heap.size = q4 := ⟨_, rfl⟩
          rw [hq4] at HP5
          clear hown2 b4 b5 b45 hR hS hbl hown HGR
          go_wp2
          go_loopw [7, 14, 41] (fun v _ sp wq => ∃ p : Nat, p ≤ m ∧ sp = .int .i64 p ∧ wq.ownsRow w2.heap.size 5 1 v (D ++ (ps.take p).map (fun p => 16 * g + p)).length (u8s (D ++ (ps.take p).map (fun p => 16 * g + p))) ∧ Hid (wq.ownsRow q4 3 1 (.slice (some ⟨g2, 0, none⟩) m c2) m (natsL ps)) ∧ Hid (wq.ownsRow (w.heap.size + 1 + 1) 3 1 (.slice (some ⟨g1, 0, none⟩) n c1) n (natsL gs)) ∧ Has wq w.heap.size 30 #[.string s, .int .i64 (a : Int)] ∧ Has wq (w.heap.size + 1) 30 #[.string ⟨#[]⟩, .int .i64 0] ∧ Has wq N 30 #[.string s, .int .i64 (a2 : Int)] ∧ Below w.heap.size w wq ∧ w2.heap.size ≤ wq.heap.size) (fun _ _ sp _ => m - (intOf sp).toNat)
          case atStart => exact ⟨0, by omega, rfl, by simpa using hown5, HP5, HG5, hR5, hS5, hN5, hbl5, by simp; omega⟩
          case round =>
            obtain ⟨p, hp, rfl, hownq, HPq, HGq, hRq, hSq, hNq, hblq, hszq⟩ := hrel
            clear hN5 hR5 hS5 hbl5 hown5 HP5 HG5 hs5
            by_cases hlt2 : p < m
            · have hpm : p < ps.length := by rw [HM.out]; exact hlt2
              have cp := HPq.out.cellAt p (by omega)
              rw [natsL_get ps p hpm] at cp
              have hp16 := HPL2.out ps[p] (List.getElem_mem hpm)
              have HTK : Hid (D ++ (ps.take (p + 1)).map (fun p => 16 * g + p) = (D ++ (ps.take p).map (fun p => 16 * g + p)) ++ [16 * g + ps[p]]) := hidden (by rw [List.take_succ_eq_append_getElem hpm, List.map_append, ← List.append_assoc]; rfl)
              have HLL : Hid ((D ++ (ps.take p).map (fun p => 16 * g + p)).length ≤ 512) := hidden (by simp; omega)
              obtain ⟨y, hy⟩ : ∃ y, ps[p] = y := ⟨_, rfl⟩
              rw [hy] at cp hp16 HTK
              obtain ⟨L, hL⟩ : ∃ L, D ++ (ps.take p).map (fun p => 16 * g + p) = L := ⟨_, rfl⟩
              rw [hL] at hownq HTK HLL
              have hLL := HLL.out
              have h8 : ((g : Int) * 16 + (y : Int)) % 256 = (g : Int) * 16 + (y : Int) := by omega
              clear hy hL
              go_wp2_with (at_builtin; refine wpList_append_own _ rfl _ _ 22 rfl w2.heap.size 5 i0 (.int .u8 0) 1 1 Try.underlying22 hi hz0 hz1 hz2 rfl (by decide) _ _ _ rfl (hownq.alloc _) ⟨wr.heap.size, 0, none⟩ 1 1 [.int .u8 ((g : Int) * 16 + (y : Int))] rfl rfl ?c1 ?c2 ?c3 ?c4 ?c5 ?_)
              case c1 => exact cell_one_new _ _ _
              case c2 => exact fun u hu => by simp at hu; subst hu; rfl
              case c3 => unfold maxLen; omega
              case c4 => omega
              case c5 => first | omega | (simp; omega)
              intro v6 w6 hown6 hgrow _
              have hlo := fun g hg => (hownq.lt g hg).1
              have hownA := hownq.alloc (.cells #[.int .u8 ((g : Int) * 16 + (y : Int))] 5)
              have hR6 := has_grown7 (hRq.alloc _) hownA (by decide) hgrow
              have hS6 := has_grown7 (hSq.alloc _) hownA (by decide) hgrow
              have hN6 := has_grown7 (hNq.alloc _) hownA (by decide) hgrow
              have HP6 := hidden (own_grown7 (HPq.out.alloc _) hownA (by decide) hgrow)
              have HG6 := hidden (own_grown7 (HGq.out.alloc _) hownA (by decide) hgrow)
              have hbl6 : Below w.heap.size w w6 := (hblq.alloc hblq.size _).grown hgrow (by simp; have := hblq.size; omega) (fun g hg => by have := hlo g hg; omega)
              have hs6 : w2.heap.size ≤ w6.heap.size := by have := hgrow.size; simp at this; omega
              have HO6 : Hid (w6.ownsRow w2.heap.size 5 1 v6 (D ++ (ps.take (p + 1)).map (fun p => 16 * g + p)).length (u8s (D ++ (ps.take (p + 1)).map (fun p => 16 * g + p)))) := hidden (by
                rw [HTK.out, u8s_snoc, List.length_append]
                have := hown6
                rw [show ((g : Int) * 16 + (y : Int)) = ((16 * g + y : Nat) : Int) by omega] at this
                exact this)
              clear hownq hownA hown6 hgrow hlo hRq hSq hNq hblq
              go_wp2
              go_roundw
              case rel => exact ⟨p + 1, by omega, by go_num, HO6.out, HP6, HG6, hR6, hS6, hN6, hbl6, hs6⟩
              case measure => simp [intOf]; omega
            · have hpm : p = m := by omega
              subst hpm
              have HTE : Hid (ps.take p = ps) := hidden (by rw [← HM.out]; exact List.take_length)
              rw [HTE.out] at hownq
              have HLE : Hid ((D ++ ps.map (fun p => 16 * g + p)).length ≤ 16 * (k + 1)) := hidden (by
                rw [List.length_append, List.length_map, HM.out]; omega)
              obtain ⟨L, hL⟩ : ∃ L, D ++ ps.map (fun p => 16 * g + p) = L := ⟨_, rfl⟩
              rw [hL] at hownq HLE HEQ
              have n0 := hNq.cell 0
              have n1 := hNq.cell 1
              have q0 := hRq.free 0
              have q1 := hRq.free 1
              have r0 := hRq.cell 0
              have r1 := hRq.cell 1
              simp at n0 n1 r0 r1
              have hRl6 := hRq.lt
              have hR7 := (hRq.store 0 (.string s)).store 1 (.int .i64 (a2 : Int))
              simp at hR7
              have hS7 := (hSq.storeAway (p := ⟨w.heap.size, 0, none⟩) (by simp) (.string s)).storeAway (p := ⟨w.heap.size, 1, none⟩) (by simp) (.int .i64 (a2 : Int))
              have bb7 := (hblq.setCell (p := ⟨w.heap.size, 0, none⟩) (Nat.le_refl _) (.string s)).setCell (p := ⟨w.heap.size, 1, none⟩) (Nat.le_refl _) (.int .i64 (a2 : Int))
              have hO7 := own_away (own_away hownq (p := ⟨w.heap.size, 0, none⟩) (by simp; omega) (.string s)) (p := ⟨w.heap.size, 1, none⟩) (by simp; omega) (.int .i64 (a2 : Int))
              have HG7 := hidden (own_away (own_away HGq.out (p := ⟨w.heap.size, 0, none⟩) (by simp; omega) (.string s)) (p := ⟨w.heap.size, 1, none⟩) (by simp; omega) (.int .i64 (a2 : Int)))
              clear hL hownq hRq hSq hNq hblq
              go_wp2
              go_roundw
              case rel => exact ⟨k + 1, a2, L, by omega, by go_num, ha16, HEQ, HLE.out, hO7, HG7, hR7, hS7, bb7, by simpa using hszq⟩
              case measure => simp [intOf]; omega
        · have K2 := hidden (fun W => KN.out W a haa hcc)
          have HNO : Hid (G = none) := hidden (by rw [HD.out, HDR.out, getG_no hcc]; rfl)
          clear hcc hg
          go_wp2_with fail
          refine (K2.out _).mono ?_
          rintro e w4 ⟨rfl, b4⟩
          have bb4 := bel_then b4 hbl.size hbl
          have hR4 := hR.below b4 hRl
          have hS4 := hS.below b4 hSl
          have hRl4 := hR4.lt
          have hSl4 := hS4.lt
          replace r0 := hR4.cell 0
          replace r1 := hR4.cell 1
          replace q0 := hR4.free 0
          replace q1 := hR4.free 1
          replace e0 := hS4.cell 0
          replace e1 := hS4.cell 1
          replace g0 := hS4.free 0
          replace g1' := hS4.free 1
          simp at r0 r1 e0 e1
          have hs4 := bb4.size
          have nE : ¬ w.heap.size + 1 = w4.heap.size := by omega
          clear b4 hR hS hR4 hS4 hown hbl
          go_wp2
          refine bodyPost_ret (v := .tuple #[.string ⟨#[]⟩, .agg #[.string ⟨#[]⟩, .int .i64 0], .bool false]) (by simp [results, Try.results18, go_sem, e0, e1, g0, g1', hSl4, nE]) rfl ⟨.inr ⟨HNO.out, rfl⟩, ?_⟩
          repeat (first | exact Below.refl _ _ | assumption | refine Below.alloc ?_ (by (try simp); (try omega)) _ | refine Below.setCell ?_ (by (try simp); (try omega)) _ | refine Below.drew ?_ | refine bel_then (by assumption) (by (try simp); (try omega)) ?_)
      · have hkn : k = n := by omega
        subst hkn
        have HGE : Hid (G = some (D, a)) := hidden (by rw [HD.out, ← HN.out, List.drop_length]; simp [getG])
        have hrun := run_str (w := wr.drew) hown
        have hbs := hbl.size
        have d0 := r0
        have d1 := r1
        clear hR hS hown
        go_wp2
        go_region
        all_goals go_wp2
        all_goals
          refine bodyPost_ret (v := .tuple #[.string (strOf D), .agg #[.string s, .int .i64 (a : Int)], .bool true]) (by simp [results, Try.results18, go_sem, d0, d1, e0, e1, g0, g1']) rfl ⟨.inl ⟨D, a, HGE.out, rfl⟩, ?_⟩
          repeat (first | exact Below.refl _ _ | assumption | refine Below.alloc ?_ (by (try simp); (try omega)) _ | refine Below.setCell ?_ (by (try simp); (try omega)) _ | refine Below.drew ?_ | refine bel_then (by assumption) (by (try simp); (try omega)) ?_)
  · have HNO : Hid (getU s at0 = none) := hidden (by unfold getU; rw [if_neg hc])
    have K1 := hidden (fun W : World => getPlaces_no s at0 W hs (by omega) (by omega) (fun h2 => hc ⟨by omega, by have := h2.2.2; rwa [Int.toNat_natCast] at this⟩))
    clear hc
    go_enter Try.func18, Try.ntmps18
    go_wp2_with fail
    refine (K1.out _).mono ?_
    rintro e w2 ⟨rfl, b2⟩
    replace bb := bel_then b2 bb.size bb
    replace hR := hR.below b2 hR.lt
    replace hS := hS.below b2 hS.lt
    have hs2 := bb.size
    have hRl := hR.lt
    have hSl := hS.lt
    have r0 := hR.cell 0
    have r1 := hR.cell 1
    have q0 := hR.free 0
    have q1 := hR.free 1
    have e0 := hS.cell 0
    have e1 := hS.cell 1
    have g0 := hS.free 0
    have g1 := hS.free 1
    simp at r0 r1 e0 e1
    clear b2 hR hS
    go_wp2
    refine bodyPost_ret (v := .tuple #[.string ⟨#[]⟩, .agg #[.string ⟨#[]⟩, .int .i64 0], .bool false]) (by simp [results, Try.results18, go_sem, e0, e1, g0, g1]) rfl ⟨.inr ⟨HNO.out, rfl⟩, ?_⟩
    repeat (first | exact Below.refl _ _ | assumption | refine Below.alloc ?_ (by (try simp); (try omega)) _ | refine Below.setCell ?_ (by (try simp); (try omega)) _ | refine Below.drew ?_ | refine bel_then (by assumption) (by (try simp); (try omega)) ?_)
end Go.Proofs.Yteaohgipndmciaa
namespace Go.Proofs.Yteaohgipndmciaa
set_option linter.unusedVariables false
set_option linter.unusedSimpArgs false
open Go.RowKit

theorem gg7_yes {s : ByteArray} {G : Option (List Nat × Nat)} {u : List Nat} {q : Nat} {w : World} {e : Ending} {w' : World} (h : GG7 s G w e w') (hg : G = some (u, q)) :
    e = .returned (.tuple #[.string (strOf u), .agg #[.string s, .int .i64 (q : Int)], .bool true]) ∧ Below w.heap.size w w' := by
  obtain ⟨⟨v, p, h2, rfl⟩ | ⟨hno, _⟩, hb⟩ := h
  · rw [hg] at h2
    simp only [Option.some.injEq, Prod.mk.injEq] at h2
    obtain ⟨rfl, rfl⟩ := h2
    exact ⟨rfl, hb⟩
  · rw [hg] at hno; cases hno
theorem gg7_no {s : ByteArray} {G : Option (List Nat × Nat)} {w : World} {e : Ending} {w' : World} (h : GG7 s G w e w') (hg : G = none) :
    e = .returned (.tuple #[.string ⟨#[]⟩, .agg #[.string ⟨#[]⟩, .int .i64 0], .bool false]) ∧ Below w.heap.size w w' := by
  obtain ⟨⟨v, p, h2, rfl⟩ | ⟨_, rfl⟩, hb⟩ := h
  · rw [hg] at h2; cases h2
  · exact ⟨rfl, hb⟩
end Go.Proofs.Yteaohgipndmciaa
