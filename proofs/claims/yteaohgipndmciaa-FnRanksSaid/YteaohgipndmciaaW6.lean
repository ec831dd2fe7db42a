/- Merged: C7F, C7G, C7J. -/
import Derived.Test.YteaohgipndmciaaW3
import Derived.Test.YteaohgipndmciaaW4
import Derived.Test.YteaohgipndmciaaW1
import Derived.Test.YteaohgipndmciaaW2
namespace Go.Proofs.Yteaohgipndmciaa
set_option linter.unusedVariables false
set_option linter.unusedSimpArgs false
open Go.RowKit

theorem wide_bit (m k : Nat) (hm : m < 65536) : bits BinOp.and IntKind.i64 ((m : Int) / 2 ^ k) 1 = ((m / 2 ^ k % 2 : Nat) : Int) := by
  have h0 : m / 2 ^ k ≤ m := Nat.div_le_self _ _
  have := i64_and_nat (m / 2 ^ k) 1 (by omega) (by omega)
  rw [nat_mask1] at this
  rw [show ((m : Int) / 2 ^ k) = ((m / 2 ^ k : Nat) : Int) by simp, show (1 : Int) = ((1 : Nat) : Int) by rfl, this]
/-- What reading a set answers, the reader being in block b. -/
def L7UPost (s : ByteArray) (at0 b : Nat) (T : TypeId) (w : World) (e : Ending) (w' : World) : Prop :=
  ((∃ (u : List Nat) (q : Nat), getU s at0 = some (u, q) ∧ e = .returned (.string (strOf u)) ∧ Has w' b T #[.string s, .int .i64 (q : Int)]) ∨
   (getU s at0 = none ∧ e = .returned (.string ⟨#[]⟩))) ∧ Only b w w'
end Go.Proofs.Yteaohgipndmciaa
namespace Go.Proofs.Yteaohgipndmciaa
set_option linter.unusedVariables false
set_option linter.unusedSimpArgs false
open Go.RowKit

/-- What a reader of chapter 7 answers, G being what stands there. -/
def GG7 (s : ByteArray) (G : Option (List Nat × Nat)) (w : World) (e : Ending) (w' : World) : Prop :=
  ((∃ (u : List Nat) (q : Nat), G = some (u, q) ∧ e = .returned (.tuple #[.string (strOf u), .agg #[.string s, .int .i64 (q : Int)], .bool true])) ∨
   (G = none ∧ e = .returned (.tuple #[.string ⟨#[]⟩, .agg #[.string ⟨#[]⟩, .int .i64 0], .bool false]))) ∧ Below w.heap.size w w'
theorem str_nonempty {s : ByteArray} (h : 0 < s.size) : s.toList.isEmpty = false := by
  rw [Bool.eq_false_iff]
  intro e
  rw [List.isEmpty_iff, ByteArray.toList_eq] at e
  have h2 : s.data.toList.length = s.size := by simp
  rw [e] at h2
  simp at h2
  omega
theorem str_pos {D : List Nat} (h : D ≠ []) : 0 < (strOf D).size := by rw [strOf_size]; exact List.length_pos_iff.2 h
end Go.Proofs.Yteaohgipndmciaa
namespace Go.Proofs.Yteaohgipndmciaa
set_option linter.unusedVariables false
set_option linter.unusedSimpArgs false
open Go.RowKit

/-- Can S be told by an order O? -/
def rkOk (S O : List Nat) : Bool := decide (S.length ≤ 600 ∧ ordOk O = true ∧ ∀ b ∈ S, b ∈ O)
theorem rkOk_iff (S O : List Nat) : rkOk S O = true ↔ S.length ≤ 600 ∧ ordOk O = true ∧ ∀ b ∈ S, b ∈ O := by simp [rkOk]
def rkTo (S O : List Nat) (k : Nat) : List Int := (S.take k).map fun b => (O.idxOf b : Int)
/-- The ranks of S in O; nothing where they can't be told. -/
def rkL (S O : List Nat) : List Int := if rkOk S O = true then rkTo S O S.length else []
theorem rkTo_len (S O : List Nat) (k : Nat) (h : k ≤ S.length) : (rkTo S O k).length = k := by simp [rkTo]; omega
theorem rkTo_succ (S O : List Nat) (k : Nat) (h : k < S.length) : rkTo S O (k + 1) = rkTo S O k ++ [(O.idxOf (S.getD k 0) : Int)] := by
  unfold rkTo
  rw [List.take_succ_eq_append_getElem h, List.map_append]
  simp [List.getD_eq_getElem?_getD, h]
theorem intsV_snoc7 (D : List Int) (x : Int) : intsV (D ++ [x]) = intsV D ++ [.int .i64 x] := by simp [intsV]
theorem ret_pair {v : Value} {a b : Bool} (h : a = b) : Ending.returned (.tuple #[v, .bool a]) = .returned (.tuple #[v, .bool b]) := by rw [h]
theorem bool_false {b : Bool} (h : ¬ b = true) : b = false := by simpa using h
set_option maxHeartbeats 1000000 in
set_option maxRecDepth 100000 in
theorem specToRanks_any (s o : ByteArray) (w : World) (hs : s.size ≤ 1048576) (ho : o.size ≤ 1048576) :
    Calls Try.prog 30 #[.string s, .string o] w fun e w' => ∃ v, e = .returned (.tuple #[v, .bool (rkOk (bytesOf s) (bytesOf o))]) ∧ w'.ownsRow w.heap.size 3 1 v (rkL (bytesOf s) (bytesOf o)).length (intsV (rkL (bytesOf s) (bytesOf o))) ∧ Below w.heap.size w w' := by
  have K1 := hidden (fun W => specOrderOk_any o W ho)
  have HNIL : Hid (rkOk (bytesOf s) (bytesOf o) = false → rkL (bytesOf s) (bytesOf o) = []) := hidden (fun h => by unfold rkL; rw [if_neg (by rw [h]; decide)])
  have HLs := hidden (bytesOf_len s)
  by_cases h6 : s.size ≤ 600
  · by_cases hok : ordOk (bytesOf o) = true
    · obtain ⟨i0, hi, hz0, hz1, hz2⟩ := info_parts Try.infoI
      have ho256 : o.size ≤ 256 := by rw [← bytesOf_len]; exact nodup_256 (byt_bytesOf o) ((ordOk_iff _).1 hok).2
      have KP := hidden (fun (W : World) (b : Nat) (hb : b < 256) => l7place_any o b W ho hb)
      have HIT := hidden (rkOk_iff (bytesOf s) (bytesOf o))
      have HOK := hidden hok
      have HGT : Hid (∀ k (h : k < s.size), s[k].toNat = (bytesOf s).getD k 0) := hidden (fun k h => by rw [byteAt_get _ _ h, bytesOf_get])
      have HME : Hid (∀ k, k < s.size → (bytesOf s).getD k 0 ∈ bytesOf s) := hidden (fun k h => by
        have h2 : k < (bytesOf s).length := by rw [bytesOf_len]; exact h
        rw [List.getD_eq_getElem?_getD, List.getElem?_eq_getElem h2]; exact List.getElem_mem h2)
      have HRS := hidden (fun k h => rkTo_succ (bytesOf s) (bytesOf o) k h)
      have HRL := hidden (fun k h => rkTo_len (bytesOf s) (bytesOf o) k h)
      have HAL : Hid (rkOk (bytesOf s) (bytesOf o) = true → rkL (bytesOf s) (bytesOf o) = rkTo (bytesOf s) (bytesOf o) s.size) := hidden (fun h => by unfold rkL; rw [if_pos h, bytesOf_len])
      have HBY := hidden (byt_bytesOf s)
      have HIX : Hid (∀ b, b ∈ bytesOf o → (bytesOf o).idxOf b < o.size) := hidden (fun b h => by rw [← bytesOf_len]; exact idx_lt h)
      rw [hok] at K1
      have HMA : Hid (∀ x, (x ∈ bytesOf s → ∃ k, k < s.size ∧ (bytesOf s).getD k 0 = x)) := hidden (fun x hx => by
        obtain ⟨k, hk, rfl⟩ := List.getElem_of_mem hx
        exact ⟨k, by rw [← bytesOf_len]; exact hk, by simp [List.getD_eq_getElem?_getD, hk]⟩)
      obtain ⟨S, hS⟩ : ∃ S, bytesOf s = S := ⟨_, rfl⟩
      obtain ⟨O, hO⟩ : ∃ O, bytesOf o = O := ⟨_, rfl⟩
      rw [hS] at HNIL HIT HGT HME HRS HRL HAL HBY HLs HMA
      rw [hO] at HNIL HIT HRS HRL HAL HOK KP HIX
      rw [hS, hO]
      clear hS hO hok
      go_enter Try.func30, Try.ntmps30
      go_wp2_with fail
      refine (K1.out _).mono ?_
      rintro e w1 ⟨rfl, b1⟩
      have hs1 := b1.size
      go_wp2
      go_loopw [6, 7, 8] (fun v sk _ wr => ∃ k : Nat, k ≤ s.size ∧ sk = .int .i64 k ∧ Hid (∀ j, j < k → S.getD j 0 ∈ O) ∧ wr.ownsRow w.heap.size 3 1 v k (intsV (rkTo S O k)) ∧ Below w.heap.size w wr) (fun _ sk _ _ => s.size - (intOf sk).toNat)
      case atStart => exact ⟨0, by omega, rfl, hidden (fun j hj => by omega), World.ownsRow_nil _ _ _ _, b1⟩
      case round =>
        obtain ⟨k, hk, rfl, HA, hown, hbl⟩ := hrel
        have hsz := hbl.size
        by_cases hlt : k < s.size
        · have hx256 : s[k].toNat < 256 := UInt8.toNat_lt _
          have hgk := HGT.out k hlt
          have HM := hidden (HME.out k hlt)
          have HR := hidden (HRS.out k (by rw [HLs.out]; exact hlt))
          obtain ⟨x, hx⟩ : ∃ x, s[k].toNat = x := ⟨_, rfl⟩
          rw [hx] at hgk hx256
          rw [← hgk] at HM HR
          have KX := hidden (KP.out wr x hx256)
          have HGK := hidden hgk
          clear hgk
          by_cases hin : x ∈ O
          · have hix := HIX.out x hin
            rw [placeI, if_pos hin] at KX
            obtain ⟨y, hy⟩ : ∃ y, O.idxOf x = y := ⟨_, rfl⟩
            rw [hy] at KX HR hix
            have HA2 : Hid (∀ j, j < k + 1 → S.getD j 0 ∈ O) := hidden (fun j hj => by
              rcases Nat.lt_or_ge j k with h | h
              · exact HA.out j h
              · rw [show j = k by omega, ← HGK.out]; exact hin)
            clear hy
            go_wp2_with fail
            refine KX.out.mono ?_
            rintro e w2 ⟨rfl, rfl⟩
            go_wp2_with (at_builtin; refine wpList_append_own _ rfl _ _ 39 rfl w.heap.size 3 i0 (.int .i64 0) 1 8 Try.underlying39 hi hz0 hz1 hz2 rfl (by decide) _ _ _ rfl (hown.alloc _) ⟨w2.heap.size, 0, none⟩ 1 1 [.int .i64 (y : Int)] rfl rfl ?c1 ?c2 ?c3 ?c4 ?c5 ?_)
            case c1 => exact cell_one_new _ _ _
            case c2 => exact fun u hu => by simp at hu; subst hu; rfl
            case c3 => unfold maxLen; omega
            case c4 => omega
            case c5 => first | omega | (simp; omega)
            intro v5 w5 hown5 hgrow _
            have hb5 := bel_app hbl hsz hown hgrow
            rw [← intsV_snoc7, ← HR.out] at hown5
            clear hown hgrow hbl
            go_wp2
            go_roundw
            case rel => exact ⟨k + 1, by omega, by go_num, HA2, hown5, hb5⟩
            case measure => simp [intOf]; omega
          · rw [placeI, if_neg hin] at KX
            have HF : Hid (rkOk S O = false) := hidden (bool_false (fun h => hin ((HIT.out.1 h).2.2 x HM.out)))
            go_wp2_with fail
            refine KX.out.mono ?_
            rintro e w2 ⟨rfl, rfl⟩
            go_wp2
            go_ret2
            exact ⟨_, ret_pair HF.out.symm, by rw [HNIL.out HF.out]; exact World.ownsRow_nil _ _ _ _, hbl⟩
        · have hks : k = s.size := by omega
          subst hks
          have HT : Hid (rkOk S O = true) := hidden (HIT.out.2 ⟨by rw [HLs.out]; exact h6, HOK.out, fun b hb => by
            obtain ⟨j, hj, rfl⟩ := HMA.out b hb
            exact HA.out j hj⟩)
          have HL2 := hidden (HRL.out s.size (by rw [HLs.out]; exact Nat.le_refl _))
          go_wp2
          go_ret2
          exact ⟨_, ret_pair HT.out.symm, by rw [HAL.out HT.out, HL2.out]; exact hown, hbl⟩
    · have HF : Hid (rkOk (bytesOf s) (bytesOf o) = false) := hidden (bool_false (fun h => hok ((rkOk_iff _ _).1 h).2.1))
      rw [bool_false hok] at K1
      clear hok
      go_enter Try.func30, Try.ntmps30
      go_wp2_with fail
      refine (K1.out _).mono ?_
      rintro e w1 ⟨rfl, b1⟩
      go_wp2
      go_ret2
      exact ⟨_, ret_pair HF.out.symm, by rw [HNIL.out HF.out]; exact World.ownsRow_nil _ _ _ _, b1⟩
  · have HF : Hid (rkOk (bytesOf s) (bytesOf o) = false) := hidden (bool_false (fun h => h6 (by rw [← bytesOf_len]; exact ((rkOk_iff _ _).1 h).1)))
    have h6I : (600 : Int) < s.size := by omega
    go_enter Try.func30, Try.ntmps30
    go_wp2
    go_ret2
    exact ⟨_, ret_pair HF.out.symm, by rw [HNIL.out HF.out]; exact World.ownsRow_nil _ _ _ _, Below.refl _ _⟩

/-- Are these ranks in an order O? -/
def frOk (z : List Int) (O : List Nat) : Bool := decide (z.length ≤ 600 ∧ ordOk O = true ∧ ∀ x ∈ z, 0 ≤ x ∧ x < (O.length : Int))
theorem frOk_iff (z : List Int) (O : List Nat) : frOk z O = true ↔ z.length ≤ 600 ∧ ordOk O = true ∧ ∀ x ∈ z, 0 ≤ x ∧ x < (O.length : Int) := by simp [frOk]
def frTo (z : List Int) (O : List Nat) (k : Nat) : List Nat := (z.take k).map fun x => O.getD x.toNat 0
/-- The bytes of ranks; none where they are no ranks. -/
def frL (z : List Int) (O : List Nat) : List Nat := if frOk z O = true then frTo z O z.length else []
theorem frTo_len (z : List Int) (O : List Nat) (k : Nat) (h : k ≤ z.length) : (frTo z O k).length = k := by simp [frTo]; omega
theorem frTo_succ (z : List Int) (O : List Nat) (k : Nat) (h : k < z.length) : frTo z O (k + 1) = frTo z O k ++ [O.getD (z.getD k 0).toNat 0] := by
  unfold frTo
  rw [List.take_succ_eq_append_getElem h, List.map_append]
  simp [List.getD_eq_getElem?_getD, h]
theorem strOf_nil : strOf [] = ⟨#[]⟩ := rfl
end Go.Proofs.Yteaohgipndmciaa
