/- Merged: C7F, C7G, C7J, C8, C8M, C9, C8I, C8J, I8L, I8F, I8G, I9, C8S, TotU, C8N, C8P. -/
import Derived.Test.YtpdicijoohahaaaWW10
import Derived.Test.YtpdicijoohahaaaWW9
import Derived.Test.YtpdicijoohahaaaWW3
import Derived.Test.YtpdicijoohahaaaWW4
import Derived.Test.YtpdicijoohahaaaWW7
import Derived.Lib.SmallJoins
import Derived.BigQuiet
import Derived.Deep.QuietTactic
namespace Go.Proofs.Ytpdicijoohahaaa
set_option linter.unusedVariables false
set_option linter.unusedSimpArgs false
open Go.RowKit

theorem wide_bit (m k : Nat) (hm : m < 65536) : bits BinOp.and IntKind.i64 ((m : Int) / 2 ^ k) 1 = ((m / 2 ^ k % 2 : Nat) : Int) := by
  have h0 : m / 2 ^ k ≤ m := Nat.div_le_self _ _
  have := i64_and_nat (m / 2 ^ k) 1 (by omega) (by omega)
  rw [nat_mask1] at this
  rw [show ((m : Int) / 2 ^ k) = ((m / 2 ^ k : Nat) : Int) by simp, show (1 : Int) = ((1 : Nat) : Int) by rfl, this]
/-- What reading a set answers, the reader being in block b. -/
def L7UPost (s : ByteArray) (at0 b : Nat) (T : TypeId) (w : World) (e : Ending) (w' : World) : Prop :=
  ((∃ (u : List Nat) (q : Nat), getU s at0 = some (u, q) ∧ e = .returned (.string (strOf u)) ∧ Has w' b T #[.string s, .int .i64 (q : Int)]) ∨
   (getU s at0 = none ∧ e = .returned (.string ⟨#[]⟩))) ∧ Only b w w'
end Go.Proofs.Ytpdicijoohahaaa
namespace Go.Proofs.Ytpdicijoohahaaa
set_option linter.unusedVariables false
set_option linter.unusedSimpArgs false
open Go.RowKit

/-- What a reader of chapter 7 answers, G being what stands there. -/
def GG7 (s : ByteArray) (G : Option (List Nat × Nat)) (w : World) (e : Ending) (w' : World) : Prop :=
  ((∃ (u : List Nat) (q : Nat), G = some (u, q) ∧ e = .returned (.tuple #[.string (strOf u), .agg #[.string s, .int .i64 (q : Int)], .bool true])) ∨
   (G = none ∧ e = .returned (.tuple #[.string ⟨#[]⟩, .agg #[.string ⟨#[]⟩, .int .i64 0], .bool false]))) ∧ Below w.heap.size w w'
theorem str_nonempty {s : ByteArray} (h : 0 < s.size) : s.toList.isEmpty = false := by
  rw [Bool.eq_false_iff]
  intro e
  rw [List.isEmpty_iff, ByteArray.toList_eq] at e
  have h2 : s.data.toList.length = s.size := by simp
  rw [e] at h2
  simp at h2
  omega
theorem str_pos {D : List Nat} (h : D ≠ []) : 0 < (strOf D).size := by rw [strOf_size]; exact List.length_pos_iff.2 h
end Go.Proofs.Ytpdicijoohahaaa
namespace Go.Proofs.Ytpdicijoohahaaa
set_option linter.unusedVariables false
set_option linter.unusedSimpArgs false
open Go.RowKit

/-- Can S be told by an order O? -/
def rkOk (S O : List Nat) : Bool := decide (S.length ≤ 600 ∧ ordOk O = true ∧ ∀ b ∈ S, b ∈ O)
theorem rkOk_iff (S O : List Nat) : rkOk S O = true ↔ S.length ≤ 600 ∧ ordOk O = true ∧ ∀ b ∈ S, b ∈ O := by simp [rkOk]
def rkTo (S O : List Nat) (k : Nat) : List Int := (S.take k).map fun b => (O.idxOf b : Int)
/-- The ranks of S in O; nothing where they can't be told. -/
def rkL (S O : List Nat) : List Int := if rkOk S O = true then rkTo S O S.length else []
theorem rkTo_len (S O : List Nat) (k : Nat) (h : k ≤ S.length) : (rkTo S O k).length = k := by simp [rkTo]; omega
theorem rkTo_succ (S O : List Nat) (k : Nat) (h : k < S.length) : rkTo S O (k + 1) = rkTo S O k ++ [(O.idxOf (S.getD k 0) : Int)] := by
  unfold rkTo
  rw [List.take_succ_eq_append_getElem h, List.map_append]
  simp [List.getD_eq_getElem?_getD, h]
theorem intsV_snoc7 (D : List Int) (x : Int) : intsV (D ++ [x]) = intsV D ++ [.int .i64 x] := by simp [intsV]
theorem ret_pair {v : Value} {a b : Bool} (h : a = b) : Ending.returned (.tuple #[v, .bool a]) = .returned (.tuple #[v, .bool b]) := by rw [h]
theorem bool_false {b : Bool} (h : ¬ b = true) : b = false := by simpa using h
/-- Are these ranks in an order O? -/
def frOk (z : List Int) (O : List Nat) : Bool := decide (z.length ≤ 600 ∧ ordOk O = true ∧ ∀ x ∈ z, 0 ≤ x ∧ x < (O.length : Int))
theorem frOk_iff (z : List Int) (O : List Nat) : frOk z O = true ↔ z.length ≤ 600 ∧ ordOk O = true ∧ ∀ x ∈ z, 0 ≤ x ∧ x < (O.length : Int) := by simp [frOk]
def frTo (z : List Int) (O : List Nat) (k : Nat) : List Nat := (z.take k).map fun x => O.getD x.toNat 0
/-- The bytes of ranks; none where they are no ranks. -/
def frL (z : List Int) (O : List Nat) : List Nat := if frOk z O = true then frTo z O z.length else []
theorem frTo_len (z : List Int) (O : List Nat) (k : Nat) (h : k ≤ z.length) : (frTo z O k).length = k := by simp [frTo]; omega
theorem frTo_succ (z : List Int) (O : List Nat) (k : Nat) (h : k < z.length) : frTo z O (k + 1) = frTo z O k ++ [O.getD (z.getD k 0).toNat 0] := by
  unfold frTo
  rw [List.take_succ_eq_append_getElem h, List.map_append]
  simp [List.getD_eq_getElem?_getD, h]
theorem strOf_nil : strOf [] = ⟨#[]⟩ := rfl
end Go.Proofs.Ytpdicijoohahaaa
namespace Go.Proofs.Ytpdicijoohahaaa
set_option linter.unusedVariables false
set_option linter.unusedSimpArgs false
open Go.RowKit

set_option maxHeartbeats 1000000 in
set_option maxRecDepth 100000 in
theorem specRanksOk_any (a : Option Addr) (cap B : Nat) (z : List Int) (n : Int) (w : World) (hz : Ints w B a z) (hl : z.length ≤ 1048576) (n1 : -9223372036854775808 ≤ n) (n2 : n ≤ 9223372036854775807) :
    Calls Try.prog 29 #[.slice a z.length cap, .int .i64 n] w fun e w' => e = .returned (.bool (rOk z n)) ∧ w = w' := by
  have HIT := hidden (rOk_iff z n)
  obtain ⟨m, hm⟩ : ∃ m, z.length = m := ⟨_, rfl⟩
  have HN := hidden hm
  have HZ := hidden hz
  rw [hm] at hl ⊢
  clear hm hz
  by_cases h1 : n < 1
  · have HF : Hid (rOk z n = false) := hidden (bool_false (fun h => by have := HIT.out.1 h; omega))
    go_enter Try.func29, Try.ntmps29
    go_wp2
    go_ret
    exact ⟨ret_bool HF.out.symm, rfl⟩
  · by_cases h2 : (256 : Int) < n
    · have HF : Hid (rOk z n = false) := hidden (bool_false (fun h => by have := HIT.out.1 h; omega))
      go_enter Try.func29, Try.ntmps29
      go_wp2
      go_ret
      exact ⟨ret_bool HF.out.symm, rfl⟩
    · by_cases h3 : (600 : Int) < m
      · have HF : Hid (rOk z n = false) := hidden (bool_false (fun h => by have := (HIT.out.1 h).2.2.1; rw [HN.out] at this; omega))
        go_enter Try.func29, Try.ntmps29
        go_wp2
        go_ret
        exact ⟨ret_bool HF.out.symm, rfl⟩
      · go_enter Try.func29, Try.ntmps29
        go_wp2
        go_loopw [5] (fun sk wr => ∃ k : Nat, k ≤ m ∧ sk = .int .i64 k ∧ Hid (∀ j, j < k → 0 ≤ z.getD j 0 ∧ z.getD j 0 < n) ∧ w = wr) (fun sk _ => m - (intOf sk).toNat)
        case atStart => exact ⟨0, by omega, rfl, hidden (fun j hj => by omega), by first | trivial | rfl⟩
        case round =>
          obtain ⟨k, hk, rfl, HA, rfl⟩ := hrel
          by_cases hlt : k < m
          · obtain ⟨b, off, rfl, hb, hc⟩ := HZ.out.2.2 (by rw [HN.out]; omega)
            have ck := hc k (by rw [HN.out]; exact hlt)
            have HMK : Hid (z.getD k 0 ∈ z) := hidden (getD_mem (by rw [HN.out]; exact hlt))
            obtain ⟨x, hx⟩ : ∃ x, z.getD k 0 = x := ⟨_, rfl⟩
            rw [hx] at ck HMK
            have HX := hidden hx
            clear hx hc
            by_cases hx0 : x < 0
            · have HF : Hid (rOk z n = false) := hidden (bool_false (fun h => by have := (HIT.out.1 h).2.2.2 x HMK.out; omega))
              go_wp2
              go_ret
              exact ⟨ret_bool HF.out.symm, rfl⟩
            · by_cases hxn : n ≤ x
              · have HF : Hid (rOk z n = false) := hidden (bool_false (fun h => by have := (HIT.out.1 h).2.2.2 x HMK.out; omega))
                go_wp2
                go_ret
                exact ⟨ret_bool HF.out.symm, rfl⟩
              · have HA2 : Hid (∀ j, j < k + 1 → 0 ≤ z.getD j 0 ∧ z.getD j 0 < n) := hidden (fun j hj => by
                  rcases Nat.lt_or_ge j k with h | h
                  · exact HA.out j h
                  · rw [show j = k by omega, HX.out]; omega)
                go_wp2
                go_roundw
                case rel => exact ⟨k + 1, by omega, by go_num, HA2, by first | trivial | rfl⟩
                case measure => simp [intOf]; omega
          · have hkm : k = m := by omega
            subst hkm
            have HT : Hid (rOk z n = true) := hidden (HIT.out.2 ⟨by omega, by omega, by rw [HN.out]; omega, fun x hx => by
              obtain ⟨j, hj, rfl⟩ := mem_getD hx
              exact HA.out j (by rw [← HN.out]; exact hj)⟩)
            go_wp2
            go_ret
            exact ⟨ret_bool HT.out.symm, rfl⟩
theorem ret_i8 {a b : Int} (h : a = b) : Ending.returned (.int .i64 a) = .returned (.int .i64 b) := by rw [h]
theorem own_cap7 {w : World} {base g n c S : Nat} {e : TypeId} {xs : List Value} (h : w.ownsRow base e S (.slice (some ⟨g, 0, none⟩) n c) n xs) : n ≤ c := by
  rcases h.2 with ⟨h', _⟩ | ⟨g', cap', cur, h', _, _, hnc, _⟩
  · simp at h'
  · simp only [Value.slice.injEq] at h'
    omega
theorem add_at7 (g i j : Nat) : (⟨g, i, none⟩ : Addr).add j = ⟨g, i + j, none⟩ := by unfold Addr.add; split <;> simp_all
theorem own_bel7 {w w' : World} {base n S B : Nat} {e : TypeId} {v : Value} {xs : List Value} (h : w.ownsRow base e S v n xs) (hB : base ≤ B) (hb : Below w.heap.size w w') : w'.ownsRow base e S v n xs := own_bel h hb
theorem bel_made {w w1 : World} (hg : w.grownBy w1 none) : Below w.heap.size w w1 := ⟨hg.os, hg.tape, hg.output, hg.size, fun i hi => hg.block i hi (by simp)⟩
set_option maxHeartbeats 1000000 in
set_option maxRecDepth 100000 in
theorem l8row_any (n : Nat) (w : World) (hn : n ≤ 256) :
    Calls Try.prog 61 #[.int .i64 n] w fun e w' => ∃ g, e = .returned (.slice (some ⟨g, 0, none⟩) n n) ∧ w'.ownsRow w.heap.size 3 1 (.slice (some ⟨g, 0, none⟩) n n) n (natsL (List.range n)) ∧ Below w.heap.size w w' := by
  obtain ⟨i0, hi, hz0, hz1, hz2⟩ := info_parts Try.infoInt
  go_enter Try.func61, Try.ntmps61
  go_wp2_with (at_make; refine wpList_make_full _ rfl _ _ 22 rfl w.heap.size 3 i0 (.int .i64 0) 1 Try.underlying22 hi hz0 hz1 .i64 .i64 _ _ n rfl rfl rfl rfl ?cb1 ?cb2 ?cb3 ?_)
  case cb1 => rw [hz2]; omega
  case cb2 => unfold maxLen; omega
  case cb3 => exact Nat.le_refl _
  intro w2 hown hgrow
  have hbl := bel_made hgrow
  rw [made_nats] at hown
  clear hgrow
  go_wp2
  go_loopw [4] (fun sk wr => ∃ (k : Nat) (f : Nat → Nat), k ≤ n ∧ sk = .int .i64 k ∧ Hid (∀ j, j < k → f j = j) ∧ wr.ownsRow w.heap.size 3 1 (.slice (some ⟨w.heap.size, 0, none⟩) n n) n (nats n f) ∧ Below w.heap.size w wr) (fun sk _ => n - (intOf sk).toNat)
  case atStart => exact ⟨0, fun _ => 0, by omega, rfl, hidden (fun j hj => by omega), hown, hbl⟩
  case round =>
    obtain ⟨k, f, hk, rfl, HF, hownF, hblF⟩ := hrel
    clear hown hbl
    by_cases hlt : k < n
    · have d0 := hownF.cellAt k (by omega)
      rw [nats_get _ _ _ hlt] at d0
      have f0 := hownF.frozenAt k
      have HF2 : Hid (∀ j, j < k + 1 → (if j = k then k else f j) = j) := hidden (fun j hj => by
        split
        · omega
        · exact HF.out j (by omega))
      go_wp2
      go_roundw
      case rel => exact ⟨k + 1, fun t => if t = k then k else f t, by omega, by go_num, HF2, by rw [← nats_set]; exact (hownF.stored k _).1, hblF.setCell (by simp) _⟩
      case measure => simp [intOf]; omega
    · have hkn : k = n := by omega
      subst hkn
      have HE : Hid (nats k f = natsL (List.range k)) := hidden (by
        rw [natsL_nats, List.length_range]
        exact nats_congr fun s hs => by rw [HF.out s hs]; simp [List.getD_eq_getElem?_getD, hs])
      rw [HE.out] at hownF
      go_wp2
      go_ret
      exact ⟨_, rfl, hownF, hblF⟩
set_option maxHeartbeats 1000000 in
set_option maxRecDepth 100000 in
theorem l8place_any (base g c x n : Nat) (r : List Nat) (w : World) (hown : w.ownsRow base 3 1 (.slice (some ⟨g, 0, none⟩) n c) n (natsL r)) (hr : r.length = n) (hn : n ≤ 256) (hx : x < 256) :
    Calls Try.prog 62 #[.slice (some ⟨g, 0, none⟩) n c, .int .i64 x] w fun e w' => e = .returned (.int .i64 (placeI r x)) ∧ w = w' := by
  have HR := hidden hr
  have HOW := hidden hown
  clear hr hown
  go_enter Try.func62, Try.ntmps62
  go_wp2
  go_loopw [5] (fun sk wr => ∃ k : Nat, k ≤ n ∧ sk = .int .i64 k ∧ Hid (∀ j, j < k → r.getD j 0 ≠ x) ∧ Hid (w = wr)) (fun sk _ => n - (intOf sk).toNat)
  case atStart => exact ⟨0, by omega, rfl, hidden (fun j hj => by omega), hidden rfl⟩
  case round =>
    obtain ⟨k, hk, rfl, HA, HW⟩ := hrel
    have hownR : wr.ownsRow base 3 1 (.slice (some ⟨g, 0, none⟩) n c) n (natsL r) := by rw [← HW.out]; exact HOW.out
    by_cases hlt : k < n
    · have d0 := hownR.cellAt k (by omega)
      rw [natsL_nats, HR.out, nats_get _ _ _ hlt] at d0
      obtain ⟨y, hy⟩ : ∃ y, r.getD k 0 = y := ⟨_, rfl⟩
      rw [hy] at d0
      have HY := hidden hy
      clear hy
      by_cases he : y = x
      · subst he
        have HP : Hid (placeI r y = k) := hidden (place_at (by rw [HR.out]; exact hlt) HY.out HA.out)
        go_wp2
        go_ret
        exact ⟨ret_i8 HP.out.symm, HW.out⟩
      · have hne : ¬ (y : Int) = x := by omega
        have hbe : ((y : Int) == (x : Int)) = false := by rw [beq_eq_false_iff_ne]; exact hne
        have HA2 : Hid (∀ j, j < k + 1 → r.getD j 0 ≠ x) := hidden (fun j hj => by
          rcases Nat.lt_or_ge j k with h | h
          · exact HA.out j h
          · rw [show j = k by omega, HY.out]; exact he)
        go_wp2
        go_roundw
        case rel => exact ⟨k + 1, by omega, by go_num, HA2, HW⟩
        case measure => simp [intOf]; omega
    · have hkn : k = n := by omega
      subst hkn
      have HP : Hid (placeI r x = -1) := hidden (place_no (fun j hj => HA.out j (by rw [← HR.out]; exact hj)))
      go_wp2
      go_ret
      exact ⟨ret_i8 HP.out.symm, HW.out⟩
set_option maxHeartbeats 1000000 in
set_option maxRecDepth 100000 in
theorem l8front_any (base g c k n : Nat) (r : List Nat) (w : World) (hown : w.ownsRow base 3 1 (.slice (some ⟨g, 0, none⟩) n c) n (natsL r)) (hb : base ≤ w.heap.size) (hr : r.length = n) (hk : k < n) (hn : n ≤ 256) :
    Calls Try.prog 63 #[.slice (some ⟨g, 0, none⟩) n c, .int .i64 k] w fun e w' => ∃ g2 c2, e = .returned (.slice (some ⟨g2, 0, none⟩) n c2) ∧ w'.ownsRow w.heap.size 3 1 (.slice (some ⟨g2, 0, none⟩) n c2) n (natsL (frontL r k)) ∧ Below w.heap.size w w' := by
  obtain ⟨i0, hi, hz0, hz1, hz2⟩ := info_parts Try.infoInt
  have HR := hidden hr
  have HOW := hidden hown
  have hgw := (hown.lt g rfl).2
  have hcap : n ≤ c := own_cap7 hown
  have d0 := hown.cellAt k (by omega)
  rw [natsL_nats, hr, nats_get _ _ _ hk] at d0
  obtain ⟨y, hy⟩ : ∃ y, r.getD k 0 = y := ⟨_, rfl⟩
  rw [hy] at d0
  have HFL : Hid (frontL r k = [y] ++ r.take k ++ r.drop (k + 1)) := hidden (by unfold frontL; rw [eraseIdx_td, hy]; rfl)
  have HTL : Hid ((r.take k).length = k) := hidden (by rw [List.length_take]; omega)
  have HDL : Hid ((r.drop (k + 1)).length = n - (k + 1)) := hidden (by rw [List.length_drop, hr])
  clear hr hown hy
  go_enter Try.func63, Try.ntmps63
  have hlit := World.ownsRow_lit (base := w.heap.size) (e := 3) (size := 1) w #[.int .i64 (y : Int)] 1 (Nat.le_refl _) (by unfold maxLen; omega) (by simp)
  have hb0 : Below w.heap.size w (w.alloc (.cells #[.int .i64 (y : Int)] 3)) := (Below.refl _ _).alloc (Nat.le_refl _) _
  have hb0s : w.heap.size < (w.alloc (.cells #[.int .i64 (y : Int)] 3)).heap.size := by simp
  go_wp2_with (at_builtin; refine wpList_append_own_at _ rfl _ _ 22 rfl w.heap.size 3 i0 (.int .i64 0) 1 8 Try.underlying22 hi hz0 hz1 hz2 rfl (by decide) _ _ _ rfl hlit ⟨g, 0, none⟩ k c (natsL (r.take k)) rfl ?d0 ?d1 ?d2 ?d3 ?d4 ?d5 ?_)
  case d0 => rw [natsL_len, HTL.out]
  case d1 => exact fun j u hu => by have := natsL_take HOW.out k j u hu; rwa [add_at7, Nat.zero_add] at this
  case d2 => exact natsL_one _
  case d3 => unfold maxLen; omega
  case d4 => omega
  intro v3 w3 hown3 hgrow _ _
  have hb3 : Below w.heap.size w w3 := hb0.grown hgrow (by simp) (fun q hq => by simp [Value.ownBlock] at hq; omega)
  have hs3 := hb3.size
  have HO3 := hidden (own_bel7 HOW.out hb hb3)
  have HE : Hid (natsL (frontL r k) = (.int .i64 (y : Int) :: natsL (r.take k)) ++ natsL (r.drop (k + 1))) := hidden (by rw [HFL.out]; simp [natsL])
  obtain ⟨X, hX⟩ : ∃ X, (.int .i64 (y : Int) :: natsL (r.take k)) = X := ⟨_, rfl⟩
  rw [hX] at hown3 HE
  have hk1 : (k : Int) + 1 ≤ (c : Int) := by omega
  have hk2 : (0 : Int) ≤ (k : Int) + 1 := by omega
  have hnc : (n : Int) ≤ (c : Int) := by omega
  have hk3 : (k : Int) + 1 ≤ (n : Int) := by omega
  clear hgrow hlit hb0 hb0s hX d0
  by_cases hcap : c = k + 1
  · have hnk : n = k + 1 := by omega
    subst hcap
    have HN0 : Hid (r.drop (k + 1) = []) := hidden (List.drop_eq_nil_of_le (by rw [HR.out]; omega))
    go_wp2_with (at_builtin; refine wpList_append_own_at _ rfl _ _ 22 rfl w.heap.size 3 i0 (.int .i64 0) 1 8 Try.underlying22 hi hz0 hz1 hz2 rfl (by decide) _ _ _ rfl hown3 ⟨g, 0, none⟩ 0 _ ([] : List Value) rfl ?e0 ?e1 ?e2 ?e3 ?e4 ?e5 ?_)
    case e0 => first | rfl | simp
    case e1 => intro j u hu; simp at hu
    case e2 => intro u hu; simp at hu
    case e3 => unfold maxLen; omega
    case e4 => omega
    case e5 => first | exact hs3 | omega
    intro v4 w4 hown4 hgrow4 _ _
    have hb4 : Below w.heap.size w w4 := hb3.grown hgrow4 hs3 (fun q hq => (hown3.lt q hq).1)
    have HF : Hid (w4.ownsRow w.heap.size 3 1 v4 n (natsL (frontL r k))) := hidden (by
      rw [HE.out, HN0.out, hnk]
      simpa [natsL, Nat.add_comm] using hown4)
    clear hown4 hgrow4 hown3
    obtain ⟨g4, c4, rfl⟩ := Joins.ownsRow_form HF.out (by omega)
    go_wp2
    go_ret
    exact ⟨g4, c4, rfl, HF.out, hb4⟩
  · have hlt : k + 1 < c := by omega
    go_wp2_with (at_builtin; refine wpList_append_own_at _ rfl _ _ 22 rfl w.heap.size 3 i0 (.int .i64 0) 1 8 Try.underlying22 hi hz0 hz1 hz2 rfl (by decide) _ _ _ rfl hown3 ⟨g, k + 1, none⟩ (n - (k + 1)) _ (natsL (r.drop (k + 1))) rfl ?f0 ?f1 ?f2 ?f3 ?f4 ?f5 ?_)
    case f0 => first | (rw [natsL_len, HDL.out, Nat.mul_one]) | (rw [natsL_len, HDL.out])
    case f1 => first | exact natsL_drop HO3.out (k + 1) | exact fun j u hu => by have := natsL_drop HO3.out (k + 1) j u hu; rwa [add_at7] at this
    case f2 => exact natsL_one _
    case f3 => unfold maxLen; omega
    case f4 => omega
    case f5 => first | exact hs3 | omega
    intro v4 w4 hown4 hgrow4 _ _
    have hb4 : Below w.heap.size w w4 := hb3.grown hgrow4 hs3 (fun q hq => (hown3.lt q hq).1)
    have HF : Hid (w4.ownsRow w.heap.size 3 1 v4 n (natsL (frontL r k))) := hidden (by
      rw [HE.out]
      have := hown4
      rwa [show 1 + k + (n - (k + 1)) = n by omega] at this)
    clear hown4 hgrow4 hown3
    obtain ⟨g4, c4, rfl⟩ := Joins.ownsRow_form HF.out (by omega)
    go_wp2
    go_ret
    exact ⟨g4, c4, rfl, HF.out, hb4⟩
end Go.Proofs.Ytpdicijoohahaaa
namespace Go.Proofs.Ytpdicijoohahaaa
set_option linter.unusedVariables false
set_option linter.unusedSimpArgs false
open Go.RowKit

theorem intsV_ints (L : List Nat) : intsV (ints L) = natsL L := by simp [intsV, ints, natsL]
theorem natsL_snoc8 (D : List Nat) (x : Nat) : natsL (D ++ [x]) = natsL D ++ [.int .i64 (x : Int)] := by simp [natsL]
theorem ints_cell {w : World} {B b off : Nat} {L : List Nat} (hc : ∀ i, i < (ints L).length → w.cell? ⟨b, off + i, none⟩ = some (.int .i64 ((ints L).getD i 0))) (k : Nat) (hk : k < L.length) : w.cell? ⟨b, off + k, none⟩ = some (.int .i64 ((L.getD k 0 : Nat) : Int)) := by
  have := hc k (by rw [ints_len]; exact hk)
  rwa [ints_get] at this
set_option maxHeartbeats 1000000 in
set_option maxRecDepth 100000 in
theorem specMtf_yes (a : Option Addr) (cap B m : Nat) (L : List Nat) (w : World) (hz : Ints w B a (ints L)) (hB : B ≤ w.heap.size) (hok : rOk (ints L) m = true) (hm1 : 1 ≤ m) (hm2 : m ≤ 256) (hL6 : L.length ≤ 600) (hLm : ∀ x ∈ L, x < m) :
    Calls Try.prog 57 #[.slice a L.length cap, .int .i64 m] w fun e w' => ∃ v, e = .returned v ∧ w'.ownsRow w.heap.size 3 1 v L.length (natsL (runF mtfF (List.range m) L)) ∧ Below w.heap.size w w' := by
  obtain ⟨i0, hi, hz0, hz1, hz2⟩ := info_parts Try.infoInt
  have KR := hidden (specRanksOk_any a cap B (ints L) m w hz (by rw [ints_len]; omega) (by omega) (by omega))
  rw [hok, ints_len] at KR
  have KW := hidden (fun W => l8row_any m W hm2)
  have HZ := hidden hz
  have HLM := hidden hLm
  obtain ⟨A, hA⟩ : ∃ A, runF mtfF (List.range m) L = A := ⟨_, rfl⟩
  have HA := hidden hA
  rw [hA]
  obtain ⟨n, hn⟩ : ∃ n, L.length = n := ⟨_, rfl⟩
  have HN := hidden hn
  rw [hn] at KR hL6 ⊢
  clear hz hA hn hok hLm
  go_enter Try.func57, Try.ntmps57
  go_wp2_with fail
  refine KR.out.mono ?_
  rintro e w0 ⟨rfl, rfl⟩
  go_wp2_with fail
  refine (KW.out _).mono ?_
  rintro e w1 ⟨g0, rfl, hrow0, b1⟩
  have hs1 := b1.size
  go_wp2
  go_loopw [5, 6, 7, 8] (fun vo vr si _ wr => ∃ (k g c : Nat) (r D : List Nat), k ≤ n ∧ si = .int .i64 k ∧ vr = .slice (some ⟨g, 0, none⟩) m c ∧ Hid (A = D ++ runF mtfF r (L.drop k)) ∧ Hid (D.length = k) ∧ Hid (PermN m r) ∧ wr.ownsRow w.heap.size 3 1 (.slice (some ⟨g, 0, none⟩) m c) m (natsL r) ∧ wr.ownsRow w.heap.size 3 1 vo k (natsL D) ∧ Hid (vo.ownBlock ≠ some g) ∧ Below w.heap.size w wr) (fun _ _ si _ _ => n - (intOf si).toNat)
  case atStart => exact ⟨0, g0, m, List.range m, [], by omega, rfl, rfl, hidden (by rw [← HA.out]; rfl), hidden rfl, hidden (PermN.start m), hrow0, World.ownsRow_nil _ _ _ _, hidden (by simp [Value.ownBlock]), b1⟩
  case round =>
    obtain ⟨k, g, c, r, D, hk, rfl, rfl, HD, HDl, HP, hrow, hout, HNE, hbl⟩ := hrel
    clear hrow0 b1
    have hsz := hbl.size
    by_cases hlt : k < n
    · obtain ⟨b, off, rfl, hb, hc⟩ := (HZ.out.below (hbl.mono hB)).2.2 (by rw [ints_len, HN.out]; omega)
      have ck := ints_cell (B := B) hc k (by rw [HN.out]; exact hlt)
      have hxm := HLM.out _ (getD_mem7 L k (by rw [HN.out]; exact hlt))
      have HDR := hidden (drop_cons L k (by rw [HN.out]; exact hlt))
      obtain ⟨x, hx⟩ : ∃ x, L.getD k 0 = x := ⟨_, rfl⟩
      rw [hx] at ck hxm HDR
      have hgw := (hrow.lt g rfl).2
      have KP := hidden (l8place_any w.heap.size g c x m r wr hrow HP.out.len hm2 (by omega))
      have hkm := HP.out.idx hxm
      rw [placeI, if_pos ((HP.out.mem x).2 hxm)] at KP
      have HP2 := hidden (HP.out.front hkm)
      obtain ⟨y, hy⟩ : ∃ y, r.idxOf x = y := ⟨_, rfl⟩
      have HSt : Hid (A = (D ++ [y]) ++ runF mtfF (frontL r y) (L.drop (k + 1))) := hidden (by
        rw [HD.out, HDR.out, runF, List.append_assoc]
        simp only [mtfF, hy]
        rfl)
      rw [hy] at KP hkm HP2
      have HR := hidden hrow
      have HRL := hidden HP.out.len
      clear hx hc hy hrow
      go_wp2_with fail
      refine KP.out.mono ?_
      rintro e w3 ⟨rfl, rfl⟩
      go_wp2_with (at_builtin; refine wpList_append_own_at _ rfl _ _ 22 rfl w.heap.size 3 i0 (.int .i64 0) 1 8 Try.underlying22 hi hz0 hz1 hz2 rfl (by decide) _ _ _ rfl (hout.alloc _) ⟨wr.heap.size, 0, none⟩ 1 1 [.int .i64 (y : Int)] rfl rfl ?c1 ?c2 ?c3 ?c4 ?c5 ?_)
      case c1 => exact cell_one_new _ _ _
      case c2 => exact fun u hu => by simp at hu; subst hu; rfl
      case c3 => unfold maxLen; omega
      case c4 => omega
      case c5 => first | omega | (simp; omega)
      intro v5 w5 hown5 hgrow _ hloc
      have hb5 := bel_app hbl hsz hout hgrow
      have hs5 := hb5.size
      have HNE5 : Hid (v5.ownBlock ≠ some g) := hidden (by
        intro e
        rcases hloc with h | h
        · exact HNE.out (by rw [← h]; exact e)
        · rw [e] at h; simp at h; omega)
      have hR5 := (HR.out.alloc (.cells #[.int .i64 (y : Int)] 3)).kept hgrow (.inr (fun e => HNE.out e.symm))
      have HD5 : Hid ((D ++ [y]).length = k + 1) := hidden (by simp [HDl.out])
      rw [← natsL_snoc8] at hown5
      have KF := hidden (l8front_any w.heap.size g c y m r w5 hR5 hs5 HRL.out hkm hm2)
      have HO5 := hidden hown5
      clear hout hgrow hbl hloc hown5 hR5
      go_wp2_with fail
      refine KF.out.mono ?_
      rintro e w6 ⟨g2, c2, rfl, hrow6, b6⟩
      have hb6 := bel_then b6 hs5 hb5
      have hO6 := own_bel HO5.out b6
      have HNE6 : Hid (v5.ownBlock ≠ some g2) := hidden (by
        intro e
        have h1 := (hrow6.lt g2 rfl).1
        have h2 := (HO5.out.lt g2 e).2
        omega)
      have hR6 := Joins.ownsRow_le hrow6 hs5
      clear hrow6 b6 hb5
      go_wp2
      go_roundw
      case rel => exact ⟨k + 1, g2, c2, frontL r y, D ++ [y], by omega, by go_num, rfl, HSt, HD5, HP2, hR6, hO6, HNE6, hb6⟩
      case measure => simp [intOf]; omega
    · have hkn : k = n := by omega
      subst hkn
      have HE : Hid (A = D) := hidden (by rw [HD.out, ← HN.out, List.drop_length, runF, List.append_nil])
      go_wp2
      go_ret
      exact ⟨_, rfl, by rw [HE.out]; exact hout, hbl⟩
set_option maxHeartbeats 1000000 in
set_option maxRecDepth 100000 in
theorem specMtf_any (a : Option Addr) (cap B : Nat) (z : List Int) (n : Int) (w : World) (hz : Ints w B a z) (hB : B ≤ w.heap.size) (hl : z.length ≤ 1048576) (n1 : -9223372036854775808 ≤ n) (n2 : n ≤ 9223372036854775807) :
    Calls Try.prog 57 #[.slice a z.length cap, .int .i64 n] w fun e w' => ∃ v, e = .returned v ∧ w'.ownsRow w.heap.size 3 1 v (mtfZ z n).length (intsV (mtfZ z n)) ∧ Below w.heap.size w w' := by
  by_cases hok : rOk z n = true
  · obtain ⟨L, m, rfl, rfl, hm1, hm2, hL6, hLm⟩ := rOk_nats hok
    rw [mtfZ_yes hok, intsV_ints, ints_len, ints_len, runF_len]
    exact specMtf_yes a cap B m L w hz hB hok hm1 hm2 hL6 hLm
  · have hno := bool_false hok
    have KR := hidden (specRanksOk_any a cap B z n w hz hl n1 n2)
    rw [hno] at KR
    rw [mtfZ_no hno]
    clear hno hok
    go_enter Try.func57, Try.ntmps57
    go_wp2_with fail
    refine KR.out.mono ?_
    rintro e w0 ⟨rfl, rfl⟩
    go_wp2
    go_ret
    exact ⟨_, rfl, World.ownsRow_nil _ _ _ _, Below.refl _ _⟩
end Go.Proofs.Ytpdicijoohahaaa
namespace Go.Proofs.Ytpdicijoohahaaa
set_option linter.unusedVariables false
set_option linter.unusedSimpArgs false
open Go.RowKit

theorem rsF_odd {k : Nat} (h : k % 2 = 1) : rsF k = 0 :: rsF ((k - 1) / 2) := by
  rw [rsF_pos (by omega)]
  congr 1
  omega
theorem rsF_even {k : Nat} (h : k % 2 = 0) (h0 : 0 < k) : rsF k = 1 :: rsF ((k - 2) / 2) := by
  rw [rsF_pos h0]
  congr 1
  · omega
  · congr 1; omega
theorem rsZ_len (k : Int) : (rsZ k).length ≤ 600 := by
  by_cases h : 1 ≤ k ∧ k ≤ 600
  · unfold rsZ
    rw [if_pos h, ints_len]
    have := rsF_len k.toNat
    omega
  · rw [rsZ_no h]; simp
set_option maxHeartbeats 1000000 in
set_option maxRecDepth 100000 in
theorem specRunSyms_yes (k : Nat) (w : World) (h1 : 1 ≤ k) (h2 : k ≤ 600) :
    Calls Try.prog 19 #[.int .i64 k] w fun e w' => ∃ v, e = .returned v ∧ w'.ownsRow w.heap.size 3 1 v (rsF k).length (natsL (rsF k)) ∧ Below w.heap.size w w' := by
  obtain ⟨i0, hi, hz0, hz1, hz2⟩ := info_parts Try.infoInt
  obtain ⟨A, hA⟩ : ∃ A, rsF k = A := ⟨_, rfl⟩
  have HA := hidden hA
  have HLe : Hid (A.length ≤ 600) := hidden (by rw [← hA]; have := rsF_len k; omega)
  rw [hA]
  clear hA
  go_enter Try.func19, Try.ntmps19
  go_wp2
  go_loopw [0, 3] (fun sk vo wr => ∃ (q : Nat) (D : List Nat), q ≤ 600 ∧ sk = .int .i64 q ∧ Hid (A = D ++ rsF q) ∧ wr.ownsRow w.heap.size 3 1 vo D.length (natsL D) ∧ Below w.heap.size w wr) (fun sk _ _ => (intOf sk).toNat)
  case atStart => exact ⟨k, [], h2, rfl, hidden (by rw [← HA.out]; rfl), World.ownsRow_nil _ _ _ _, Below.refl _ _⟩
  case round =>
    obtain ⟨q, D, hq, rfl, HD, hown, hbl⟩ := hrel
    have hsz := hbl.size
    have HDl : Hid (D.length ≤ 600) := hidden (by have := HLe.out; rw [HD.out, List.length_append] at this; omega)
    by_cases h0 : 0 < q
    · obtain ⟨l, hl⟩ : ∃ l, D.length = l := ⟨_, rfl⟩
      have hDl := HDl.out
      rw [hl] at hown hDl
      by_cases ho : q % 2 = 1
      · have hoI : (q : Int) % 2 = 1 := by omega
        have hoB : (((q : Int) % 2) == (1 : Int)) = true := by simp [hoI]
        have HD2 : Hid (A = (D ++ [0]) ++ rsF ((q - 1) / 2)) := hidden (by rw [HD.out, rsF_odd ho]; simp)
        have HL2 : Hid ((D ++ [0]).length = l + 1) := hidden (by simp [hl])
        have hq2 : ((q : Int) - 1) / 2 = (((q - 1) / 2 : Nat) : Int) := by omega
        have hq3 : ((q : Int) - 1).tdiv 2 = (((q - 1) / 2 : Nat) : Int) := by rw [Int.tdiv_eq_ediv_of_nonneg (by omega)]; omega
        clear hl
        go_wp2_with (at_builtin; refine wpList_append_own _ rfl _ _ 22 rfl w.heap.size 3 i0 (.int .i64 0) 1 8 Try.underlying22 hi hz0 hz1 hz2 rfl (by decide) _ _ _ rfl (hown.alloc _) ⟨wr.heap.size, 0, none⟩ 1 1 [.int .i64 0] rfl rfl ?c1 ?c2 ?c3 ?c4 ?c5 ?_)
        case c1 => exact cell_one_new _ _ _
        case c2 => exact fun u hu => by simp at hu; subst hu; rfl
        case c3 => unfold maxLen; omega
        case c4 => omega
        case c5 => first | omega | (simp; omega)
        intro v5 w5 hown5 hgrow _
        have hb5 := bel_app hbl hsz hown hgrow
        have hown6 : w5.ownsRow w.heap.size 3 1 v5 (l + 1) (natsL (D ++ [0])) := by rw [natsL_snoc8]; exact hown5
        have HO5 : Hid (w5.ownsRow w.heap.size 3 1 v5 (D ++ [0]).length (natsL (D ++ [0]))) := hidden (by rw [HL2.out]; exact hown6)
        clear hown hown5 hown6 hgrow hbl
        go_wp2
        go_roundw
        case rel => exact ⟨(q - 1) / 2, D ++ [0], by omega, by go_num, HD2, HO5.out, hb5⟩
        case measure => simp [intOf]; omega
      · have he : q % 2 = 0 := by omega
        have hoI : (q : Int) % 2 = 0 := by omega
        have hoB : (((q : Int) % 2) == (1 : Int)) = false := by simp [hoI]
        have HD2 : Hid (A = (D ++ [1]) ++ rsF ((q - 2) / 2)) := hidden (by rw [HD.out, rsF_even he h0]; simp)
        have HL2 : Hid ((D ++ [1]).length = l + 1) := hidden (by simp [hl])
        have hq2 : ((q : Int) - 2) / 2 = (((q - 2) / 2 : Nat) : Int) := by omega
        have hq3 : ((q : Int) - 2).tdiv 2 = (((q - 2) / 2 : Nat) : Int) := by rw [Int.tdiv_eq_ediv_of_nonneg (by omega)]; omega
        clear hl
        go_wp2_with (at_builtin; refine wpList_append_own _ rfl _ _ 22 rfl w.heap.size 3 i0 (.int .i64 0) 1 8 Try.underlying22 hi hz0 hz1 hz2 rfl (by decide) _ _ _ rfl (hown.alloc _) ⟨wr.heap.size, 0, none⟩ 1 1 [.int .i64 1] rfl rfl ?c1 ?c2 ?c3 ?c4 ?c5 ?_)
        case c1 => exact cell_one_new _ _ _
        case c2 => exact fun u hu => by simp at hu; subst hu; rfl
        case c3 => unfold maxLen; omega
        case c4 => omega
        case c5 => first | omega | (simp; omega)
        intro v5 w5 hown5 hgrow _
        have hb5 := bel_app hbl hsz hown hgrow
        have hown6 : w5.ownsRow w.heap.size 3 1 v5 (l + 1) (natsL (D ++ [1])) := by rw [natsL_snoc8]; exact hown5
        have HO5 : Hid (w5.ownsRow w.heap.size 3 1 v5 (D ++ [1]).length (natsL (D ++ [1]))) := hidden (by rw [HL2.out]; exact hown6)
        clear hown hown5 hown6 hgrow hbl
        go_wp2
        go_roundw
        case rel => exact ⟨(q - 2) / 2, D ++ [1], by omega, by go_num, HD2, HO5.out, hb5⟩
        case measure => simp [intOf]; omega
    · have hq0 : q = 0 := by omega
      subst hq0
      have HE : Hid (A = D) := hidden (by rw [HD.out, rsF_zero, List.append_nil])
      go_wp2
      go_ret
      exact ⟨_, rfl, by rw [HE.out]; exact hown, hbl⟩
set_option maxHeartbeats 1000000 in
set_option maxRecDepth 100000 in
theorem specRunSyms_no (k : Int) (w : World) (h : ¬ (1 ≤ k ∧ k ≤ 600)) :
    Calls Try.prog 19 #[.int .i64 k] w fun e w' => e = .returned (.slice none 0 0) ∧ w = w' := by
  by_cases h1 : k < 1
  · go_enter Try.func19, Try.ntmps19
    go_wp2
    go_ret
    exact ⟨rfl, rfl⟩
  · have h2 : (600 : Int) < k := by omega
    go_enter Try.func19, Try.ntmps19
    go_wp2
    go_ret
    exact ⟨rfl, rfl⟩
theorem specRunSyms_any (k : Int) (w : World) :
    Calls Try.prog 19 #[.int .i64 k] w fun e w' => ∃ v, e = .returned v ∧ w'.ownsRow w.heap.size 3 1 v (rsZ k).length (intsV (rsZ k)) ∧ Below w.heap.size w w' := by
  by_cases h : 1 ≤ k ∧ k ≤ 600
  · obtain ⟨q, rfl⟩ : ∃ q : Nat, k = q := ⟨k.toNat, by omega⟩
    rw [rsZ_yes (by omega) (by omega), intsV_ints, ints_len]
    exact specRunSyms_yes q w (by omega) (by omega)
  · rw [rsZ_no h]
    refine (specRunSyms_no k w h).mono ?_
    rintro e w' ⟨rfl, rfl⟩
    exact ⟨_, rfl, World.ownsRow_nil _ _ _ _, Below.refl _ _⟩
end Go.Proofs.Ytpdicijoohahaaa
namespace Go.Proofs.Ytpdicijoohahaaa
set_option linter.unusedVariables false
set_option linter.unusedSimpArgs false
open Go.RowKit

set_option maxHeartbeats 2000000 in
set_option maxRecDepth 100000 in
theorem specInv_yes (a : Option Addr) (cap B m : Nat) (L : List Nat) (w : World) (hz : Ints w B a (ints L)) (hB : B ≤ w.heap.size) (hok : rOk (ints L) m = true) (hm1 : 1 ≤ m) (hm2 : m ≤ 256) (hL6 : L.length ≤ 600) (hLm : ∀ x ∈ L, x < m) :
    Calls Try.prog 51 #[.slice a L.length cap, .int .i64 m] w fun e w' => ∃ v1 v2, e = .returned (.tuple #[v1, v2]) ∧ w'.ownsRow w.heap.size 3 1 v1 m (natsL ((List.range m).map fun x => L.count x)) ∧ w'.ownsRow w.heap.size 3 1 v2 (gapsTo L (m - 1)).length (natsL (gapsTo L (m - 1))) ∧ Hid (∀ g, v1.ownBlock = some g → v2.ownBlock ≠ some g) ∧ Below w.heap.size w w' := by
  obtain ⟨i0, hi, hz0, hz1, hz2⟩ := info_parts Try.infoInt
  have KR := hidden (specRanksOk_any a cap B (ints L) m w hz (by rw [ints_len]; omega) (by omega) (by omega))
  rw [hok, ints_len] at KR
  have HZ := hidden hz
  have HLM := hidden hLm
  have HGL : Hid (∀ k, k ≤ m → (gapsTo L k).length ≤ 600) := hidden (fun k hk => Nat.le_trans (gapsTo_le hLm hk) hL6)
  obtain ⟨n, hn⟩ : ∃ n, L.length = n := ⟨_, rfl⟩
  have HN := hidden hn
  rw [hn] at KR hL6 ⊢
  have hmI : (m : Int) - 1 = ((m - 1 : Nat) : Int) := by omega
  have HMI := hidden hmI
  clear hz hn hok hLm hmI
  go_enter Try.func51, Try.ntmps51
  go_wp2_with fail
  refine KR.out.mono ?_
  rintro e w0 ⟨rfl, rfl⟩
  go_wp2_with (at_make; refine wpList_make_full _ rfl _ _ 22 rfl w.heap.size 3 i0 (.int .i64 0) 1 Try.underlying22 hi hz0 hz1 .i64 .i64 _ _ m rfl rfl rfl rfl ?cb1 ?cb2 ?cb3 ?_)
  case cb1 => rw [hz2]; omega
  case cb2 => unfold maxLen; omega
  case cb3 => exact Nat.le_refl _
  intro w1 hownC hgrow1
  have b1 := bel_made hgrow1
  have s1 := b1.size
  rw [made_nats] at hownC
  have hgc := (hownC.lt w.heap.size rfl).2
  obtain ⟨M, hM⟩ : ∃ M, w1.heap.size = M := ⟨_, rfl⟩
  have HM : Hid (w1.heap.size = M) := hidden hM
  have hs1M : M ≤ w1.heap.size := by omega
  rw [hM] at hgc
  have HC0 : Hid (nats m (fun _ => 0) = nats m (fun y => if y < 0 then L.count y else 0)) := hidden (nats_congr fun s _ => by rw [if_neg (by omega)])
  rw [HC0.out] at hownC
  have HG0 : Hid (gapsTo L (min 0 (m - 1)) = []) := hidden (by rw [Nat.zero_min]; rfl)
  have hownG : w1.ownsRow M 3 1 (.slice none 0 0) (gapsTo L (min 0 (m - 1))).length (natsL (gapsTo L (min 0 (m - 1)))) := by rw [HG0.out]; exact World.ownsRow_nil _ _ _ _
  clear hgrow1 hM HC0
  go_wp2
  go_loopw [7, 8, 9, 10] (fun vg sx _ _ wr => ∃ x : Nat, x ≤ m ∧ sx = .int .i64 x ∧ wr.ownsRow w.heap.size 3 1 (.slice (some ⟨w.heap.size, 0, none⟩) m m) m (nats m (fun y => if y < x then L.count y else 0)) ∧ wr.ownsRow M 3 1 vg (gapsTo L (min x (m - 1))).length (natsL (gapsTo L (min x (m - 1)))) ∧ Below w.heap.size w wr ∧ M ≤ wr.heap.size) (fun _ sx _ _ _ => m - (intOf sx).toNat)
  case atStart => exact ⟨0, by omega, rfl, hownC, hownG, b1, hs1M⟩
  case round =>
    obtain ⟨x, hx, rfl, hC, hG, hbl, hMr⟩ := hrel
    clear hownC hownG b1 hs1M
    by_cases hlt : x < m
    · have hxI : (x : Int) < m := by omega
      have HCx := hidden hC
      have HF0 : Hid (∀ y, (if y < x then L.count y else 0) = if y < x then L.count y else if y = x then (L.take 0).count x else 0) := hidden (fun y => by
        by_cases h1 : y < x
        · rw [if_pos h1, if_pos h1]
        · rw [if_neg h1, if_neg h1]; simp)
      have HGx : Hid ((x < m - 1 → gapsTo L (x + 1) = gapsTo L (min x (m - 1)) ++ gapsF x 0 (L.drop 0)) ∧ (¬ x < m - 1 → gapsTo L (min x (m - 1)) = gapsTo L (m - 1))) := hidden ⟨fun h => by
        rw [Nat.min_eq_left (by omega), gapsTo_succ]; rfl, fun h => by rw [Nat.min_eq_right (by omega)]⟩
      obtain ⟨G0, hG0⟩ : ∃ G0, gapsTo L (min x (m - 1)) = G0 := ⟨_, rfl⟩
      rw [hG0] at hG HGx
      clear hG0
      go_wp2
      go_loopw [7, 9, 10] (fun vg sg si wx => ∃ (i g : Nat) (G : List Nat) (f : Nat → Nat), i ≤ n ∧ si = .int .i64 i ∧ sg = .int .i64 g ∧ Hid (g ≤ i) ∧ Hid (∀ y, f y = if y < x then L.count y else if y = x then (L.take i).count x else 0) ∧ Hid ((x < m - 1 → gapsTo L (x + 1) = G ++ gapsF x g (L.drop i)) ∧ (¬ x < m - 1 → G = gapsTo L (m - 1))) ∧ wx.ownsRow w.heap.size 3 1 (.slice (some ⟨w.heap.size, 0, none⟩) m m) m (nats m f) ∧ wx.ownsRow M 3 1 vg G.length (natsL G) ∧ Below w.heap.size w wx ∧ M ≤ wx.heap.size) (fun _ _ si _ => n - (intOf si).toNat)
      case atStart => exact ⟨0, 0, G0, _, by omega, rfl, rfl, hidden (Nat.le_refl _), HF0, HGx, hC, hG, hbl, hMr⟩
      case round =>
        obtain ⟨i, g, G, f, hin, rfl, rfl, HGI, HF, HGG, hCi, hGi, hbi, hMi⟩ := hrel
        clear hC hG hbl hMr
        have hsz := hbi.size
        by_cases hlt2 : i < n
        · obtain ⟨b, off, rfl, hb, hc⟩ := (HZ.out.below (hbi.mono hB)).2.2 (by rw [ints_len, HN.out]; omega)
          have ck := ints_cell (B := B) hc i (by rw [HN.out]; exact hlt2)
          have HDR := hidden (drop_cons L i (by rw [HN.out]; exact hlt2))
          have HCT := hidden (count_take8 L i x (by rw [HN.out]; exact hlt2))
          obtain ⟨y, hy⟩ : ∃ y, L.getD i 0 = y := ⟨_, rfl⟩
          rw [hy] at ck HDR HCT
          have hgi := HGI.out
          have hi2I : (i : Int) < n := by omega
          clear hy hc
          by_cases hgt : x < y
          · have hgtI : (x : Int) < y := by omega
            have hneI : ¬ (y : Int) = x := by omega
            have hbe : ((y : Int) == (x : Int)) = false := by rw [beq_eq_false_iff_ne]; exact hneI
            have HF2 : Hid (∀ z, f z = if z < x then L.count z else if z = x then (L.take (i + 1)).count x else 0) := hidden (fun z => by rw [HF.out z, HCT.out, if_neg (show ¬ y = x by omega), Nat.add_zero])
            have HG2 : Hid ((x < m - 1 → gapsTo L (x + 1) = G ++ gapsF x (g + 1) (L.drop (i + 1))) ∧ (¬ x < m - 1 → G = gapsTo L (m - 1))) := hidden ⟨fun h => by rw [HGG.out.1 h, HDR.out, gapsF_gt _ hgt], HGG.out.2⟩
            go_wp2
            go_roundw
            case rel => exact ⟨i + 1, g + 1, G, f, by omega, by go_num, by go_num, hidden (by omega), HF2, HG2, hCi, hGi, hbi, hMi⟩
            case measure => simp [intOf]; omega
          · have hgtI : ¬ (x : Int) < y := by omega
            by_cases he : y = x
            · subst he
              have hbe : ((y : Int) == (y : Int)) = true := by simp
              have hcI := HF.out y
              rw [if_neg (by omega), if_pos rfl] at hcI
              have hcle : f y ≤ i := by rw [hcI]; exact Nat.le_trans List.count_le_length (by rw [List.length_take]; omega)
              have d0 := hCi.cellAt y (by omega)
              rw [nats_get _ _ _ hlt] at d0
              have f0 := hCi.frozenAt y
              have HF2 : Hid (∀ z, (if z = y then f y + 1 else f z) = if z < y then L.count z else if z = y then (L.take (i + 1)).count y else 0) := hidden (fun z => by
                by_cases e : z = y
                · subst e; rw [if_pos rfl, if_neg (by omega), if_pos rfl, HCT.out, if_pos rfl, hcI]
                · rw [if_neg e, HF.out z]; simp [e])
              obtain ⟨c, hcc⟩ : ∃ c, f y = c := ⟨_, rfl⟩
              have HCC := hidden hcc
              rw [hcc] at d0 hcle HF2
              have hC2 := (hCi.stored y (.int .i64 ((c + 1 : Nat) : Int))).1
              rw [nats_set] at hC2
              have hG2 := own_away hGi (p := ⟨w.heap.size, y, none⟩) hgc (.int .i64 ((c + 1 : Nat) : Int))
              have hb2 := hbi.setCell (p := ⟨w.heap.size, y, none⟩) (Nat.le_refl _) (.int .i64 ((c + 1 : Nat) : Int))
              have hcE : ((c + 1 : Nat) : Int) = (c : Int) + 1 := by omega
              rw [hcE] at hC2 hG2 hb2
              have hM2 : M ≤ (wr.setCell ⟨w.heap.size, y, none⟩ (.int .i64 ((c : Int) + 1))).heap.size := by simpa using hMi
              have HGE : Hid (gapsF y g (L.drop i) = g :: gapsF y 0 (L.drop (i + 1))) := hidden (by rw [HDR.out, gapsF_eq])
              by_cases hlast : y < m - 1
              · have hlastI : (y : Int) < (m : Int) - 1 := by omega
                have HGl : Hid (G.length + 1 ≤ 600) := hidden (by
                  have h1 := HGL.out (y + 1) (by omega)
                  rw [HGG.out.1 hlast, HGE.out] at h1
                  simp only [List.length_append, List.length_cons] at h1
                  omega)
                have hGl := HGl.out
                have HG2 : Hid ((y < m - 1 → gapsTo L (y + 1) = (G ++ [g]) ++ gapsF y 0 (L.drop (i + 1))) ∧ (¬ y < m - 1 → G ++ [g] = gapsTo L (m - 1))) := hidden ⟨fun h => by rw [HGG.out.1 h, HGE.out]; simp, fun h => absurd hlast h⟩
                have HGlen : Hid ((G ++ [g]).length = G.length + 1) := hidden (by simp)
                obtain ⟨q, hq⟩ : ∃ q, G.length = q := ⟨_, rfl⟩
                rw [hq] at hG2 hGl HGlen
                have HC2 := hidden hC2
                clear hCi hGi hbi hcI hcc hq hC2
                go_wp2_with (at_builtin; refine wpList_append_own _ rfl _ _ 22 rfl M 3 i0 (.int .i64 0) 1 8 Try.underlying22 hi hz0 hz1 hz2 rfl (by decide) _ _ _ rfl (hG2.alloc _) ⟨wr.heap.size, 0, none⟩ 1 1 [.int .i64 (g : Int)] rfl rfl ?c1 ?c2 ?c3 ?c4 ?c5 ?_)
                case c2 => first | rfl | exact fun u hu => by simp at hu; subst hu; rfl
                case c3 => unfold maxLen; omega
                case c4 => omega
                case c5 => first | exact hMi | omega | (simp; omega)
                intro v5 w5 hown5 hgrow _
                have hb5 := bel_app hb2 (by simpa using hsz) (Joins.ownsRow_le hG2 (by omega)) hgrow
                have hC5 := (HC2.out.alloc (.cells #[.int .i64 (g : Int)] 3)).kept hgrow (.inr (own_neq hG2 hgc))
                have hM5 : M ≤ w5.heap.size := Nat.le_trans hM2 (Nat.le_trans (Nat.le_of_lt (by simp)) hgrow.size)
                rw [← natsL_snoc8] at hown5
                have HO5 : Hid (w5.ownsRow M 3 1 v5 (G ++ [g]).length (natsL (G ++ [g]))) := hidden (by rw [HGlen.out]; exact hown5)
                clear hown5 hgrow hG2 hb2
                go_wp2
                go_roundw
                case rel => exact ⟨i + 1, 0, G ++ [g], _, by omega, by go_num, rfl, hidden (by omega), HF2, HG2, hC5, HO5.out, hb5, hM5⟩
                case measure => simp [intOf]; omega
              · have hlastI : ¬ (y : Int) < (m : Int) - 1 := by omega
                have HG2 : Hid ((y < m - 1 → gapsTo L (y + 1) = G ++ gapsF y 0 (L.drop (i + 1))) ∧ (¬ y < m - 1 → G = gapsTo L (m - 1))) := hidden ⟨fun h => absurd h hlast, HGG.out.2⟩
                clear hCi hGi hbi hMi hcI hcc
                go_wp2
                go_roundw
                case rel => exact ⟨i + 1, 0, G, _, by omega, by go_num, rfl, hidden (by omega), HF2, HG2, hC2, hG2, hb2, hM2⟩
                case measure => simp [intOf]; omega
            · have hneI : ¬ (y : Int) = x := by omega
              have hbe : ((y : Int) == (x : Int)) = false := by rw [beq_eq_false_iff_ne]; exact hneI
              have HF2 : Hid (∀ z, f z = if z < x then L.count z else if z = x then (L.take (i + 1)).count x else 0) := hidden (fun z => by rw [HF.out z, HCT.out, if_neg he, Nat.add_zero])
              have HG2 : Hid ((x < m - 1 → gapsTo L (x + 1) = G ++ gapsF x g (L.drop (i + 1))) ∧ (¬ x < m - 1 → G = gapsTo L (m - 1))) := hidden ⟨fun h => by rw [HGG.out.1 h, HDR.out, gapsF_lt _ (by omega)], HGG.out.2⟩
              go_wp2
              go_roundw
              case rel => exact ⟨i + 1, g, G, f, by omega, by go_num, rfl, hidden (by omega), HF2, HG2, hCi, hGi, hbi, hMi⟩
              case measure => simp [intOf]; omega
        · have hi2I : ¬ (i : Int) < n := by omega
          have hie : i = n := by omega
          subst hie
          have HE : Hid (nats m f = nats m (fun y => if y < x + 1 then L.count y else 0)) := hidden (nats_congr fun s _ => by
            rw [HF.out s, ← HN.out, List.take_length]
            by_cases h1 : s < x
            · rw [if_pos h1, if_pos (by omega)]
            · by_cases h2 : s = x
              · subst h2; rw [if_neg h1, if_pos rfl, if_pos (by omega)]
              · rw [if_neg h1, if_neg h2, if_neg (by omega)])
          have HGE : Hid (gapsTo L (min (x + 1) (m - 1)) = G) := hidden (by
            by_cases h : x < m - 1
            · rw [Nat.min_eq_left (by omega), HGG.out.1 h, ← HN.out, List.drop_length, gapsF, List.append_nil]
            · rw [Nat.min_eq_right (by omega), HGG.out.2 h])
          go_wp2
          go_roundw
          case rel => exact ⟨x + 1, by omega, by go_num, by rw [← HE.out]; exact hCi, by rw [HGE.out]; exact hGi, hbi, hMi⟩
          case measure => simp [intOf]; omega
    · have hxI : ¬ (x : Int) < m := by omega
      have hxm : x = m := by omega
      subst hxm
      have HE : Hid (nats x (fun y => if y < x then L.count y else 0) = natsL ((List.range x).map fun y => L.count y)) := hidden (by
        rw [natsL_nats, List.length_map, List.length_range]
        exact nats_congr fun s hs => by rw [if_pos hs]; simp [List.getD_eq_getElem?_getD, hs])
      have HGE : Hid (gapsTo L (min x (x - 1)) = gapsTo L (x - 1)) := hidden (by rw [Nat.min_eq_right (by omega)])
      rw [HE.out] at hC
      rw [HGE.out] at hG
      go_wp2
      go_ret2
      exact ⟨_, _, rfl, hC, Joins.ownsRow_le hG (by omega), hidden (fun q hq hq2 => by
        have := (hG.lt q hq2).1
        simp [Value.ownBlock] at hq
        omega), hbl⟩
end Go.Proofs.Ytpdicijoohahaaa
namespace Go.Proofs.Ytpdicijoohahaaa
set_option linter.unusedVariables false
set_option linter.unusedSimpArgs false
open Go.RowKit

set_option maxHeartbeats 1000000 in
set_option maxRecDepth 100000 in
theorem specInv_any (a : Option Addr) (cap B : Nat) (z : List Int) (n : Int) (w : World) (hz : Ints w B a z) (hB : B ≤ w.heap.size) (hl : z.length ≤ 1048576) (n1 : -9223372036854775808 ≤ n) (n2 : n ≤ 9223372036854775807) :
    Calls Try.prog 51 #[.slice a z.length cap, .int .i64 n] w fun e w' => ∃ v0 v1, e = .returned (.tuple #[v0, v1]) ∧ w'.ownsRow w.heap.size 3 1 v0 (invC z n).length (intsV (invC z n)) ∧ w'.ownsRow w.heap.size 3 1 v1 (invG z n).length (intsV (invG z n)) ∧ Hid (∀ k, v0.ownBlock = some k → v1.ownBlock ≠ some k) ∧ Below w.heap.size w w' := by
  by_cases hok : rOk z n = true
  · obtain ⟨L, m, rfl, rfl, hm1, hm2, hL6, hLm⟩ := rOk_nats hok
    rw [invC_yes hok, invG_yes hok, intsV_ints, intsV_ints, ints_len, ints_len, ints_len, List.length_map, List.length_range]
    exact specInv_yes a cap B m L w hz hB hok hm1 hm2 hL6 hLm
  · have hno := bool_false hok
    have KR := hidden (specRanksOk_any a cap B z n w hz hl n1 n2)
    rw [hno] at KR
    rw [invC_no hno, invG_no hno]
    clear hno hok
    go_enter Try.func51, Try.ntmps51
    go_wp2_with fail
    refine KR.out.mono ?_
    rintro e w0 ⟨rfl, rfl⟩
    go_wp2
    go_ret2
    exact ⟨_, _, rfl, World.ownsRow_nil _ _ _ _, World.ownsRow_nil _ _ _ _, hidden (fun k hk => by simp [Value.ownBlock] at hk), Below.refl _ _⟩
end Go.Proofs.Ytpdicijoohahaaa
namespace Go.Proofs.Ytpdicijoohahaaa
set_option linter.unusedVariables false
set_option linter.unusedSimpArgs false
open Go.RowKit

/-- Only the blocks from base on and below E (and what is new) may have turned. -/
def Mid (base E : Nat) (a w : World) : Prop := w.os = a.os ∧ w.tape = a.tape ∧ w.output = a.output ∧ a.heap.size ≤ w.heap.size ∧ ∀ i, i < a.heap.size → (i < base ∨ E ≤ i) → w.heap[i]? = a.heap[i]?
theorem Mid.refl (base E : Nat) (w : World) : Mid base E w w := ⟨rfl, rfl, rfl, Nat.le_refl _, fun _ _ _ => rfl⟩
theorem Mid.trans {base E : Nat} {a b c : World} (h : Mid base E a b) (k : Mid base E b c) : Mid base E a c :=
  ⟨k.1.trans h.1, k.2.1.trans h.2.1, k.2.2.1.trans h.2.2.1, Nat.le_trans h.2.2.2.1 k.2.2.2.1, fun i hi ho => (k.2.2.2.2 i (Nat.lt_of_lt_of_le hi h.2.2.2.1) ho).trans (h.2.2.2.2 i hi ho)⟩
theorem Mid.below {base E : Nat} {a w : World} (h : Mid base E a w) (hb : base ≤ a.heap.size) : Below base a w := ⟨h.1, h.2.1, h.2.2.1, h.2.2.2.1, fun i hi => h.2.2.2.2 i (by omega) (.inl hi)⟩
theorem Mid.own {base E B n S : Nat} {T : TypeId} {a w : World} {v : Value} {xs : List Value} (k : Mid base E a w) (ho : a.ownsRow B T S v n xs) (hB : E ≤ B) : w.ownsRow B T S v n xs := by
  refine ⟨ho.1, ?_⟩
  rcases ho.2 with h2 | ⟨b, cap, cur, hv, hb, hc, hr⟩
  · exact .inl h2
  · exact .inr ⟨b, cap, cur, hv, hb, (k.2.2.2.2 b ((Array.getElem?_eq_some_iff.1 hc).1) (.inr (by omega))).trans hc, hr⟩
theorem Mid.has {base E b : Nat} {T : TypeId} {cs : Array Value} {a w : World} (k : Mid base E a w) (h : Has a b T cs) (ho : b < base ∨ E ≤ b) : Has w b T cs := (k.2.2.2.2 b h.lt ho).trans h
theorem Mid.store {base E : Nat} {a w : World} (h : Mid base E a w) {p : Addr} (h1 : base ≤ p.block) (h2 : p.block < E) (u : Value) : Mid base E a (w.setCell p u) :=
  ⟨h.1, h.2.1, h.2.2.1, by simpa using h.2.2.2.1, fun i hi ho => (Below.heap_setCell w p u i (by omega)).trans (h.2.2.2.2 i hi ho)⟩

/-- A block of two cells: a symbol and where the next one lies. -/
def Nd (W : World) (b : Nat) (s : Nat) (p : Option Addr) : Prop := ∃ T, Has W b T #[.int .i64 (s : Int), .pointer p]
theorem Nd.lt {W : World} {b s : Nat} {p : Option Addr} (h : Nd W b s p) : b < W.heap.size := by obtain ⟨T, h⟩ := h; exact h.lt
theorem Nd.sym {W : World} {b s : Nat} {p : Option Addr} (h : Nd W b s p) : W.cell? ⟨b, 0, none⟩ = some (.int .i64 (s : Int)) := by obtain ⟨T, h⟩ := h; exact h.cell 0
theorem Nd.next {W : World} {b s : Nat} {p : Option Addr} (h : Nd W b s p) : W.cell? ⟨b, 1, none⟩ = some (.pointer p) := by obtain ⟨T, h⟩ := h; exact h.cell 1
theorem Nd.free {W : World} {b s : Nat} {p : Option Addr} (h : Nd W b s p) (i : Nat) : W.frozen? ⟨b, i, none⟩ = false := by obtain ⟨T, h⟩ := h; exact h.free i
theorem Nd.store {W : World} {b s : Nat} {p : Option Addr} (h : Nd W b s p) (q : Option Addr) : Nd (W.setCell ⟨b, 1, none⟩ (.pointer q)) b s q := by
  obtain ⟨T, h⟩ := h
  exact ⟨T, by simpa using h.store 1 (.pointer q)⟩
theorem Nd.keep {W W' : World} {b s : Nat} {p : Option Addr} (h : Nd W b s p) (hk : W'.heap[b]? = W.heap[b]?) : Nd W' b s p := by
  obtain ⟨T, h⟩ := h
  exact ⟨T, hk.trans h⟩
theorem Nd.away {W : World} {b s : Nat} {p : Option Addr} (h : Nd W b s p) {a : Addr} (ha : b ≠ a.block) (u : Value) : Nd (W.setCell a u) b s p := h.keep (Below.heap_setCell W a u b ha)
/-- Where a chain begins. -/
def hdP (c : List (Nat × Nat)) (p : Option Addr) : Option Addr := match c with
  | [] => p
  | q :: _ => some ⟨q.1, 0, none⟩
/-- A chain of nodes that ends at p. -/
def Seg (W : World) (p : Option Addr) : List (Nat × Nat) → Prop
  | [] => True
  | q :: c => Nd W q.1 q.2 (hdP c p) ∧ Seg W p c
theorem hdP_append (A B : List (Nat × Nat)) (p : Option Addr) : hdP (A ++ B) p = hdP A (hdP B p) := by cases A <;> rfl
theorem seg_append {W : World} {p : Option Addr} {A B : List (Nat × Nat)} : Seg W p (A ++ B) ↔ Seg W (hdP B p) A ∧ Seg W p B := by
  induction A with
  | nil => simp [Seg]
  | cons q A ih =>
    show Nd W q.1 q.2 (hdP (A ++ B) p) ∧ Seg W p (A ++ B) ↔ (Nd W q.1 q.2 (hdP A (hdP B p)) ∧ Seg W (hdP B p) A) ∧ Seg W p B
    rw [hdP_append, ih, and_assoc]
theorem Seg.keep {W W' : World} {p : Option Addr} : ∀ {c : List (Nat × Nat)}, Seg W p c → (∀ b ∈ c.map Prod.fst, W'.heap[b]? = W.heap[b]?) → Seg W' p c
  | [], _, _ => trivial
  | q :: c, h, hk => ⟨h.1.keep (hk _ (List.mem_cons_self ..)), Seg.keep h.2 (fun b hb => hk b (List.mem_cons_of_mem _ hb))⟩
theorem Seg.away {W : World} {p : Option Addr} {c : List (Nat × Nat)} (h : Seg W p c) {a : Addr} (ha : a.block ∉ c.map Prod.fst) (u : Value) : Seg (W.setCell a u) p c :=
  h.keep fun b hb => Below.heap_setCell W a u b (fun e => ha (e ▸ hb))
theorem Seg.last {W : World} {p : Option Addr} {A : List (Nat × Nat)} {q : Nat × Nat} (h : Seg W p (A ++ [q])) (hn : q.1 ∉ A.map Prod.fst) (p' : Option Addr) : Seg (W.setCell ⟨q.1, 1, none⟩ (.pointer p')) p' (A ++ [q]) := by
  obtain ⟨h1, h2⟩ := seg_append.1 h
  exact seg_append.2 ⟨h1.away hn _, h2.1.store p', trivial⟩
/-- A row of symbols as a chain behind a head, in blocks from base on and below E. -/
structure FLc (W : World) (base E h : Nat) (c : List (Nat × Nat)) (r : List Nat) : Prop where
  row : c.map Prod.snd = r
  nodup : (h :: c.map Prod.fst).Nodup
  lies : ∀ b ∈ h :: c.map Prod.fst, base ≤ b ∧ b < E
  seg : Seg W none ((h, 0) :: c)
def FL (W : World) (base E h : Nat) (r : List Nat) : Prop := ∃ c, FLc W base E h c r
theorem FL.keep {W W' : World} {base E h : Nat} {r : List Nat} (hF : FL W base E h r) (hk : ∀ i, base ≤ i → i < E → W'.heap[i]? = W.heap[i]?) : FL W' base E h r := by
  obtain ⟨c, h1, h2, h3, h4⟩ := hF
  exact ⟨c, h1, h2, h3, h4.keep fun b hb => hk b (h3 b hb).1 (h3 b hb).2⟩
/-- The block of the node ahead of place j. -/
def blk (h : Nat) (c : List (Nat × Nat)) (j : Nat) : Nat := (h :: c.map Prod.fst).getD j 0
theorem seg_at {W : World} {p : Option Addr} : ∀ {c : List (Nat × Nat)} (j : Nat), Seg W p c → j + 1 < c.length → ∃ q q', c[j]? = some q ∧ c[j + 1]? = some q' ∧ Nd W q.1 q.2 (some ⟨q'.1, 0, none⟩)
  | [], _, _, h => by simp at h
  | [q], _, _, h => by simp at h
  | q :: q' :: c, 0, h, _ => ⟨q, q', rfl, rfl, h.1⟩
  | q :: q' :: c, j + 1, h, hj => by
    obtain ⟨u, u', h1, h2, h3⟩ := seg_at (c := q' :: c) j h.2 (by simp at hj ⊢; omega)
    exact ⟨u, u', by simpa using h1, by simpa using h2, h3⟩
theorem seg_node {W : World} {p : Option Addr} : ∀ {c : List (Nat × Nat)} (j : Nat) (q : Nat × Nat), Seg W p c → c[j]? = some q → ∃ p', Nd W q.1 q.2 p'
  | [], _, _, _, h => by simp at h
  | q :: c, 0, q', h, e => by simp at e; subst e; exact ⟨_, h.1⟩
  | q :: c, j + 1, q', h, e => seg_node j q' h.2 (by simpa using e)
theorem FLc.node {W : World} {base E h : Nat} {c : List (Nat × Nat)} {r : List Nat} (hF : FLc W base E h c r) (j : Nat) (hj : j < r.length) :
    W.cell? ⟨blk h c j, 1, none⟩ = some (.pointer (some ⟨blk h c (j + 1), 0, none⟩)) ∧ W.cell? ⟨blk h c (j + 1), 0, none⟩ = some (.int .i64 ((r.getD j 0 : Nat) : Int)) := by
  have hl : c.length = r.length := by rw [← hF.row]; simp
  obtain ⟨q, q', h1, h2, h3⟩ := seg_at j hF.seg (by simp; omega)
  have b1 : blk h c j = q.1 := by
    unfold blk
    have : (h :: c.map Prod.fst) = ((h, 0) :: c).map Prod.fst := rfl
    rw [this, List.getD_eq_getElem?_getD, List.getElem?_map, h1]; rfl
  have b2 : blk h c (j + 1) = q'.1 := by
    unfold blk
    have : (h :: c.map Prod.fst) = ((h, 0) :: c).map Prod.fst := rfl
    rw [this, List.getD_eq_getElem?_getD, List.getElem?_map, h2]; rfl
  obtain ⟨p', h4⟩ := seg_node (j + 1) q' hF.seg h2
  have s2 : r.getD j 0 = q'.2 := by
    have h5 : c[j]? = some q' := by simpa using h2
    rw [← hF.row, List.getD_eq_getElem?_getD, List.getElem?_map, h5]; rfl
  rw [b1, b2, s2]
  exact ⟨h3.next, h4.sym⟩
theorem blk_zero (h : Nat) (c : List (Nat × Nat)) : blk h c 0 = h := rfl

/-- The three stores of bringForward: the chain behind them. -/
theorem seg_bring {W : World} {h : Nat} {A B : List (Nat × Nat)} {x : Nat × Nat} (hs : Seg W none ((h, 0) :: (A ++ x :: B))) (hnd : (h :: (A ++ x :: B).map Prod.fst).Nodup) :
    ∃ p1, W.cell? ⟨blk h (A ++ x :: B) A.length, 1, none⟩ = some (.pointer (some ⟨x.1, 0, none⟩)) ∧ W.cell? ⟨x.1, 1, none⟩ = some (.pointer (hdP B none)) ∧ W.cell? ⟨x.1, 0, none⟩ = some (.int .i64 (x.2 : Int)) ∧
      (blk h (A ++ x :: B) A.length ≠ h → W.cell? ⟨h, 1, none⟩ = some (.pointer p1)) ∧ (blk h (A ++ x :: B) A.length = h → p1 = hdP B none) ∧ x.1 ≠ h ∧ x.1 ≠ blk h (A ++ x :: B) A.length ∧
      W.frozen? ⟨blk h (A ++ x :: B) A.length, 1, none⟩ = false ∧ W.frozen? ⟨x.1, 1, none⟩ = false ∧ W.frozen? ⟨h, 1, none⟩ = false ∧
      blk h (A ++ x :: B) A.length ∈ h :: (A ++ x :: B).map Prod.fst ∧
      Seg (((W.setCell ⟨blk h (A ++ x :: B) A.length, 1, none⟩ (.pointer (hdP B none))).setCell ⟨x.1, 1, none⟩ (.pointer p1)).setCell ⟨h, 1, none⟩ (.pointer (some ⟨x.1, 0, none⟩))) none ((h, 0) :: x :: (A ++ B)) := by
  obtain ⟨hh, hAxB⟩ := hs
  obtain ⟨hA, hx, hBs⟩ := seg_append.1 hAxB
  simp only [List.map_append, List.map_cons, List.nodup_cons, List.nodup_append, List.mem_append, List.mem_cons, not_or] at hnd
  obtain ⟨⟨nA, nx, nB⟩, dA, ⟨nxB, dB⟩, dAB⟩ := hnd
  have hxA : x.1 ∉ A.map Prod.fst := fun hm => dAB x.1 hm x.1 (.inl rfl) rfl
  rcases List.eq_nil_or_concat A with rfl | ⟨A', q, rfl⟩
  · simp only [List.nil_append, List.length_nil, blk_zero] at *
    refine ⟨hdP B none, hh.next, hx.next, hx.sym, fun e => absurd rfl e, fun _ => rfl, fun e => nx e.symm, fun e => nx e.symm, hh.free 1, hx.free 1, hh.free 1, .inl rfl |> List.mem_cons.2, ?_⟩
    refine ⟨((hh.store _).away (by exact nx) _).store _, ((hx.away (fun e => nx e.symm) _).store _).away (fun e => nx e.symm) _, ?_⟩
    exact ((hBs.away (by exact nB) _).away (by exact nxB) _).away (by exact nB) _
  · have hq : blk h (A' ++ [q] ++ x :: B) (A' ++ [q]).length = q.1 := by
      unfold blk
      simp [List.getD_eq_getElem?_getD]
    simp only [List.concat_eq_append] at *
    rw [hq]
    have hqm : q.1 ∈ (A' ++ [q]).map Prod.fst := by simp
    have hqh : q.1 ≠ h := fun e => nA (e ▸ hqm)
    have hqx : q.1 ≠ x.1 := fun e => hxA (e ▸ hqm)
    have hq' : q.1 ∉ A'.map Prod.fst := by
      intro hm
      simp only [List.map_append, List.map_cons, List.map_nil, List.nodup_append, List.mem_singleton] at dA
      exact dA.2.2 _ hm _ rfl rfl
    have hqB : q.1 ∉ B.map Prod.fst := fun hm => dAB q.1 hqm q.1 (.inr hm) rfl
    obtain ⟨hA1, hqN, _⟩ := seg_append.1 hA
    refine ⟨hdP (A' ++ [q] ++ x :: B) none, hqN.next, hx.next, hx.sym, fun _ => hh.next, fun e => absurd e hqh, fun e => nx e.symm, Ne.symm hqx, hqN.free 1, hx.free 1, hh.free 1, List.mem_cons_of_mem _ (by simp), ?_⟩
    have hcl : hdP (A' ++ [q] ++ B) none = hdP (A' ++ [q] ++ x :: B) none := by cases A' <;> rfl
    refine ⟨((hh.away (Ne.symm hqh) _).away nx _).store _, ?_, ?_⟩
    · rw [hcl]
      exact ((hx.away (Ne.symm hqx) _).store _).away (fun e => nx e.symm) _
    · refine seg_append.2 ⟨?_, ?_⟩
      · exact ((hA.last hq' _).away hxA _).away nA _
      · exact ((hBs.away hqB _).away nxB _).away nB _
end Go.Proofs.Ytpdicijoohahaaa
namespace Go.Proofs.Ytpdicijoohahaaa
set_option linter.unusedVariables false
set_option linter.unusedSimpArgs false
open Go.RowKit

set_option maxHeartbeats 1000000 in
set_option maxRecDepth 100000 in
theorem bring_walk (h bb x s : Nat) (pB p1 : Option Addr) (w : World) (c1 : w.cell? ⟨bb, 1, none⟩ = some (.pointer (some ⟨x, 0, none⟩))) (c2 : w.cell? ⟨x, 1, none⟩ = some (.pointer pB)) (c3 : w.cell? ⟨x, 0, none⟩ = some (.int .i64 (s : Int)))
    (c4 : bb ≠ h → w.cell? ⟨h, 1, none⟩ = some (.pointer p1)) (c5 : bb = h → p1 = pB) (hxh : x ≠ h) (hxb : x ≠ bb)
    (f1 : w.frozen? ⟨bb, 1, none⟩ = false) (f2 : w.frozen? ⟨x, 1, none⟩ = false) (f3 : w.frozen? ⟨h, 1, none⟩ = false) :
    Calls Try.prog 99 #[.pointer (some ⟨h, 0, none⟩), .pointer (some ⟨bb, 0, none⟩)] w fun e w' => e = .returned (.int .i64 (s : Int)) ∧
      w' = ((w.setCell ⟨bb, 1, none⟩ (.pointer pB)).setCell ⟨x, 1, none⟩ (.pointer p1)).setCell ⟨h, 1, none⟩ (.pointer (some ⟨x, 0, none⟩)) := by
  by_cases e : bb = h
  · subst e
    obtain rfl := c5 rfl
    go_enter Try.func99, Try.ntmps99
    go_wp2
    go_ret
    exact ⟨rfl, rfl⟩
  · have c6 := c4 e
    have e2 : ¬ h = bb := fun q => e q.symm
    have e3 : ¬ h = x := fun q => hxh q.symm
    have e4 : ¬ bb = x := fun q => hxb q.symm
    go_enter Try.func99, Try.ntmps99
    go_wp2
    go_ret
    exact ⟨rfl, rfl⟩
theorem bringForward_any (base E h k : Nat) (c : List (Nat × Nat)) (r : List Nat) (w : World) (hF : FLc w base E h c r) (hk : k < r.length) :
    Calls Try.prog 99 #[.pointer (some ⟨h, 0, none⟩), .pointer (some ⟨blk h c k, 0, none⟩)] w fun e w' => e = .returned (.int .i64 ((r.getD k 0 : Nat) : Int)) ∧ FL w' base E h (frontL r k) ∧ Mid base E w w' := by
  have hl : c.length = r.length := by rw [← hF.row]; simp
  have hkc : k < c.length := by omega
  obtain ⟨A, x, B, hc, hA⟩ : ∃ A x B, c = A ++ x :: B ∧ A.length = k := ⟨c.take k, c[k], c.drop (k + 1), by rw [← List.drop_eq_getElem_cons hkc, List.take_append_drop], by rw [List.length_take]; omega⟩
  subst hA
  subst hc
  obtain ⟨p1, c1, c2, c3, c4, c5, n1, n2, f1, f2, f3, hm, hs⟩ := seg_bring hF.seg hF.nodup
  have hx2 : r.getD A.length 0 = x.2 := by rw [← hF.row]; simp [List.getD_eq_getElem?_getD]
  rw [hx2]
  refine (bring_walk h _ x.1 x.2 (hdP B none) p1 w c1 c2 c3 c4 c5 n1 n2 f1 f2 f3).mono ?_
  rintro e w' ⟨rfl, rfl⟩
  have hxm : x.1 ∈ h :: (A ++ x :: B).map Prod.fst := by simp
  have hhm : h ∈ h :: (A ++ x :: B).map Prod.fst := List.mem_cons_self ..
  have l1 := hF.lies _ hm
  have l2 := hF.lies _ hxm
  have l3 := hF.lies _ hhm
  refine ⟨rfl, ⟨x :: (A ++ B), ?_, ?_, ?_, hs⟩, (((Mid.refl base E w).store l1.1 l1.2 _).store l2.1 l2.2 _).store l3.1 l3.2 _⟩
  · unfold frontL
    rw [hx2, ← hF.row, eraseIdx_td]
    simp [List.drop_append]
  · have := hF.nodup
    have hp : (h :: (x :: (A ++ B)).map Prod.fst).Perm (h :: (A ++ x :: B).map Prod.fst) := by
      refine List.Perm.cons _ (List.Perm.map _ ?_)
      exact List.perm_middle.symm
    exact hp.nodup_iff.2 this
  · intro b hb
    apply hF.lies
    simp only [List.map_cons, List.map_append, List.mem_cons, List.mem_append] at hb ⊢
    rcases hb with h1 | h1 | h1 | h1
    · exact .inl h1
    · exact .inr (.inr (.inl h1))
    · exact .inr (.inl h1)
    · exact .inr (.inr (.inr h1))
set_option maxHeartbeats 1000000 in
set_option maxRecDepth 100000 in
theorem rankOf_any (base E h n x : Nat) (r : List Nat) (w : World) (hF : FL w base E h r) (hP : PermN n r) (hn : n ≤ 256) (hx : x < n) :
    Calls Try.prog 98 #[.pointer (some ⟨h, 0, none⟩), .int .i64 x] w fun e w' => e = .returned (.int .i64 ((mtfF r x).1 : Int)) ∧ FL w' base E h (mtfF r x).2 ∧ Mid base E w w' := by
  obtain ⟨c, hF⟩ := hF
  have HF := hidden hF
  have HL := hidden hP.len
  have hkn := hP.idx hx
  have HIA := hidden (idx_at r ((hP.mem x).2 hx))
  have HIF := hidden (idx_first r x)
  have HB := hidden (fun k hk => bringForward_any base E h k c r w hF hk)
  have HZ := hidden (blk_zero h c)
  rw [show mtfF r x = (r.idxOf x, frontL r (r.idxOf x)) from rfl]
  obtain ⟨k, hk⟩ : ∃ k, r.idxOf x = k := ⟨_, rfl⟩
  rw [hk] at hkn HIA HIF ⊢
  have HN := hidden hF.node
  clear hF hk
  go_enter Try.func98, Try.ntmps98
  go_wp2
  go_loopw [5, 6] (fun sj sb wr => ∃ j : Nat, j ≤ k ∧ sj = .int .i64 j ∧ sb = .pointer (some ⟨blk h c j, 0, none⟩) ∧ w = wr) (fun sj _ _ => k - (intOf sj).toNat)
  case atStart => exact ⟨0, by omega, rfl, by rw [HZ.out], by first | trivial | rfl⟩
  case round =>
    obtain ⟨j, hj, rfl, rfl, rfl⟩ := hrel
    obtain ⟨d1, d2⟩ := HN.out j (by rw [HL.out]; omega)
    by_cases hlt : j < k
    · have hne := HIF.out j hlt
      obtain ⟨y, hy⟩ : ∃ y, r.getD j 0 = y := ⟨_, rfl⟩
      obtain ⟨b1, hb1⟩ : ∃ b, blk h c (j + 1) = b := ⟨_, rfl⟩
      obtain ⟨b0, hb0⟩ : ∃ b, blk h c j = b := ⟨_, rfl⟩
      rw [hy] at d2 hne
      rw [hb1] at d1 d2
      rw [hb0] at d1 ⊢
      have HB1 := hidden hb1
      have hneI : ((y : Int) != (x : Int)) = true := by rw [bne_iff_ne]; omega
      clear hy hb1 hb0
      go_wp2
      go_roundw
      case rel => exact ⟨j + 1, by omega, by go_num, by rw [HB1.out], by first | trivial | rfl⟩
      case measure => simp [intOf]; omega
    · have hjk : j = k := by omega
      subst hjk
      have KB := hidden (HB.out j (by rw [HL.out]; exact hkn))
      rw [HIA.out] at d2 KB
      obtain ⟨b1, hb1⟩ : ∃ b, blk h c (j + 1) = b := ⟨_, rfl⟩
      obtain ⟨b0, hb0⟩ : ∃ b, blk h c j = b := ⟨_, rfl⟩
      rw [hb1] at d1 d2
      rw [hb0] at d1 KB ⊢
      have hneI : ((x : Int) != (x : Int)) = false := by simp
      clear hb1 hb0
      go_wp2_with fail
      refine KB.out.mono ?_
      rintro e w3 ⟨rfl, hF3, hm3⟩
      go_wp2
      go_ret
      exact ⟨rfl, hF3, hm3⟩
set_option maxHeartbeats 1000000 in
set_option maxRecDepth 100000 in
theorem symbolAt_any (base E h n k : Nat) (r : List Nat) (w : World) (hF : FL w base E h r) (hP : PermN n r) (hn : n ≤ 256) (hkn : k < n) :
    Calls Try.prog 97 #[.pointer (some ⟨h, 0, none⟩), .int .i64 k] w fun e w' => e = .returned (.int .i64 ((umtF r k).1 : Int)) ∧ FL w' base E h (umtF r k).2 ∧ Mid base E w w' := by
  obtain ⟨c, hF⟩ := hF
  have HL := hidden hP.len
  have HB := hidden (bringForward_any base E h k c r w hF (by rw [hP.len]; exact hkn))
  have HZ := hidden (blk_zero h c)
  rw [show umtF r k = (r.getD k 0, frontL r k) from rfl]
  have HN := hidden hF.node
  obtain ⟨y, hy⟩ : ∃ y, r.getD k 0 = y := ⟨_, rfl⟩
  rw [hy] at HB ⊢
  clear hF hy
  go_enter Try.func97, Try.ntmps97
  go_wp2
  go_loopw [5, 10] (fun sb sj wr => ∃ j : Nat, j ≤ k ∧ sj = .int .i64 j ∧ sb = .pointer (some ⟨blk h c j, 0, none⟩) ∧ w = wr) (fun _ sj _ => k - (intOf sj).toNat)
  case atStart => exact ⟨0, by omega, rfl, by rw [HZ.out], by first | trivial | rfl⟩
  case round =>
    obtain ⟨j, hj, rfl, rfl, rfl⟩ := hrel
    by_cases hlt : j < k
    · obtain ⟨d1, _⟩ := HN.out j (by rw [HL.out]; omega)
      obtain ⟨b1, hb1⟩ : ∃ b, blk h c (j + 1) = b := ⟨_, rfl⟩
      obtain ⟨b0, hb0⟩ : ∃ b, blk h c j = b := ⟨_, rfl⟩
      rw [hb1, hb0] at d1
      rw [hb0]
      have HB1 := hidden hb1
      clear hb1 hb0
      go_wp2
      go_roundw
      case rel => exact ⟨j + 1, by omega, by go_num, by rw [HB1.out], by first | trivial | rfl⟩
      case measure => simp [intOf]; omega
    · have hjk : j = k := by omega
      subst hjk
      go_wp2_with fail
      refine HB.out.mono ?_
      rintro e w3 ⟨rfl, hF3, hm3⟩
      go_wp2
      go_ret
      exact ⟨rfl, hF3, hm3⟩
end Go.Proofs.Ytpdicijoohahaaa
namespace Go.Proofs.Ytpdicijoohahaaa
set_option linter.unusedVariables false
set_option linter.unusedSimpArgs false
open Go.RowKit

theorem seg_of {W : World} : ∀ (m : Nat) (f : Nat → Nat × Nat), (∀ i, i < m → Nd W (f i).1 (f i).2 (if i + 1 < m then some ⟨(f (i + 1)).1, 0, none⟩ else none)) → Seg W none ((List.range m).map f)
  | 0, _, _ => trivial
  | m + 1, f, h => by
    rw [List.range_succ_eq_map, List.map_cons, List.map_map]
    refine ⟨?_, seg_of m (f ∘ Nat.succ) (fun i hi => ?_)⟩
    · have := h 0 (by omega)
      cases m with
      | zero => simpa [hdP] using this
      | succ m =>
        rw [if_pos (by omega)] at this
        rw [List.range_succ_eq_map]
        exact this
    · have := h (i + 1) (by omega)
      by_cases h2 : i + 1 < m
      · rw [if_pos (by omega)] at this
        rw [if_pos h2]
        exact this
      · rw [if_neg (by omega)] at this
        rw [if_neg h2]
        exact this
theorem fl_new {W : World} {h n : Nat} (hsz : W.heap.size = h + 1 + n) (hN : ∀ i, i ≤ n → Nd W (h + i) (i - 1) (if i < n then some ⟨h + i + 1, 0, none⟩ else none)) : FL W h W.heap.size h (List.range n) := by
  have e : ((h, 0) :: (List.range n).map fun i => (h + (i + 1), i)) = (List.range (n + 1)).map fun i => (h + i, i - 1) := by
    rw [List.range_succ_eq_map, List.map_cons, List.map_map]
    rfl
  have em : (h :: ((List.range n).map fun i => (h + (i + 1), i)).map Prod.fst) = (List.range (n + 1)).map fun i => h + i := by
    rw [List.range_succ_eq_map, List.map_cons, List.map_map, List.map_map]
    rfl
  refine ⟨(List.range n).map fun i => (h + (i + 1), i), ?_, ?_, ?_, ?_⟩
  · rw [List.map_map]
    conv => rhs; rw [← List.map_id (List.range n)]
    rfl
  · rw [em]
    unfold List.Nodup
    rw [List.pairwise_map]
    refine List.Pairwise.imp ?_ List.nodup_range
    intro a b hab he
    exact hab (by omega)
  · rw [em]
    intro b hb
    obtain ⟨i, hi, rfl⟩ := List.mem_map.1 hb
    have := List.mem_range.1 hi
    omega
  · rw [e]
    refine seg_of (n + 1) _ fun i hi => ?_
    have := hN i (by omega)
    by_cases h2 : i < n
    · rw [if_pos h2] at this
      rw [if_pos (by omega)]
      exact this
    · rw [if_neg h2] at this
      rw [if_neg (by omega)]
      exact this
set_option maxHeartbeats 1000000 in
set_option maxRecDepth 100000 in
theorem frontListOf_any (n : Nat) (w : World) (hn : n ≤ 256) :
    Calls Try.prog 96 #[.int .i64 n] w fun e w' => e = .returned (.pointer (some ⟨w.heap.size, 0, none⟩)) ∧ FL w' w.heap.size w'.heap.size w.heap.size (List.range n) ∧ Below w.heap.size w w' := by
  have hH := Has.fresh w 112 #[.int .i64 0, .pointer none]
  have hb0 : Below w.heap.size w (w.alloc (.cells #[.int .i64 0, .pointer none] 112)) := (Below.refl _ _).alloc (Nat.le_refl _) _
  have HH0 : Hid (∀ i, i ≤ 0 → Nd (w.alloc (.cells #[.int .i64 0, .pointer none] 112)) (w.heap.size + i) (i - 1) (if i < 0 then some ⟨w.heap.size + i + 1, 0, none⟩ else none)) := hidden (by
    intro i hi
    have h0 : i = 0 := by omega
    subst h0
    exact ⟨_, hH⟩)
  go_enter Try.func96, Try.ntmps96
  go_wp2
  go_loopw [4, 5, 12] (fun sl _ sk wr => ∃ k : Nat, k ≤ n ∧ sk = .int .i64 k ∧ sl = .pointer (some ⟨w.heap.size + k, 0, none⟩) ∧ Hid (wr.heap.size = w.heap.size + 1 + k) ∧ Hid (∀ i, i ≤ k → Nd wr (w.heap.size + i) (i - 1) (if i < k then some ⟨w.heap.size + i + 1, 0, none⟩ else none)) ∧ Below w.heap.size w wr) (fun _ _ sk _ => n - (intOf sk).toNat)
  case atStart => exact ⟨0, by omega, rfl, rfl, hidden (by simp), HH0, hb0⟩
  case round =>
    obtain ⟨k, hk, rfl, rfl, HS, HN, hbl⟩ := hrel
    clear hH hb0
    by_cases hlt : k < n
    · have hl := HN.out k (Nat.le_refl _)
      rw [if_neg (by omega)] at hl
      have d1 := hl.next
      have f1 := hl.free 1
      obtain ⟨lb, hlb⟩ : ∃ lb, w.heap.size + k = lb := ⟨_, rfl⟩
      have HLB := hidden hlb
      rw [hlb] at d1 f1 ⊢
      have hll : lb < wr.heap.size := by have := HS.out; omega
      have hN2 : Hid (∀ i, i ≤ k + 1 → Nd ((wr.setCell ⟨lb, 1, none⟩ (.pointer (some ⟨wr.heap.size, 0, none⟩))).alloc (.cells #[.int .i64 (k : Int), .pointer none] 110)) (w.heap.size + i) (i - 1) (if i < k + 1 then some ⟨w.heap.size + i + 1, 0, none⟩ else none)) := hidden (by
        intro i hi
        by_cases h1 : i = k + 1
        · subst h1
          rw [if_neg (by omega)]
          exact ⟨110, Has.freshAt (by have := HS.out; simp; omega) _ _⟩
        · have hN1 := HN.out i (by omega)
          by_cases h2 : i = k
          · subst h2
            rw [if_pos (by omega)]
            have := hN1.store (some ⟨wr.heap.size, 0, none⟩)
            rw [HLB.out] at this ⊢
            rw [show lb + 1 = wr.heap.size by have := HS.out; have := HLB.out; omega]
            exact this.keep (Below.heap_alloc _ _ _ this.lt)
          · rw [if_pos (by omega)] at hN1 ⊢
            have := hN1.away (a := ⟨lb, 1, none⟩) (by have := HLB.out; simp; omega) (.pointer (some ⟨wr.heap.size, 0, none⟩))
            exact this.keep (Below.heap_alloc _ _ _ this.lt))
      have hb2 : Below w.heap.size w ((wr.setCell ⟨lb, 1, none⟩ (.pointer (some ⟨wr.heap.size, 0, none⟩))).alloc (.cells #[.int .i64 (k : Int), .pointer none] 110)) := (hbl.setCell (by have := HLB.out; simp; omega) _).alloc (by simpa using hbl.size) _
      clear hl hlb
      go_wp2
      go_roundw
      case rel => exact ⟨k + 1, by omega, by go_num, by rw [HS.out, Nat.add_right_comm, Nat.add_assoc], hidden (by simp; have := HS.out; omega), hN2, hb2⟩
      case measure => simp [intOf]; omega
    · have hkn : k = n := by omega
      subst hkn
      have HF := hidden (fl_new HS.out HN.out)
      go_wp2
      go_ret
      exact ⟨rfl, HF.out, hbl⟩
set_option maxHeartbeats 1000000 in
set_option maxRecDepth 100000 in
theorem each_any {σ : Type} (N : Nat) (p : Value) (St : World → σ → Prop) (f : σ → Nat → Nat × σ) (base E B : Nat) (a : Option Addr) (cap : Nat) (L : List Nat) (w : World) (s0 : σ)
    (hz : Ints w B a (ints L)) (hB : B ≤ base) (hbE : base ≤ E) (hE : E ≤ w.heap.size) (hL6 : L.length ≤ 600) (h0 : St w s0)
    (hcf : ∀ (args : Array Value) (W : World), (callFunc N args).run Try.prog W = .ok (.enter N args) W)
    (hkeep : ∀ (W W' : World) (s : σ), St W s → (∀ i, base ≤ i → i < E → W'.heap[i]? = W.heap[i]?) → St W' s)
    (hnext : ∀ (W : World) (s : σ) (x : Nat), St W s → x ∈ L → Calls Try.prog N #[p, .int .i64 (x : Int)] W fun e W' => e = .returned (.int .i64 ((f s x).1 : Int)) ∧ St W' (f s x).2 ∧ Mid base E W W') :
    Calls Try.prog 95 #[.slice a L.length cap, .func (.func N) #[p] #[]] w fun e w' => ∃ g, e = .returned (.slice (some ⟨g, 0, none⟩) L.length L.length) ∧ w'.ownsRow w.heap.size 3 1 (.slice (some ⟨g, 0, none⟩) L.length L.length) L.length (natsL (runF f s0 L)) ∧ Below base w w' := by
  obtain ⟨j0, ji, jz0, jz1, jz2⟩ := info_parts Try.infoInt
  have HZ := hidden hz
  have HK := hidden hkeep
  have HX := hidden hnext
  have H0 := hidden h0
  obtain ⟨A, hA⟩ : ∃ A, runF f s0 L = A := ⟨_, rfl⟩
  have HA := hidden hA
  rw [hA]
  obtain ⟨n, hn⟩ : ∃ n, L.length = n := ⟨_, rfl⟩
  have HN := hidden hn
  rw [hn] at hL6 ⊢
  clear hz hA hn hkeep hnext h0
  go_enter Try.func95, Try.ntmps95
  go_wp2_with (at_make; refine wpList_make_full _ rfl _ _ 22 rfl w.heap.size 3 j0 (.int .i64 0) 1 Try.underlying22 ji jz0 jz1 .i64 .i64 _ _ n rfl rfl rfl rfl ?cb1 ?cb2 ?cb3 ?_)
  case cb1 => rw [jz2]; omega
  case cb2 => unfold maxLen; omega
  case cb3 => exact Nat.le_refl _
  intro w2 hown hgrow
  have hb2 := bel_made hgrow
  rw [made_nats] at hown
  have H2 := hidden (HK.out _ w2 s0 H0.out (fun i _ hi => hb2.block i (by omega)))
  have hbb : Below base w w2 := hb2.mono (by omega)
  clear hgrow hb2
  go_wp2
  go_loopw [6, 7, 13] (fun _ _ sk wr => ∃ (k : Nat) (s : σ) (D : List Nat) (F : Nat → Nat), k ≤ n ∧ sk = .int .i64 k ∧ Hid (A = D ++ runF f s (L.drop k)) ∧ Hid (D.length = k ∧ ∀ j, j < k → F j = D.getD j 0) ∧ Hid (St wr s) ∧ wr.ownsRow w.heap.size 3 1 (.slice (some ⟨w.heap.size, 0, none⟩) n n) n (nats n F) ∧ Below base w wr) (fun _ _ sk _ => n - (intOf sk).toNat)
  case atStart => exact ⟨0, s0, [], fun _ => 0, by omega, rfl, hidden (by rw [← HA.out]; rfl), hidden ⟨rfl, fun j hj => by omega⟩, H2, hown, hbb⟩
  case round =>
    obtain ⟨k, s, D, F, hk, rfl, HD, HF, HSt, hownF, hblF⟩ := hrel
    clear hown hbb
    have hsz := hblF.size
    by_cases hlt : k < n
    · obtain ⟨b, off, rfl, hb, hc⟩ := (HZ.out.below (hblF.mono hB)).2.2 (by rw [ints_len, HN.out]; omega)
      have ck := ints_cell (B := B) hc k (by rw [HN.out]; exact hlt)
      have HM := hidden (getD_mem7 L k (by rw [HN.out]; exact hlt))
      have HDR := hidden (drop_cons L k (by rw [HN.out]; exact hlt))
      obtain ⟨x, hx⟩ : ∃ x, L.getD k 0 = x := ⟨_, rfl⟩
      rw [hx] at ck HM HDR
      have KX := hidden (HX.out wr s x HSt.out HM.out)
      have HS2 : Hid (A = (D ++ [(f s x).1]) ++ runF f (f s x).2 (L.drop (k + 1))) := hidden (by rw [HD.out, HDR.out, runF, List.append_assoc]; rfl)
      obtain ⟨y, hy⟩ : ∃ y, (f s x).1 = y := ⟨_, rfl⟩
      obtain ⟨s2, hs2⟩ : ∃ s2, (f s x).2 = s2 := ⟨_, rfl⟩
      rw [hy, hs2] at KX HS2
      have HO := hidden hownF
      clear hx hc hy hs2 hownF
      go_wp2_with fail
      refine KX.out.mono ?_
      rintro e w3 ⟨rfl, hSt3, hm3⟩
      have hO3 := hm3.own HO.out hE
      have hb3 : Below base w w3 := hblF.trans (hm3.below (by omega))
      have HSt3 := hidden hSt3
      have d0 := hO3.cellAt k (by omega)
      rw [nats_get _ _ _ hlt] at d0
      have f0 := hO3.frozenAt k
      have hHN : Hid (w3.heap.size = w3.heap.size) := hidden rfl
      clear hSt3 hm3 hblF
      go_wp2
      go_roundw
      case rel => exact ⟨k + 1, s2, D ++ [y], fun t => if t = k then y else F t, by omega, by go_num, HS2, hidden ⟨by simp [HF.out.1], fun j hj => by
          by_cases e : j = k
          · show (if j = k then y else F j) = _
            rw [if_pos e, e]; simp [List.getD_eq_getElem?_getD, HF.out.1]
          · show (if j = k then y else F j) = _
            rw [if_neg e, HF.out.2 j (by omega)]; simp [List.getD_eq_getElem?_getD, List.getElem?_append_left (show j < D.length by rw [HF.out.1]; omega)]⟩, hidden (HK.out _ _ s2 HSt3.out (fun i _ hi => Below.heap_setCell _ _ _ i (by simp; omega))), by rw [← nats_set]; exact (hO3.stored k _).1, hb3.setCell (by simp; omega) _⟩
      case measure => simp [intOf]; omega
    · have hkn : k = n := by omega
      subst hkn
      have HE : Hid (nats k F = natsL A) := hidden (by
        rw [natsL_nats]
        have e : A = D := by rw [HD.out, ← HN.out, List.drop_length, runF, List.append_nil]
        rw [e, HF.out.1]
        exact nats_congr fun j hj => HF.out.2 j hj)
      go_wp2
      go_ret
      exact ⟨_, rfl, by rw [← HE.out]; exact hownF, hblF⟩
end Go.Proofs.Ytpdicijoohahaaa
namespace Go.Proofs.Ytpdicijoohahaaa
set_option linter.unusedVariables false
set_option linter.unusedSimpArgs false
open Go.RowKit

set_option maxHeartbeats 1000000 in
set_option maxRecDepth 100000 in
theorem implRunSyms_yes (k : Nat) (w : World) (h1 : 1 ≤ k) (h2 : k ≤ 600) :
    Calls Try.prog 20 #[.int .i64 k] w fun e w' => ∃ v, e = .returned v ∧ w'.ownsRow w.heap.size 3 1 v (rsF k).length (natsL (rsF k)) ∧ Below w.heap.size w w' := by
  obtain ⟨i0, hi, hz0, hz1, hz2⟩ := info_parts Try.infoInt
  obtain ⟨A, hA⟩ : ∃ A, rsF k = A := ⟨_, rfl⟩
  have HA := hidden hA
  have HLe : Hid (A.length ≤ 600) := hidden (by rw [← hA]; have := rsF_len k; omega)
  rw [hA]
  clear hA
  go_enter Try.func20, Try.ntmps20
  go_wp2
  go_loopw [0, 3] (fun sk vo wr => ∃ (q : Nat) (D : List Nat), q ≤ 600 ∧ sk = .int .i64 q ∧ Hid (A = D ++ rsF q) ∧ wr.ownsRow w.heap.size 3 1 vo D.length (natsL D) ∧ Below w.heap.size w wr) (fun sk _ _ => (intOf sk).toNat)
  case atStart => exact ⟨k, [], h2, rfl, hidden (by rw [← HA.out]; rfl), World.ownsRow_nil _ _ _ _, Below.refl _ _⟩
  case round =>
    obtain ⟨q, D, hq, rfl, HD, hown, hbl⟩ := hrel
    have hsz := hbl.size
    have HDl : Hid (D.length ≤ 600) := hidden (by have := HLe.out; rw [HD.out, List.length_append] at this; omega)
    rcases Nat.eq_zero_or_pos q with rfl | h0
    · have HE : Hid (A = D) := hidden (by rw [HD.out, rsF_zero, List.append_nil])
      go_wp2
      go_ret
      exact ⟨_, rfl, by rw [HE.out]; exact hown, hbl⟩
    · obtain ⟨l, hl⟩ : ∃ l, D.length = l := ⟨_, rfl⟩
      have hDl := HDl.out
      rw [hl] at hown hDl
      have h0I : (0 : Int) < (q : Int) := by omega
      have HD2 : Hid (A = (D ++ [(q - 1) % 2]) ++ rsF ((q - 1) / 2)) := hidden (by rw [HD.out, rsF_pos h0]; simp)
      have HL2 : Hid ((D ++ [(q - 1) % 2]).length = l + 1) := hidden (by simp [hl])
      obtain ⟨p, hp⟩ : ∃ p, q - 1 = p := ⟨_, rfl⟩
      have hpI : (q : Int) - 1 = (p : Int) := by omega
      have hp6 : p < q ∧ p ≤ 600 := by omega
      rw [hp] at HD2 HL2
      obtain ⟨d, hd⟩ : ∃ d, p % 2 = d := ⟨_, rfl⟩
      obtain ⟨r, hr⟩ : ∃ r, p / 2 = r := ⟨_, rfl⟩
      rw [hd] at HD2 HL2
      rw [hr] at HD2
      have e1 : (p : Int) % 2 = (d : Int) := by omega
      have e2 : (p : Int) / 2 = (r : Int) := by omega
      have hrq : r < q ∧ r ≤ 600 := by omega
      clear hl hp hd hr
      go_wp2_with (at_builtin; refine wpList_append_own _ rfl _ _ 22 rfl w.heap.size 3 i0 (.int .i64 0) 1 8 Try.underlying22 hi hz0 hz1 hz2 rfl (by decide) _ _ _ rfl (hown.alloc _) ⟨wr.heap.size, 0, none⟩ 1 1 [.int .i64 (d : Int)] rfl rfl ?c1 ?c2 ?c3 ?c4 ?c5 ?_)
      case c1 => exact cell_one_new _ _ _
      case c2 => exact fun u hu => by simp at hu; subst hu; rfl
      case c3 => unfold maxLen; omega
      case c4 => omega
      case c5 => first | omega | (simp; omega)
      intro v5 w5 hown5 hgrow _
      have hb5 := bel_app hbl hsz hown hgrow
      have hown6 : w5.ownsRow w.heap.size 3 1 v5 (l + 1) (natsL (D ++ [d])) := by rw [natsL_snoc8]; exact hown5
      have HO5 : Hid (w5.ownsRow w.heap.size 3 1 v5 (D ++ [d]).length (natsL (D ++ [d]))) := hidden (by rw [HL2.out]; exact hown6)
      clear hown hown5 hown6 hgrow hbl
      go_wp2
      go_roundw
      case rel => exact ⟨r, D ++ [d], hrq.2, by first | rfl | go_num, HD2, HO5.out, hb5⟩
      case measure => simp [intOf]; omega
set_option maxHeartbeats 1000000 in
set_option maxRecDepth 100000 in
theorem implRunSyms_no (k : Int) (w : World) (h : ¬ (1 ≤ k ∧ k ≤ 600)) :
    Calls Try.prog 20 #[.int .i64 k] w fun e w' => e = .returned (.slice none 0 0) ∧ w = w' := by
  by_cases h1 : k < 1
  · go_enter Try.func20, Try.ntmps20
    go_wp2
    go_ret
    exact ⟨rfl, rfl⟩
  · have h2 : (600 : Int) < k := by omega
    go_enter Try.func20, Try.ntmps20
    go_wp2
    go_ret
    exact ⟨rfl, rfl⟩
theorem implRunSyms_any (k : Int) (w : World) :
    Calls Try.prog 20 #[.int .i64 k] w fun e w' => ∃ v, e = .returned v ∧ w'.ownsRow w.heap.size 3 1 v (rsZ k).length (intsV (rsZ k)) ∧ Below w.heap.size w w' := by
  by_cases h : 1 ≤ k ∧ k ≤ 600
  · obtain ⟨q, rfl⟩ : ∃ q : Nat, k = q := ⟨k.toNat, by omega⟩
    rw [rsZ_yes (by omega) (by omega), intsV_ints, ints_len]
    exact implRunSyms_yes q w (by omega) (by omega)
  · rw [rsZ_no h]
    refine (implRunSyms_no k w h).mono ?_
    rintro e w' ⟨rfl, rfl⟩
    exact ⟨_, rfl, World.ownsRow_nil _ _ _ _, Below.refl _ _⟩
theorem vF_takeZ (z : List Int) (i : Nat) : vF ((z.take i).map Int.toNat) ≤ vF (z.map Int.toNat) := by rw [List.map_take]; exact vF_take _ _
theorem vF_next (z : List Int) (i : Nat) (h : i < z.length) : vF ((z.take (i + 1)).map Int.toNat) = vF ((z.take i).map Int.toNat) + ((z.getD i 0).toNat + 1) * 2 ^ i := by
  rw [List.take_succ_eq_append_getElem h, List.map_append]
  simp only [List.map_cons, List.map_nil]
  rw [vF_snoc]
  have e : z.getD i 0 = z[i] := by simp [List.getD_eq_getElem?_getD, h]
  rw [e, List.length_map, List.length_take, Nat.min_eq_left (by omega)]
theorem rl_bad9 {z : List Int} {x : Int} (hx : x ∈ z) (h : ¬ (x = 0 ∨ x = 1)) : rlZ z = -1 := rlZ_no (fun h2 => h (((rlOk_iff z).1 h2).2.1 x hx))
set_option maxHeartbeats 1000000 in
set_option maxRecDepth 100000 in
theorem implRunLen_any (a : Option Addr) (cap B : Nat) (z : List Int) (w : World) (hz : Ints w B a z) (hl : z.length ≤ 1048576) :
    Calls Try.prog 22 #[.slice a z.length cap] w fun e w' => e = .returned (.int .i64 (rlZ z)) ∧ w = w' := by
  by_cases h0 : z.length = 0
  · have HF : Hid (rlZ z = -1) := hidden (rlZ_no (fun h2 => ((rlOk_iff z).1 h2).1 (List.length_eq_zero_iff.1 h0)))
    rw [h0]
    clear hz h0
    go_enter Try.func22, Try.ntmps22
    go_wp2
    go_ret
    exact ⟨by rw [HF.out]; rfl, rfl⟩
  have HNX := hidden (fun i h => vF_next z i h)
  have HTK := hidden (vF_takeZ z)
  obtain ⟨b, off, rfl, hb, hc⟩ := hz.2.2 (by omega)
  have HC := hidden hc
  have HMEM : Hid (∀ j, j < z.length → z.getD j 0 ∈ z) := hidden (fun j h => getD_mem h)
  have HTS : Hid (∀ i, i < z.length → z.take (i + 1) = z.take i ++ [z.getD i 0]) := hidden (fun i h => by rw [List.take_succ_eq_append_getElem h]; simp [List.getD_eq_getElem?_getD, h])
  have HNE : Hid (z ≠ []) := hidden (fun e => h0 (by rw [e]; rfl))
  obtain ⟨n, hn⟩ : ∃ n, z.length = n := ⟨_, rfl⟩
  have HN := hidden hn
  rw [hn] at h0 hl HNX HC HMEM HTS ⊢
  have hb0 : ¬ (n : Int) = 0 := by omega
  clear hz hn hc
  go_enter Try.func22, Try.ntmps22
  go_wp2
  go_loopw [3, 4, 6, 12] (fun sv sg _ si wr => ∃ (i v g : Nat), i ≤ n ∧ si = .int .i64 i ∧ sv = .int .i64 v ∧ sg = .int .i64 g ∧ v ≤ 600 ∧ g ≤ 601 ∧ Hid (g = 2 ^ i) ∧ Hid (v = vF ((z.take i).map Int.toNat)) ∧ Hid (∀ x ∈ z.take i, x = 0 ∨ x = 1) ∧ w = wr) (fun _ _ _ si _ => n - (intOf si).toNat)
  case atStart => exact ⟨0, 0, 1, by omega, rfl, rfl, rfl, by omega, by omega, hidden rfl, hidden rfl, hidden (fun x hx => by simp at hx), by first | trivial | rfl⟩
  case round =>
    obtain ⟨i, v, g, hin, rfl, rfl, rfl, hv, hg, HG, HV, HA, rfl⟩ := hrel
    by_cases hlt : i < n
    · have hiI : (i : Int) < (n : Int) := by omega
      have ck := HC.out i hlt
      have HM := hidden (HMEM.out i hlt)
      have HS := hidden (HNX.out i hlt)
      have HT := hidden (HTS.out i hlt)
      obtain ⟨x, hx⟩ : ∃ x, z.getD i 0 = x := ⟨_, rfl⟩
      rw [hx] at ck HM HS HT
      clear hx
      by_cases hx0 : x = 0
      · subst hx0
        have HV2 : Hid (v + g = vF ((z.take (i + 1)).map Int.toNat)) := hidden (by rw [HS.out, ← HV.out, ← HG.out]; simp)
        have HA2 : Hid (∀ x ∈ z.take (i + 1), x = 0 ∨ x = 1) := hidden (fun y hy => by
          rw [HT.out] at hy
          rcases List.mem_append.1 hy with hy | hy
          · exact HA.out y hy
          · rw [List.mem_singleton.1 hy]; exact .inl rfl)
        by_cases hbig : 600 < v + g
        · have hbI : (600 : Int) < (v : Int) + (g : Int) := by omega
          have HF : Hid (rlZ z = -1) := hidden (rlZ_no (fun h2 => by have h3 := ((rlOk_iff z).1 h2).2.2; have h4 := HTK.out (i + 1); rw [← HV2.out] at h4; omega))
          go_wp2
          go_ret
          exact ⟨by rw [HF.out]; rfl, rfl⟩
        · have hbI : ¬ (600 : Int) < (v : Int) + (g : Int) := by omega
          have HG2 : Hid (g * 2 = 2 ^ (i + 1)) := hidden (by rw [HG.out, Nat.pow_succ])
          have HG3 : Hid (g * 2 ≤ 601) := hidden (by
            have h4 := vF_pow ((z.take (i + 1)).map Int.toNat)
            rw [List.length_map, List.length_take, HN.out, Nat.min_eq_left (by omega), ← HV2.out] at h4
            have := HG2.out
            omega)
          have hg3 := HG3.out
          go_wp2
          go_roundw
          case rel => exact ⟨i + 1, v + g, g * 2, by omega, by go_num, by go_num, by go_num, by omega, hg3, HG2, HV2, HA2, by first | trivial | rfl⟩
          case measure => first | (simp [intOf]; done) | (simp [intOf]; omega)
      by_cases hx1 : x = 1
      · subst hx1
        have HV2 : Hid (v + 2 * g = vF ((z.take (i + 1)).map Int.toNat)) := hidden (by rw [HS.out, ← HV.out, ← HG.out]; simp)
        have HA2 : Hid (∀ x ∈ z.take (i + 1), x = 0 ∨ x = 1) := hidden (fun y hy => by
          rw [HT.out] at hy
          rcases List.mem_append.1 hy with hy | hy
          · exact HA.out y hy
          · rw [List.mem_singleton.1 hy]; exact .inr rfl)
        by_cases hbig : 600 < v + 2 * g
        · have hbI : (600 : Int) < (v : Int) + 2 * (g : Int) := by omega
          have HF : Hid (rlZ z = -1) := hidden (rlZ_no (fun h2 => by have h3 := ((rlOk_iff z).1 h2).2.2; have h4 := HTK.out (i + 1); rw [← HV2.out] at h4; omega))
          go_wp2
          go_ret
          exact ⟨by rw [HF.out]; rfl, rfl⟩
        · have hbI : ¬ (600 : Int) < (v : Int) + 2 * (g : Int) := by omega
          have HG2 : Hid (g * 2 = 2 ^ (i + 1)) := hidden (by rw [HG.out, Nat.pow_succ])
          have HG3 : Hid (g * 2 ≤ 601) := hidden (by
            have h4 := vF_pow ((z.take (i + 1)).map Int.toNat)
            rw [List.length_map, List.length_take, HN.out, Nat.min_eq_left (by omega), ← HV2.out] at h4
            have := HG2.out
            omega)
          have hg3 := HG3.out
          go_wp2
          go_roundw
          case rel => exact ⟨i + 1, v + 2 * g, g * 2, by omega, by go_num, by go_num, by go_num, by omega, hg3, HG2, HV2, HA2, by first | trivial | rfl⟩
          case measure => first | (simp [intOf]; done) | (simp [intOf]; omega)
      have HF : Hid (rlZ z = -1) := hidden (rl_bad9 HM.out (by omega))
      by_cases hxn : x < 0
      · go_wp2
        go_ret
        exact ⟨by rw [HF.out]; rfl, rfl⟩
      · have hx2 : (2 : Int) ≤ x := by omega
        go_wp2
        go_ret
        exact ⟨by rw [HF.out]; rfl, rfl⟩
    · have hie : i = n := by omega
      subst hie
      have HF : Hid (rlZ z = v) := hidden (by
        have h1 : z.take i = z := List.take_of_length_le (by rw [HN.out]; exact Nat.le_refl _)
        have h2 := HV.out
        have h3 := HA.out
        rw [h1] at h2 h3
        rw [h2]
        exact rlZ_yes ((rlOk_iff z).2 ⟨HNE.out, h3, by omega⟩))
      go_wp2
      go_ret
      exact ⟨by rw [HF.out]; rfl, rfl⟩
set_option maxHeartbeats 1000000 in
set_option maxRecDepth 100000 in
theorem runAtFront_any (a : Option Addr) (cap B : Nat) (z : List Int) (b : Int) (w : World) (hz : Ints w B a z) (hl : z.length ≤ 1048576) :
    Calls Try.prog 59 #[.slice a z.length cap, .int .i64 b] w fun e w' => e = .returned (.int .i64 (frZ b z)) ∧ w = w' := by
  have HZ := hidden hz
  have HDC := hidden (fun j h => dropZ_cons z j h)
  have HST : Hid (frZ b z = 0 + frZ b (z.drop 0)) := hidden (by rw [List.drop_zero, Nat.zero_add])
  have HEN : Hid (frZ b (z.drop z.length) = 0) := hidden (by rw [List.drop_length]; rfl)
  obtain ⟨A, hA⟩ : ∃ A, frZ b z = A := ⟨_, rfl⟩
  rw [hA] at HST ⊢
  obtain ⟨n, hn⟩ : ∃ n, z.length = n := ⟨_, rfl⟩
  have HN := hidden hn
  rw [hn] at hl HDC HEN ⊢
  clear hz hA hn
  go_enter Try.func59, Try.ntmps59
  go_wp2
  go_loopw [5, 6, 9] (fun _ _ si wr => ∃ i : Nat, i ≤ n ∧ si = .int .i64 i ∧ Hid (A = i + frZ b (z.drop i)) ∧ w = wr) (fun _ _ si _ => n - (intOf si).toNat)
  case atStart => exact ⟨0, by omega, rfl, HST, by first | trivial | rfl⟩
  case round =>
    obtain ⟨i, hin, rfl, HA, rfl⟩ := hrel
    by_cases hlt : i < n
    · have hiI : (i : Int) < (n : Int) := by omega
      obtain ⟨bl, off, rfl, hb, hc⟩ := HZ.out.2.2 (by rw [HN.out]; omega)
      have ck := hc i (by rw [HN.out]; exact hlt)
      have HD := hidden (HDC.out i hlt)
      obtain ⟨x, hx⟩ : ∃ x, z.getD i 0 = x := ⟨_, rfl⟩
      rw [hx] at ck HD
      clear hx hc
      by_cases hxb : x < b
      · have hxc : ¬ b ≤ x := by omega
        have HA2 : Hid (A = (i + 1) + frZ b (z.drop (i + 1))) := hidden (by rw [HA.out, HD.out, frZ, if_pos hxb]; omega)
        go_wp2
        go_roundw
        case rel => exact ⟨i + 1, by omega, by go_num, HA2, by first | trivial | rfl⟩
        case measure => first | (simp [intOf]; done) | (simp [intOf]; omega)
      · have hxc : b ≤ x := by omega
        have HF : Hid (A = i) := hidden (by rw [HA.out, HD.out, frZ, if_neg hxb, Nat.add_zero])
        go_wp2
        go_ret
        exact ⟨by rw [HF.out]; rfl, rfl⟩
    · have hie : i = n := by omega
      subst hie
      have HF : Hid (A = i) := hidden (by rw [HA.out, HEN.out, Nat.add_zero])
      go_wp2
      go_ret
      exact ⟨by rw [HF.out]; rfl, rfl⟩
end Go.Proofs.Ytpdicijoohahaaa
namespace Go.Proofs.Ytpdicijoohahaaa
set_option linter.unusedVariables false
set_option linter.unusedSimpArgs false
open Go.RowKit

theorem natsL_cell {w : World} {base g n c : Nat} {X : List Nat} (h : w.ownsRow base 3 1 (.slice (some ⟨g, 0, none⟩) n c) n (natsL X)) (k : Nat) (hk : k < n) (hX : X.length = n) : w.cell? ⟨g, k, none⟩ = some (.int .i64 ((X.getD k 0 : Nat) : Int)) := by
  have := h.cellAt k (by omega)
  rwa [natsL_nats, hX, nats_get _ _ _ hk] at this
theorem natsL_set (X : List Nat) (k x : Nat) : (natsL X).set k (.int .i64 (x : Int)) = natsL (X.set k x) := by simp [natsL, List.map_set]
end Go.Proofs.Ytpdicijoohahaaa
namespace Go.Proofs.Ytpdicijoohahaaa
set_option linter.unusedVariables false
set_option linter.unusedSimpArgs false
open Go.RowKit

set_option maxHeartbeats 1000000 in
set_option maxRecDepth 100000 in
theorem l8total_any (a : Option Addr) (cap B : Nat) (z : List Int) (w : World) (hz : Ints w B a z) (hl : z.length ≤ 1048576) :
    Calls Try.prog 44 #[.slice a z.length cap] w fun e w' => e = .returned (.int .i64 (totI (totF z 0))) ∧ w = w' := by
  have HD := hidden (fun k n (h : k < z.length) => totF_drop z k n h)
  have HEND : Hid (∀ n, totF (z.drop z.length) n = some n) := hidden (fun n => by rw [List.drop_length]; rfl)
  obtain ⟨m, hm⟩ : ∃ m, z.length = m := ⟨_, rfl⟩
  have HN := hidden hm
  have HZ := hidden hz
  rw [hm] at hl HD HEND ⊢
  clear hm hz
  go_enter Try.func44, Try.ntmps44
  go_wp2
  go_loopw [3, 4] (fun sn sk wr => ∃ k n : Nat, k ≤ m ∧ n ≤ 600 ∧ sn = .int .i64 n ∧ sk = .int .i64 k ∧ Hid (totF z 0 = totF (z.drop k) n) ∧ w = wr) (fun _ sk _ => m - (intOf sk).toNat)
  case atStart => exact ⟨0, 0, by omega, by omega, rfl, rfl, hidden rfl, by first | trivial | rfl⟩
  case round =>
    obtain ⟨k, n, hk, hn, rfl, rfl, HA, rfl⟩ := hrel
    by_cases hlt : k < m
    · obtain ⟨b, off, rfl, hb, hc⟩ := HZ.out.2.2 (by rw [HN.out]; omega)
      have ck := hc k (by rw [HN.out]; exact hlt)
      have HS := hidden (HD.out k n hlt)
      obtain ⟨x, hx⟩ : ∃ x, z.getD k 0 = x := ⟨_, rfl⟩
      rw [hx] at ck HS
      clear hx hc
      by_cases hx0 : x < 0
      · have HF : Hid (totI (totF z 0) = -1) := hidden (by rw [HA.out, HS.out, if_pos (.inl hx0)]; rfl)
        go_wp2
        go_ret
        exact ⟨by rw [HF.out]; rfl, rfl⟩
      · by_cases hxn : 600 - (n : Int) < x
        · have HF : Hid (totI (totF z 0) = -1) := hidden (by rw [HA.out, HS.out, if_pos (.inr hxn)]; rfl)
          go_wp2
          go_ret
          exact ⟨by rw [HF.out]; rfl, rfl⟩
        · have HA2 : Hid (totF z 0 = totF (z.drop (k + 1)) (n + x.toNat)) := hidden (by rw [HA.out, HS.out, if_neg (by omega)])
          go_wp2
          go_roundw
          case rel => exact ⟨k + 1, n + x.toNat, by omega, by omega, by go_num, by go_num, HA2, by first | trivial | rfl⟩
          case measure => simp [intOf]; omega
    · have hkm : k = m := by omega
      subst hkm
      have HF : Hid (totI (totF z 0) = (n : Int)) := hidden (by rw [HA.out, HEND.out]; rfl)
      go_wp2
      go_ret
      exact ⟨by rw [HF.out]; rfl, rfl⟩
end Go.Proofs.Ytpdicijoohahaaa
namespace Go.Proofs.Ytpdicijoohahaaa
set_option linter.unusedVariables false
set_option linter.unusedSimpArgs false
open Go.RowKit

theorem natsL_setN (O : List Nat) (t x : Nat) : (natsL O).set t (.int .i64 (x : Int)) = natsL (O.set t x) := by simp [natsL, List.map_set]
theorem natsL_at (O : List Nat) (t : Nat) (h : t < O.length) : (natsL O)[t]? = some (.int .i64 ((O.getD t 0 : Nat) : Int)) := by
  rw [natsL_get O t h]
  simp [List.getD_eq_getElem?_getD, h]
set_option maxHeartbeats 4000000 in
set_option maxRecDepth 100000 in
theorem specUnInv_go (b0 off0 cap0 b1 off1 cap1 B m : Nat) (a1 : Option Addr) (cs : List Nat) (gz : List Int) (w : World) (hz0 : Ints w B (some ⟨b0, off0, none⟩) (ints cs)) (hz1 : Ints w B a1 gz) (hB : B ≤ w.heap.size) (hm : cs.length = m) (hm1 : 1 ≤ m) (hm2 : m ≤ 256) (hs6 : cs.sum ≤ 600) (hgl : gz.length + last8 cs = cs.sum) (hsz : szOk (ints cs) gz.length m = true) (htot : totF (ints cs) 0 = some cs.sum) :
    Calls Try.prog 13 #[.slice (some ⟨b0, off0, none⟩) m cap0, .slice a1 gz.length cap1, .int .i64 m] w fun e w' => ∃ v, e = .returned (.tuple #[v, .bool (uiOk (ints cs) gz m)]) ∧ w'.ownsRow w.heap.size 3 1 v (uiL (ints cs) gz m).length (intsV (uiL (ints cs) gz m)) ∧ Below w.heap.size w w' := by
  obtain ⟨i0, hi, hj0, hj1, hj2⟩ := info_parts Try.infoInt
  have hne : cs ≠ [] := fun e => by subst e; simp at hm; omega
  have KT := hidden (l8total_any (some ⟨b0, off0, none⟩) cap0 B (ints cs) w hz0 (by rw [ints_len]; omega))
  rw [htot, ints_len, hm] at KT
  obtain ⟨b', off', e, hb0, hc0⟩ := hz0.2.2 (by rw [ints_len]; omega)
  obtain ⟨rfl, rfl⟩ : b0 = b' ∧ off0 = off' := by simpa using e
  have HC0 : Hid (∀ W, Below w.heap.size w W → ∀ i, i < m → W.cell? ⟨b0, off0 + i, none⟩ = some (.int .i64 ((cs.getD i 0 : Nat) : Int))) := hidden (fun W hW i hi => by
    have := hc0 i (by rw [ints_len]; omega)
    rw [ints_get] at this
    exact (hW.cell (p := ⟨b0, off0 + i, none⟩) (by simp; omega)).trans this)
  have HZ1 := hidden hz1
  have HST : Hid (uiA (ints cs) gz m = modR 0 cs gz (List.replicate cs.sum (m - 1))) := hidden (by rw [uiA_yes hsz, ← hm, modR_zero hne hgl])
  have HAT := hidden (fun x g O h => modR_at (cs := cs) (gz := gz) (x := x) (g := g) (O := O) h)
  have HLA := hidden (fun gs x O h => modR_last (cs := cs) (gs := gs) (x := x) (O := O) h)
  have HOF := hidden (fun k h => off8_le cs k h)
  have HOS := hidden (fun k h => off8_succ cs k h)
  have HO0 : Hid (off8 cs 0 = 0) := hidden (by simp [off8])
  have HCB : Hid (∀ i, cs.getD i 0 ≤ 600) := hidden (fun i => by
    rcases Nat.lt_or_ge i cs.length with h | h
    · have := mem_le_sum8 cs _ (getD_mem7 cs i h); omega
    · simp [List.getD_eq_getElem?_getD, h])
  have HGR := hidden hz1.2.1
  have cp := HC0.out w (Below.refl _ _) (m - 1) (by omega)
  have hl8 : cs.getD (m - 1) 0 = last8 cs := by rw [← hm]; rfl
  rw [hl8] at cp
  rw [hm] at HAT HLA HOF HOS
  obtain ⟨l, hl⟩ : ∃ l, last8 cs = l := ⟨_, rfl⟩
  obtain ⟨S, hS⟩ : ∃ S, cs.sum = S := ⟨_, rfl⟩
  obtain ⟨G, hG⟩ : ∃ G, gz.length = G := ⟨_, rfl⟩
  have HG := hidden hG
  obtain ⟨T, hT⟩ : ∃ T, uiA (ints cs) gz m = T := ⟨_, rfl⟩
  have HT := hidden hT
  rw [hT] at HST
  rw [hl] at cp hgl HOF
  rw [hS] at hgl hs6 KT HST HOF
  rw [hG] at hgl ⊢
  obtain ⟨p, hp0⟩ : ∃ p, m = p + 1 := ⟨m - 1, by omega⟩
  have hp : (m : Int) - 1 = (p : Int) := by omega
  have hp2 : m - 1 = p := by omega
  rw [hp2] at cp HST
  have hp3 : (p : Int) < (m : Int) := by omega
  have hd1 : (S : Int) - (l : Int) = (G : Int) := by omega
  have HP := hidden hp0
  clear hz0 hz1 hc0 e hsz htot hne hT hG hS hl hl8 hp0 hm hp2
  go_enter Try.func13, Try.ntmps13
  go_wp2_with fail
  refine KT.out.mono ?_
  rintro e w1 ⟨rfl, rfl⟩
  simp only [totI]
  go_wp2_with (at_make; refine wpList_make_full _ rfl _ _ 22 rfl w.heap.size 3 i0 (.int .i64 0) 1 Try.underlying22 hi hj0 hj1 .i64 .i64 _ _ S rfl rfl rfl rfl ?cb1 ?cb2 ?cb3 ?_)
  case cb1 => rw [hj2]; omega
  case cb2 => unfold maxLen; omega
  case cb3 => exact Nat.le_refl _
  intro w2 hown hgrow
  have hbl := bel_made hgrow
  rw [made_nats] at hown
  clear hgrow cp
  obtain ⟨g, hg⟩ : ∃ g, w.heap.size = g := ⟨_, rfl⟩
  have hgw : w.heap.size ≤ g := by omega
  rw [hg] at hown ⊢
  have hown0 : w2.ownsRow g 3 1 (.slice (some ⟨g, 0, none⟩) S S) S (nats S (fun _ => 0)) := hown
  go_wp2
  go_loopw [10] (fun si wr => ∃ (i : Nat) (f : Nat → Nat), i ≤ S ∧ si = .int .i64 i ∧ Hid (∀ j, j < i → f j = p) ∧ wr.ownsRow g 3 1 (.slice (some ⟨g, 0, none⟩) S S) S (nats S f) ∧ Below g w wr) (fun si _ => S - (intOf si).toNat)
  case atStart => exact ⟨0, fun _ => 0, by omega, rfl, hidden (fun j hj => by omega), hown0, by rw [← hg]; exact hbl⟩
  case round =>
    obtain ⟨i, f, hi1, rfl, HF, hO, hb⟩ := hrel
    clear hown hown0 hbl
    by_cases hlt : i < S
    · have hiI : (i : Int) < (S : Int) := by omega
      have d0 := hO.cellAt i (by omega)
      rw [nats_get _ _ _ hlt] at d0
      have f0 := hO.frozenAt i
      have HF2 : Hid (∀ j, j < i + 1 → (if j = i then p else f j) = p) := hidden (fun j hj => by
        split
        · rfl
        · exact HF.out j (by omega))
      go_wp2
      go_roundw
      case rel => exact ⟨i + 1, fun t => if t = i then p else f t, by omega, by go_num, HF2, by rw [← nats_set]; exact (hO.stored i _).1, hb.setCell (Nat.le_refl _) _⟩
      case measure => simp [intOf]; omega
    · have hiS : i = S := by omega
      subst hiS
      have HE : Hid (nats i f = natsL (List.replicate i p)) := hidden (by
        rw [natsL_nats, List.length_replicate]
        exact nats_congr fun s hs => by rw [HF.out s hs]; simp [List.getD_eq_getElem?_getD, hs])
      rw [HE.out] at hO
      have HOl : Hid ((List.replicate i p).length = i) := hidden (by simp)
      have hlt9 : ¬ (i : Int) < (i : Int) := by omega
      clear HE HF f
      go_wp2
      go_loopw [11, 12, 13, 14, 15] (fun sg sx _ _ _ wr => ∃ (x g0 : Nat) (O : List Nat), x ≤ p ∧ sx = .int .i64 x ∧ sg = .int .i64 g0 ∧ Hid (g0 = off8 cs x) ∧ Hid (O.length = i) ∧ Hid (T = modR x (cs.drop x) (gz.drop g0) O) ∧ wr.ownsRow g 3 1 (.slice (some ⟨g, 0, none⟩) i i) i (natsL O) ∧ Below g w wr) (fun _ sx _ _ _ _ => p - (intOf sx).toNat)
      case atStart => exact ⟨0, 0, List.replicate i p, by omega, rfl, rfl, hidden HO0.out.symm, HOl, hidden (by rw [HST.out, List.drop_zero, List.drop_zero]), hO, hb⟩
      case round =>
        obtain ⟨x, g0, O, hx, rfl, rfl, HG0, HOL, HTR, hO2, hb2⟩ := hrel
        clear hO hb
        by_cases hxp : x < p
        · have hxI : (x : Int) < (p : Int) := by omega
          have HB2 := hidden hb2
          have cx := HC0.out wr (by rw [hg]; exact hb2) x (by omega)
          have HC9 : Hid (cs.getD x 0 ≤ 600) := hidden (HCB.out x)
          have HOS9 : Hid (off8 cs (x + 1) = off8 cs x + cs.getD x 0) := hidden (HOS.out x (by omega))
          have HOF9 := hidden (HOF.out (x + 1) (by have := HP.out; omega))
          have HTR2 : Hid (T = mT x O 0 ((gz.drop g0).take (cs.getD x 0)) (modR (x + 1) (cs.drop (x + 1)) (gz.drop (g0 + cs.getD x 0)))) := hidden (by rw [HTR.out, HAT.out x g0 O (by have := HP.out; omega)])
          have HC0x : Hid (∀ W, Below g w W → W.cell? ⟨b0, off0 + x, none⟩ = some (.int .i64 ((cs.getD x 0 : Nat) : Int))) := hidden (fun W hW => HC0.out W (by rw [hg]; exact hW) x (by omega))
          obtain ⟨c, hc⟩ : ∃ c, cs.getD x 0 = c := ⟨_, rfl⟩
          rw [hc] at cx HC9 HOS9 HTR2 HC0x
          have hc6 := HC9.out
          have hgc : g0 + c ≤ G := by have := HOF9.out; have := HOS9.out; have := HG0.out; omega
          obtain ⟨N, hN⟩ : ∃ N, modR (x + 1) (cs.drop (x + 1)) (gz.drop (g0 + c)) = N := ⟨_, rfl⟩
          have HN := hidden hN
          rw [hN] at HTR2
          clear hc hN HTR cx
          go_wp2
          go_loopw [11, 13, 14, 15] (fun sg st sk _ wr => ∃ (k t : Nat) (O : List Nat), k ≤ c ∧ t ≤ i ∧ sk = .int .i64 k ∧ sg = .int .i64 ((g0 + k : Nat) : Int) ∧ st = .int .i64 t ∧ Hid (O.length = i) ∧ Hid (T = mT x O t ((gz.drop (g0 + k)).take (c - k)) N) ∧ wr.ownsRow g 3 1 (.slice (some ⟨g, 0, none⟩) i i) i (natsL O) ∧ Below g w wr) (fun _ _ sk _ _ => c - (intOf sk).toNat)
          case atStart => exact ⟨0, 0, O, by omega, by omega, rfl, rfl, rfl, HOL, hidden (by rw [HTR2.out]; rfl), hO2, hb2⟩
          case round =>
            obtain ⟨k, t, O3, hk, ht, rfl, hsg, rfl, HOL3, HT3, hO3, hb3⟩ := hrel
            rw [Int.natCast_add] at hsg
            subst hsg
            clear hO2 hb2 HB2
            have cx := HC0x.out wr hb3
            by_cases hkc : k < c
            · have hkI : (k : Int) < (c : Int) := by omega
              obtain ⟨bg, og, rfl, hbg, hcg⟩ := HZ1.out.2.2 (by rw [HG.out]; omega)
              have cg : wr.cell? ⟨bg, og + (g0 + k), none⟩ = some (.int .i64 (gz.getD (g0 + k) 0)) := (hb3.cell (p := ⟨bg, og + (g0 + k), none⟩) (by simp; omega)).trans (hcg (g0 + k) (by rw [HG.out]; omega))
              have hyr := HGR.out _ (getD_mem (zs := gz) (k := g0 + k) (by rw [HG.out]; omega))
              have HT4 : Hid (T = mT x O3 t (gz.getD (g0 + k) 0 :: (gz.drop (g0 + k + 1)).take (c - k - 1)) N) := hidden (by rw [HT3.out, gapZ_cons gz (g0 + k) (c - k) (by rw [HG.out]; omega) (by omega)])
              obtain ⟨y, hy⟩ : ∃ y, gz.getD (g0 + k) 0 = y := ⟨_, rfl⟩
              rw [hy] at cg hyr HT4
              have hgI : (g0 : Int) + (k : Int) < (G : Int) := by omega
              have hgn : (((g0 : Int) + (k : Int)).toNat) = g0 + k := by omega
              clear hy hcg HT3
              go_wp2
              go_loopw [13, 15] (fun st ss wr => ∃ (t : Nat) (s : Int), t ≤ i ∧ st = .int .i64 t ∧ ss = .int .i64 s ∧ -9223372036854775808 ≤ s ∧ s ≤ 9223372036854775807 ∧ Hid (T = mT x O3 t (s :: (gz.drop (g0 + k + 1)).take (c - k - 1)) N) ∧ wr.ownsRow g 3 1 (.slice (some ⟨g, 0, none⟩) i i) i (natsL O3) ∧ Below g w wr) (fun st _ _ => i - (intOf st).toNat)
              case atStart => exact ⟨t, y, ht, rfl, rfl, hyr.1, hyr.2, HT4, hO3, hb3⟩
              case round =>
                obtain ⟨t, s, ht, rfl, rfl, hs1, hs2, HT5, hO4, hb4⟩ := hrel
                clear hO3 hb3 cg hyr HT4 cx
                by_cases hti : t < i
                · have htI : (t : Int) < (i : Int) := by omega
                  have d0 := hO4.cellAt t (by omega)
                  rw [natsL_at _ _ (by rw [HOL3.out]; exact hti)] at d0
                  have f0 := hO4.frozenAt t
                  have HPS := hidden (fun h => mT_pass (x := x) (O := O3) (t := t) (s := s) (gs := (gz.drop (g0 + k + 1)).take (c - k - 1)) (N := N) (by rw [HOL3.out]; exact hti) h)
                  have HSK := hidden (fun h h2 => mT_skip (x := x) (O := O3) (t := t) (s := s) (gs := (gz.drop (g0 + k + 1)).take (c - k - 1)) (N := N) (by rw [HOL3.out]; exact hti) h h2)
                  have HBD := hidden (fun h h2 => mT_bad (x := x) (O := O3) (t := t) (s := s) (gs := (gz.drop (g0 + k + 1)).take (c - k - 1)) (N := N) (by rw [HOL3.out]; exact hti) h h2)
                  have HHE := hidden (fun h => mT_here (x := x) (O := O3) (t := t) (gs := (gz.drop (g0 + k + 1)).take (c - k - 1)) (N := N) (by rw [HOL3.out]; exact hti) h)
                  obtain ⟨o, ho⟩ : ∃ o, O3.getD t 0 = o := ⟨_, rfl⟩
                  rw [ho] at d0 HPS HSK HBD HHE
                  clear ho
                  by_cases hox : o < x
                  · have hoI : (o : Int) < (x : Int) := by omega
                    have hoJ : ¬ (x : Int) ≤ (o : Int) := by omega
                    have HT6 : Hid (T = mT x O3 (t + 1) (s :: (gz.drop (g0 + k + 1)).take (c - k - 1)) N) := hidden (by rw [HT5.out, HPS.out hox])
                    go_wp2
                    go_roundw
                    case rel => exact ⟨t + 1, s, by omega, by go_num, rfl, hs1, hs2, HT6, hO4, hb4⟩
                    case measure => simp [intOf]; omega
                  · have hoI : ¬ (o : Int) < (x : Int) := by omega
                    have hoJ : (x : Int) ≤ (o : Int) := by omega
                    by_cases hs0 : 0 < s
                    · have HT6 : Hid (T = mT x O3 (t + 1) ((s - 1) :: (gz.drop (g0 + k + 1)).take (c - k - 1)) N) := hidden (by rw [HT5.out, HSK.out (by omega) hs0])
                      go_wp2
                      go_roundw
                      case rel => exact ⟨t + 1, s - 1, by omega, by go_num, by go_num, by omega, by omega, HT6, hO4, hb4⟩
                      case measure => simp [intOf]; omega
                    · by_cases hsn : s = 0
                      · subst hsn
                        have HT6 : Hid (T = mT x (O3.set t x) (t + 1) ((gz.drop (g0 + (k + 1))).take (c - (k + 1))) N) := hidden (by rw [HT5.out, HHE.out (by omega)]; rfl)
                        have HOL4 : Hid ((O3.set t x).length = i) := hidden (by rw [List.length_set, HOL3.out])
                        have htne : ¬ (t : Int) = (i : Int) := by omega
                        have hbne : ((t : Int) == (i : Int)) = false := by rw [beq_eq_false_iff_ne]; exact htne
                        have hO5 := (hO4.stored t (.int .i64 (x : Int))).1
                        rw [natsL_setN] at hO5
                        have hb5 := hb4.setCell (p := ⟨g, t, none⟩) (Nat.le_refl _) (.int .i64 (x : Int))
                        clear hb4 HT5
                        go_wp2
                        go_roundw
                        case rel => exact ⟨k + 1, t + 1, O3.set t x, by omega, by omega, by go_num, by go_num, by go_num, HOL4, HT6, hO5, hb5⟩
                        case measure => simp [intOf]; omega
                      · have HF : Hid (T = none) := hidden (by rw [HT5.out, HBD.out (by omega) (by omega)])
                        have hbs : (s != (0 : Int)) = true := by simpa using hsn
                        go_wp2
                        go_ret2
                        exact ⟨_, by rw [(ui_none (HT.out.trans HF.out)).1]; rfl, by rw [(ui_none (HT.out.trans HF.out)).2]; exact World.ownsRow_nil _ _ _ _, hb4⟩
                · have hti2 : t = i := by omega
                  have HF : Hid (T = none) := hidden (by rw [HT5.out, mT_end (by rw [HOL3.out]; omega)])
                  have htI : ¬ (t : Int) < (i : Int) := by omega
                  have hbt : ((t : Int) == (i : Int)) = true := by rw [hti2]; simp
                  by_cases hsn : s = 0
                  · have hbs : (s != (0 : Int)) = false := by simpa using hsn
                    go_wp2
                    go_ret2
                    exact ⟨_, by rw [(ui_none (HT.out.trans HF.out)).1]; rfl, by rw [(ui_none (HT.out.trans HF.out)).2]; exact World.ownsRow_nil _ _ _ _, hb4⟩
                  · have hbs : (s != (0 : Int)) = true := by simpa using hsn
                    go_wp2
                    go_ret2
                    exact ⟨_, by rw [(ui_none (HT.out.trans HF.out)).1]; rfl, by rw [(ui_none (HT.out.trans HF.out)).2]; exact World.ownsRow_nil _ _ _ _, hb4⟩
            · have hkc2 : k = c := by omega
              have hkI : ¬ (k : Int) < (c : Int) := by omega
              have HT6 : Hid (T = modR (x + 1) (cs.drop (x + 1)) (gz.drop (g0 + k)) O3) := hidden (by rw [HT3.out, hkc2, Nat.sub_self, List.take_zero, mT_nil, ← HN.out])
              have HG1 : Hid (g0 + k = off8 cs (x + 1)) := hidden (by rw [hkc2, HOS9.out, HG0.out])
              go_wp2
              go_roundw
              case rel => exact ⟨x + 1, g0 + k, O3, by omega, by go_num, by go_num, HG1, HOL3, HT6, hO3, hb3⟩
              case measure => simp [intOf]; omega
        · have hxe : x = p := by omega
          have hxI : ¬ (x : Int) < (p : Int) := by omega
          have HF : Hid (T = some O) := hidden (by rw [HTR.out, HLA.out _ x O (by have := HP.out; omega)])
          go_wp2
          go_ret2
          exact ⟨_, by rw [(ui_some (HT.out.trans HF.out)).1]; rfl, by rw [(ui_some (HT.out.trans HF.out)).2, intsV_ints, ints_len, HOL.out]; exact hO2, hb2⟩
end Go.Proofs.Ytpdicijoohahaaa
namespace Go.Proofs.Ytpdicijoohahaaa
set_option linter.unusedVariables false
set_option linter.unusedSimpArgs false
open Go.RowKit

set_option maxHeartbeats 2000000 in
set_option maxRecDepth 100000 in
theorem specUnInv_no (a0 a1 : Option Addr) (cap0 cap1 B : Nat) (z gz : List Int) (n : Int) (w : World) (hz0 : Ints w B a0 z) (hl0 : z.length ≤ 1048576) (hl1 : gz.length ≤ 1048576) (n1 : -9223372036854775808 ≤ n) (n2 : n ≤ 9223372036854775807) (hsz : szOk z gz.length n = false) :
    Calls Try.prog 13 #[.slice a0 z.length cap0, .slice a1 gz.length cap1, .int .i64 n] w fun e w' => e = .returned (.tuple #[.slice none 0 0, .bool false]) ∧ w = w' := by
  by_cases h1 : n < 1
  · clear hsz hz0
    go_enter Try.func13, Try.ntmps13
    go_wp2
    go_ret2
    exact ⟨rfl, rfl⟩
  by_cases h2 : (256 : Int) < n
  · clear hsz hz0
    go_enter Try.func13, Try.ntmps13
    go_wp2
    go_ret2
    exact ⟨rfl, rfl⟩
  by_cases h3 : (z.length : Int) = n
  · have KT := hidden (l8total_any a0 cap0 B z w hz0 hl0)
    obtain ⟨b, off, rfl, hb, hc⟩ := hz0.2.2 (by omega)
    have cp := hc (z.length - 1) (by omega)
    have hno : ¬ (0 ≤ totI (totF z 0) ∧ (gz.length : Int) = totI (totF z 0) - z.getD (z.length - 1) 0) := fun h => by
      have := (szOk_iff z gz.length n).2 ⟨by omega, by omega, h3, h.1, h.2⟩
      rw [this] at hsz; cases hsz
    have hrg : 0 ≤ totI (totF z 0) → 0 ≤ z.getD (z.length - 1) 0 ∧ z.getD (z.length - 1) 0 ≤ 600 ∧ totI (totF z 0) ≤ 600 := fun h => by
      cases ht : totF z 0 with
      | none => rw [ht] at h; simp [totI] at h
      | some t =>
        have := totF_some ht _ (getD_mem (zs := z) (k := z.length - 1) (by omega))
        have h5 := (totF_sum (by omega) ht).2.1
        simp only [totI]
        omega
    obtain ⟨y, hy⟩ : ∃ y, z.getD (z.length - 1) 0 = y := ⟨_, rfl⟩
    obtain ⟨t, ht⟩ : ∃ t, totI (totF z 0) = t := ⟨_, rfl⟩
    obtain ⟨G, hG⟩ : ∃ G, gz.length = G := ⟨_, rfl⟩
    obtain ⟨m, hm⟩ : ∃ m, z.length = m := ⟨_, rfl⟩
    rw [hy] at cp hno hrg
    rw [ht] at hno hrg KT
    rw [hG] at hno hl1 ⊢
    rw [hm] at cp h3 hl0 KT ⊢
    subst h3
    obtain ⟨p, hp⟩ : ∃ p : Nat, (m : Int) - 1 = (p : Int) := ⟨m - 1, by omega⟩
    have hp2 : m - 1 = p := by omega
    rw [hp2] at cp
    have hp3 : (p : Int) < (m : Int) := by omega
    clear hsz hz0 hc hy ht hG hm hp2
    by_cases ht0 : t < 0
    · clear hno hrg
      go_enter Try.func13, Try.ntmps13
      go_wp2_with fail
      refine KT.out.mono ?_
      rintro e w1 ⟨rfl, rfl⟩
      go_wp2
      go_ret2
      exact ⟨rfl, rfl⟩
    · obtain ⟨r1, r2, r3⟩ := hrg (by omega)
      have hne : (G : Int) ≠ t - y := fun h => hno ⟨by omega, h⟩
      have hbn : ((G : Int) != t - y) = true := by simpa using hne
      clear hno
      go_enter Try.func13, Try.ntmps13
      go_wp2_with fail
      refine KT.out.mono ?_
      rintro e w1 ⟨rfl, rfl⟩
      go_wp2
      go_ret2
      exact ⟨rfl, rfl⟩
  · obtain ⟨m, hm⟩ : ∃ m, z.length = m := ⟨_, rfl⟩
    rw [hm] at h3 hl0 ⊢
    have hbn : ((m : Int) != n) = true := by simpa using h3
    clear hsz hz0 hm
    go_enter Try.func13, Try.ntmps13
    go_wp2
    go_ret2
    exact ⟨rfl, rfl⟩
theorem specUnInv_any (a0 a1 : Option Addr) (cap0 cap1 B : Nat) (z gz : List Int) (n : Int) (w : World) (hz0 : Ints w B a0 z) (hz1 : Ints w B a1 gz) (hB : B ≤ w.heap.size) (hl0 : z.length ≤ 1048576) (hl1 : gz.length ≤ 1048576) (n1 : -9223372036854775808 ≤ n) (n2 : n ≤ 9223372036854775807) :
    Calls Try.prog 13 #[.slice a0 z.length cap0, .slice a1 gz.length cap1, .int .i64 n] w fun e w' => ∃ v, e = .returned (.tuple #[v, .bool (uiOk z gz n)]) ∧ w'.ownsRow w.heap.size 3 1 v (uiL z gz n).length (intsV (uiL z gz n)) ∧ Below w.heap.size w w' := by
  by_cases h : szOk z gz.length n = true
  · obtain ⟨cs, m, rfl, rfl, e1, e2, e3, e4, e5, e6⟩ := szOk_nats h
    obtain ⟨b, off, rfl, hb, hc⟩ := hz0.2.2 (by rw [ints_len]; omega)
    have := specUnInv_go b off cap0 0 0 cap1 B m a1 cs gz w hz0 hz1 hB e1 e2 e3 e4 e5 h e6
    rw [ints_len, e1]
    exact this
  · have hno := bool_false h
    have hu := ui_none (uiA_no hno)
    refine (specUnInv_no a0 a1 cap0 cap1 B z gz n w hz0 hl0 hl1 n1 n2 hno).mono ?_
    rintro e w' ⟨rfl, rfl⟩
    exact ⟨_, by rw [hu.1], by rw [hu.2]; exact World.ownsRow_nil _ _ _ _, Below.refl _ _⟩
end Go.Proofs.Ytpdicijoohahaaa
