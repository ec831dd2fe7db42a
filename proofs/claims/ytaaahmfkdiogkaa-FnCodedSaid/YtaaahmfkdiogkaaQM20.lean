/- Merged: C7F, C7G, C7J, C8, C8M, I8L, I8F, I8G, I12M. -/
import Derived.Test.YtaaahmfkdiogkaaQM15
import Derived.Test.YtaaahmfkdiogkaaQM10
import Derived.Test.YtaaahmfkdiogkaaQM4
import Derived.Test.YtaaahmfkdiogkaaQM5
import Derived.Lib.SmallJoins
namespace Go.Proofs.Ytaaahmfkdiogkaa
set_option linter.unusedVariables false
set_option linter.unusedSimpArgs false
open Go.RowKit

theorem wide_bit (m k : Nat) (hm : m < 65536) : bits BinOp.and IntKind.i64 ((m : Int) / 2 ^ k) 1 = ((m / 2 ^ k % 2 : Nat) : Int) := by
  have h0 : m / 2 ^ k ≤ m := Nat.div_le_self _ _
  have := i64_and_nat (m / 2 ^ k) 1 (by omega) (by omega)
  rw [nat_mask1] at this
  rw [show ((m : Int) / 2 ^ k) = ((m / 2 ^ k : Nat) : Int) by simp, show (1 : Int) = ((1 : Nat) : Int) by rfl, this]
/-- What reading a set answers, the reader being in block b. -/
def L7UPost (s : ByteArray) (at0 b : Nat) (T : TypeId) (w : World) (e : Ending) (w' : World) : Prop :=
  ((∃ (u : List Nat) (q : Nat), getU s at0 = some (u, q) ∧ e = .returned (.string (strOf u)) ∧ Has w' b T #[.string s, .int .i64 (q : Int)]) ∨
   (getU s at0 = none ∧ e = .returned (.string ⟨#[]⟩))) ∧ Only b w w'
end Go.Proofs.Ytaaahmfkdiogkaa
namespace Go.Proofs.Ytaaahmfkdiogkaa
set_option linter.unusedVariables false
set_option linter.unusedSimpArgs false
open Go.RowKit

/-- What a reader of chapter 7 answers, G being what stands there. -/
def GG7 (s : ByteArray) (G : Option (List Nat × Nat)) (w : World) (e : Ending) (w' : World) : Prop :=
  ((∃ (u : List Nat) (q : Nat), G = some (u, q) ∧ e = .returned (.tuple #[.string (strOf u), .agg #[.string s, .int .i64 (q : Int)], .bool true])) ∨
   (G = none ∧ e = .returned (.tuple #[.string ⟨#[]⟩, .agg #[.string ⟨#[]⟩, .int .i64 0], .bool false]))) ∧ Below w.heap.size w w'
theorem str_nonempty {s : ByteArray} (h : 0 < s.size) : s.toList.isEmpty = false := by
  rw [Bool.eq_false_iff]
  intro e
  rw [List.isEmpty_iff, ByteArray.toList_eq] at e
  have h2 : s.data.toList.length = s.size := by simp
  rw [e] at h2
  simp at h2
  omega
theorem str_pos {D : List Nat} (h : D ≠ []) : 0 < (strOf D).size := by rw [strOf_size]; exact List.length_pos_iff.2 h
end Go.Proofs.Ytaaahmfkdiogkaa
namespace Go.Proofs.Ytaaahmfkdiogkaa
set_option linter.unusedVariables false
set_option linter.unusedSimpArgs false
open Go.RowKit

/-- Can S be told by an order O? -/
def rkOk (S O : List Nat) : Bool := decide (S.length ≤ 600 ∧ ordOk O = true ∧ ∀ b ∈ S, b ∈ O)
theorem rkOk_iff (S O : List Nat) : rkOk S O = true ↔ S.length ≤ 600 ∧ ordOk O = true ∧ ∀ b ∈ S, b ∈ O := by simp [rkOk]
def rkTo (S O : List Nat) (k : Nat) : List Int := (S.take k).map fun b => (O.idxOf b : Int)
/-- The ranks of S in O; nothing where they can't be told. -/
def rkL (S O : List Nat) : List Int := if rkOk S O = true then rkTo S O S.length else []
theorem rkTo_len (S O : List Nat) (k : Nat) (h : k ≤ S.length) : (rkTo S O k).length = k := by simp [rkTo]; omega
theorem rkTo_succ (S O : List Nat) (k : Nat) (h : k < S.length) : rkTo S O (k + 1) = rkTo S O k ++ [(O.idxOf (S.getD k 0) : Int)] := by
  unfold rkTo
  rw [List.take_succ_eq_append_getElem h, List.map_append]
  simp [List.getD_eq_getElem?_getD, h]
theorem intsV_snoc7 (D : List Int) (x : Int) : intsV (D ++ [x]) = intsV D ++ [.int .i64 x] := by simp [intsV]
theorem ret_pair {v : Value} {a b : Bool} (h : a = b) : Ending.returned (.tuple #[v, .bool a]) = .returned (.tuple #[v, .bool b]) := by rw [h]
theorem bool_false {b : Bool} (h : ¬ b = true) : b = false := by simpa using h
/-- Are these ranks in an order O? -/
def frOk (z : List Int) (O : List Nat) : Bool := decide (z.length ≤ 600 ∧ ordOk O = true ∧ ∀ x ∈ z, 0 ≤ x ∧ x < (O.length : Int))
theorem frOk_iff (z : List Int) (O : List Nat) : frOk z O = true ↔ z.length ≤ 600 ∧ ordOk O = true ∧ ∀ x ∈ z, 0 ≤ x ∧ x < (O.length : Int) := by simp [frOk]
def frTo (z : List Int) (O : List Nat) (k : Nat) : List Nat := (z.take k).map fun x => O.getD x.toNat 0
/-- The bytes of ranks; none where they are no ranks. -/
def frL (z : List Int) (O : List Nat) : List Nat := if frOk z O = true then frTo z O z.length else []
theorem frTo_len (z : List Int) (O : List Nat) (k : Nat) (h : k ≤ z.length) : (frTo z O k).length = k := by simp [frTo]; omega
theorem frTo_succ (z : List Int) (O : List Nat) (k : Nat) (h : k < z.length) : frTo z O (k + 1) = frTo z O k ++ [O.getD (z.getD k 0).toNat 0] := by
  unfold frTo
  rw [List.take_succ_eq_append_getElem h, List.map_append]
  simp [List.getD_eq_getElem?_getD, h]
theorem strOf_nil : strOf [] = ⟨#[]⟩ := rfl
end Go.Proofs.Ytaaahmfkdiogkaa
namespace Go.Proofs.Ytaaahmfkdiogkaa
set_option linter.unusedVariables false
set_option linter.unusedSimpArgs false
open Go.RowKit

set_option maxHeartbeats 1000000 in
set_option maxRecDepth 100000 in
theorem specRanksOk_any (a : Option Addr) (cap B : Nat) (z : List Int) (n : Int) (w : World) (hz : Ints w B a z) (hl : z.length ≤ 1048576) (n1 : -9223372036854775808 ≤ n) (n2 : n ≤ 9223372036854775807) :
    Calls Try.prog 65 #[.slice a z.length cap, .int .i64 n] w fun e w' => e = .returned (.bool (rOk z n)) ∧ w = w' := by
  have HIT := hidden (rOk_iff z n)
  obtain ⟨m, hm⟩ : ∃ m, z.length = m := ⟨_, rfl⟩
  have HN := hidden hm
  have HZ := hidden hz
  rw [hm] at hl ⊢
  clear hm hz
  by_cases h1 : n < 1
  · have HF : Hid (rOk z n = false) := hidden (bool_false (fun h => by have := HIT.out.1 h; omega))
    go_enter Try.func65, Try.ntmps65
    go_wp2
    go_ret
    exact ⟨ret_bool HF.out.symm, rfl⟩
  · by_cases h2 : (256 : Int) < n
    · have HF : Hid (rOk z n = false) := hidden (bool_false (fun h => by have := HIT.out.1 h; omega))
      go_enter Try.func65, Try.ntmps65
      go_wp2
      go_ret
      exact ⟨ret_bool HF.out.symm, rfl⟩
    · by_cases h3 : (600 : Int) < m
      · have HF : Hid (rOk z n = false) := hidden (bool_false (fun h => by have := (HIT.out.1 h).2.2.1; rw [HN.out] at this; omega))
        go_enter Try.func65, Try.ntmps65
        go_wp2
        go_ret
        exact ⟨ret_bool HF.out.symm, rfl⟩
      · go_enter Try.func65, Try.ntmps65
        go_wp2
        go_loopw [5] (fun sk wr => ∃ k : Nat, k ≤ m ∧ sk = .int .i64 k ∧ Hid (∀ j, j < k → 0 ≤ z.getD j 0 ∧ z.getD j 0 < n) ∧ w = wr) (fun sk _ => m - (intOf sk).toNat)
        case atStart => exact ⟨0, by omega, rfl, hidden (fun j hj => by omega), by first | trivial | rfl⟩
        case round =>
          obtain ⟨k, hk, rfl, HA, rfl⟩ := hrel
          by_cases hlt : k < m
          · obtain ⟨b, off, rfl, hb, hc⟩ := HZ.out.2.2 (by rw [HN.out]; omega)
            have ck := hc k (by rw [HN.out]; exact hlt)
            have HMK : Hid (z.getD k 0 ∈ z) := hidden (getD_mem (by rw [HN.out]; exact hlt))
            obtain ⟨x, hx⟩ : ∃ x, z.getD k 0 = x := ⟨_, rfl⟩
            rw [hx] at ck HMK
            have HX := hidden hx
            clear hx hc
            by_cases hx0 : x < 0
            · have HF : Hid (rOk z n = false) := hidden (bool_false (fun h => by have := (HIT.out.1 h).2.2.2 x HMK.out; omega))
              go_wp2
              go_ret
              exact ⟨ret_bool HF.out.symm, rfl⟩
            · by_cases hxn : n ≤ x
              · have HF : Hid (rOk z n = false) := hidden (bool_false (fun h => by have := (HIT.out.1 h).2.2.2 x HMK.out; omega))
                go_wp2
                go_ret
                exact ⟨ret_bool HF.out.symm, rfl⟩
              · have HA2 : Hid (∀ j, j < k + 1 → 0 ≤ z.getD j 0 ∧ z.getD j 0 < n) := hidden (fun j hj => by
                  rcases Nat.lt_or_ge j k with h | h
                  · exact HA.out j h
                  · rw [show j = k by omega, HX.out]; omega)
                go_wp2
                go_roundw
                case rel => exact ⟨k + 1, by omega, by go_num, HA2, by first | trivial | rfl⟩
                case measure => simp [intOf]; omega
          · have hkm : k = m := by omega
            subst hkm
            have HT : Hid (rOk z n = true) := hidden (HIT.out.2 ⟨by omega, by omega, by rw [HN.out]; omega, fun x hx => by
              obtain ⟨j, hj, rfl⟩ := mem_getD hx
              exact HA.out j (by rw [← HN.out]; exact hj)⟩)
            go_wp2
            go_ret
            exact ⟨ret_bool HT.out.symm, rfl⟩
theorem ret_i8 {a b : Int} (h : a = b) : Ending.returned (.int .i64 a) = .returned (.int .i64 b) := by rw [h]
theorem own_cap7 {w : World} {base g n c S : Nat} {e : TypeId} {xs : List Value} (h : w.ownsRow base e S (.slice (some ⟨g, 0, none⟩) n c) n xs) : n ≤ c := by
  rcases h.2 with ⟨h', _⟩ | ⟨g', cap', cur, h', _, _, hnc, _⟩
  · simp at h'
  · simp only [Value.slice.injEq] at h'
    omega
theorem add_at7 (g i j : Nat) : (⟨g, i, none⟩ : Addr).add j = ⟨g, i + j, none⟩ := by unfold Addr.add; split <;> simp_all
theorem own_bel7 {w w' : World} {base n S B : Nat} {e : TypeId} {v : Value} {xs : List Value} (h : w.ownsRow base e S v n xs) (hB : base ≤ B) (hb : Below w.heap.size w w') : w'.ownsRow base e S v n xs := own_bel h hb
theorem bel_made {w w1 : World} (hg : w.grownBy w1 none) : Below w.heap.size w w1 := ⟨hg.os, hg.tape, hg.output, hg.size, fun i hi => hg.block i hi (by simp)⟩
set_option maxHeartbeats 1000000 in
set_option maxRecDepth 100000 in
theorem l8row_any (n : Nat) (w : World) (hn : n ≤ 1048576) :
    Calls Try.prog 134 #[.int .i64 n] w fun e w' => ∃ g, e = .returned (.slice (some ⟨g, 0, none⟩) n n) ∧ w'.ownsRow w.heap.size 3 1 (.slice (some ⟨g, 0, none⟩) n n) n (natsL (List.range n)) ∧ Below w.heap.size w w' := by
  obtain ⟨i0, hi, hz0, hz1, hz2⟩ := info_parts Try.infoInt
  go_enter Try.func134, Try.ntmps134
  go_wp2_with (at_make; refine wpList_make_full _ rfl _ _ 24 rfl w.heap.size 3 i0 (.int .i64 0) 1 Try.underlying24 hi hz0 hz1 .i64 .i64 _ _ n rfl rfl rfl rfl ?cb1 ?cb2 ?cb3 ?_)
  case cb1 => rw [hz2]; omega
  case cb2 => unfold maxLen; omega
  case cb3 => exact Nat.le_refl _
  intro w2 hown hgrow
  have hbl := bel_made hgrow
  rw [made_nats] at hown
  clear hgrow
  go_wp2
  go_loopw [4] (fun sk wr => ∃ (k : Nat) (f : Nat → Nat), k ≤ n ∧ sk = .int .i64 k ∧ Hid (∀ j, j < k → f j = j) ∧ wr.ownsRow w.heap.size 3 1 (.slice (some ⟨w.heap.size, 0, none⟩) n n) n (nats n f) ∧ Below w.heap.size w wr) (fun sk _ => n - (intOf sk).toNat)
  case atStart => exact ⟨0, fun _ => 0, by omega, rfl, hidden (fun j hj => by omega), hown, hbl⟩
  case round =>
    obtain ⟨k, f, hk, rfl, HF, hownF, hblF⟩ := hrel
    clear hown hbl
    by_cases hlt : k < n
    · have d0 := hownF.cellAt k (by omega)
      rw [nats_get _ _ _ hlt] at d0
      have f0 := hownF.frozenAt k
      have HF2 : Hid (∀ j, j < k + 1 → (if j = k then k else f j) = j) := hidden (fun j hj => by
        split
        · omega
        · exact HF.out j (by omega))
      go_wp2
      go_roundw
      case rel => exact ⟨k + 1, fun t => if t = k then k else f t, by omega, by go_num, HF2, by rw [← nats_set]; exact (hownF.stored k _).1, hblF.setCell (by simp) _⟩
      case measure => simp [intOf]; omega
    · have hkn : k = n := by omega
      subst hkn
      have HE : Hid (nats k f = natsL (List.range k)) := hidden (by
        rw [natsL_nats, List.length_range]
        exact nats_congr fun s hs => by rw [HF.out s hs]; simp [List.getD_eq_getElem?_getD, hs])
      rw [HE.out] at hownF
      go_wp2
      go_ret
      exact ⟨_, rfl, hownF, hblF⟩
set_option maxHeartbeats 1000000 in
set_option maxRecDepth 100000 in
theorem l8place_any (base g c x n : Nat) (r : List Nat) (w : World) (hown : w.ownsRow base 3 1 (.slice (some ⟨g, 0, none⟩) n c) n (natsL r)) (hr : r.length = n) (hn : n ≤ 256) (hx : x < 256) :
    Calls Try.prog 135 #[.slice (some ⟨g, 0, none⟩) n c, .int .i64 x] w fun e w' => e = .returned (.int .i64 (placeI r x)) ∧ w = w' := by
  have HR := hidden hr
  have HOW := hidden hown
  clear hr hown
  go_enter Try.func135, Try.ntmps135
  go_wp2
  go_loopw [5] (fun sk wr => ∃ k : Nat, k ≤ n ∧ sk = .int .i64 k ∧ Hid (∀ j, j < k → r.getD j 0 ≠ x) ∧ Hid (w = wr)) (fun sk _ => n - (intOf sk).toNat)
  case atStart => exact ⟨0, by omega, rfl, hidden (fun j hj => by omega), hidden rfl⟩
  case round =>
    obtain ⟨k, hk, rfl, HA, HW⟩ := hrel
    have hownR : wr.ownsRow base 3 1 (.slice (some ⟨g, 0, none⟩) n c) n (natsL r) := by rw [← HW.out]; exact HOW.out
    by_cases hlt : k < n
    · have d0 := hownR.cellAt k (by omega)
      rw [natsL_nats, HR.out, nats_get _ _ _ hlt] at d0
      obtain ⟨y, hy⟩ : ∃ y, r.getD k 0 = y := ⟨_, rfl⟩
      rw [hy] at d0
      have HY := hidden hy
      clear hy
      by_cases he : y = x
      · subst he
        have HP : Hid (placeI r y = k) := hidden (place_at (by rw [HR.out]; exact hlt) HY.out HA.out)
        go_wp2
        go_ret
        exact ⟨ret_i8 HP.out.symm, HW.out⟩
      · have hne : ¬ (y : Int) = x := by omega
        have hbe : ((y : Int) == (x : Int)) = false := by rw [beq_eq_false_iff_ne]; exact hne
        have HA2 : Hid (∀ j, j < k + 1 → r.getD j 0 ≠ x) := hidden (fun j hj => by
          rcases Nat.lt_or_ge j k with h | h
          · exact HA.out j h
          · rw [show j = k by omega, HY.out]; exact he)
        go_wp2
        go_roundw
        case rel => exact ⟨k + 1, by omega, by go_num, HA2, HW⟩
        case measure => simp [intOf]; omega
    · have hkn : k = n := by omega
      subst hkn
      have HP : Hid (placeI r x = -1) := hidden (place_no (fun j hj => HA.out j (by rw [← HR.out]; exact hj)))
      go_wp2
      go_ret
      exact ⟨ret_i8 HP.out.symm, HW.out⟩
set_option maxHeartbeats 1000000 in
set_option maxRecDepth 100000 in
theorem l8front_any (base g c k n : Nat) (r : List Nat) (w : World) (hown : w.ownsRow base 3 1 (.slice (some ⟨g, 0, none⟩) n c) n (natsL r)) (hb : base ≤ w.heap.size) (hr : r.length = n) (hk : k < n) (hn : n ≤ 256) :
    Calls Try.prog 136 #[.slice (some ⟨g, 0, none⟩) n c, .int .i64 k] w fun e w' => ∃ g2 c2, e = .returned (.slice (some ⟨g2, 0, none⟩) n c2) ∧ w'.ownsRow w.heap.size 3 1 (.slice (some ⟨g2, 0, none⟩) n c2) n (natsL (frontL r k)) ∧ Below w.heap.size w w' := by
  obtain ⟨i0, hi, hz0, hz1, hz2⟩ := info_parts Try.infoInt
  have HR := hidden hr
  have HOW := hidden hown
  have hgw := (hown.lt g rfl).2
  have hcap : n ≤ c := own_cap7 hown
  have d0 := hown.cellAt k (by omega)
  rw [natsL_nats, hr, nats_get _ _ _ hk] at d0
  obtain ⟨y, hy⟩ : ∃ y, r.getD k 0 = y := ⟨_, rfl⟩
  rw [hy] at d0
  have HFL : Hid (frontL r k = [y] ++ r.take k ++ r.drop (k + 1)) := hidden (by unfold frontL; rw [eraseIdx_td, hy]; rfl)
  have HTL : Hid ((r.take k).length = k) := hidden (by rw [List.length_take]; omega)
  have HDL : Hid ((r.drop (k + 1)).length = n - (k + 1)) := hidden (by rw [List.length_drop, hr])
  clear hr hown hy
  go_enter Try.func136, Try.ntmps136
  have hlit := World.ownsRow_lit (base := w.heap.size) (e := 3) (size := 1) w #[.int .i64 (y : Int)] 1 (Nat.le_refl _) (by unfold maxLen; omega) (by simp)
  have hb0 : Below w.heap.size w (w.alloc (.cells #[.int .i64 (y : Int)] 3)) := (Below.refl _ _).alloc (Nat.le_refl _) _
  have hb0s : w.heap.size < (w.alloc (.cells #[.int .i64 (y : Int)] 3)).heap.size := by simp
  go_wp2_with (at_builtin; refine wpList_append_own_at _ rfl _ _ 24 rfl w.heap.size 3 i0 (.int .i64 0) 1 8 Try.underlying24 hi hz0 hz1 hz2 rfl (by decide) _ _ _ rfl hlit ⟨g, 0, none⟩ k c (natsL (r.take k)) rfl ?d0 ?d1 ?d2 ?d3 ?d4 ?d5 ?_)
  case d0 => rw [natsL_len, HTL.out]
  case d1 => exact fun j u hu => by have := natsL_take HOW.out k j u hu; rwa [add_at7, Nat.zero_add] at this
  case d2 => exact natsL_one _
  case d3 => unfold maxLen; omega
  case d4 => omega
  intro v3 w3 hown3 hgrow _ _
  have hb3 : Below w.heap.size w w3 := hb0.grown hgrow (by simp) (fun q hq => by simp [Value.ownBlock] at hq; omega)
  have hs3 := hb3.size
  have HO3 := hidden (own_bel7 HOW.out hb hb3)
  have HE : Hid (natsL (frontL r k) = (.int .i64 (y : Int) :: natsL (r.take k)) ++ natsL (r.drop (k + 1))) := hidden (by rw [HFL.out]; simp [natsL])
  obtain ⟨X, hX⟩ : ∃ X, (.int .i64 (y : Int) :: natsL (r.take k)) = X := ⟨_, rfl⟩
  rw [hX] at hown3 HE
  have hk1 : (k : Int) + 1 ≤ (c : Int) := by omega
  have hk2 : (0 : Int) ≤ (k : Int) + 1 := by omega
  have hnc : (n : Int) ≤ (c : Int) := by omega
  have hk3 : (k : Int) + 1 ≤ (n : Int) := by omega
  clear hgrow hlit hb0 hb0s hX d0
  by_cases hcap : c = k + 1
  · have hnk : n = k + 1 := by omega
    subst hcap
    have HN0 : Hid (r.drop (k + 1) = []) := hidden (List.drop_eq_nil_of_le (by rw [HR.out]; omega))
    go_wp2_with (at_builtin; refine wpList_append_own_at _ rfl _ _ 24 rfl w.heap.size 3 i0 (.int .i64 0) 1 8 Try.underlying24 hi hz0 hz1 hz2 rfl (by decide) _ _ _ rfl hown3 ⟨g, 0, none⟩ 0 _ ([] : List Value) rfl ?e0 ?e1 ?e2 ?e3 ?e4 ?e5 ?_)
    case e0 => first | rfl | simp
    case e1 => intro j u hu; simp at hu
    case e2 => intro u hu; simp at hu
    case e3 => unfold maxLen; omega
    case e4 => omega
    case e5 => first | exact hs3 | omega
    intro v4 w4 hown4 hgrow4 _ _
    have hb4 : Below w.heap.size w w4 := hb3.grown hgrow4 hs3 (fun q hq => (hown3.lt q hq).1)
    have HF : Hid (w4.ownsRow w.heap.size 3 1 v4 n (natsL (frontL r k))) := hidden (by
      rw [HE.out, HN0.out, hnk]
      simpa [natsL, Nat.add_comm] using hown4)
    clear hown4 hgrow4 hown3
    obtain ⟨g4, c4, rfl⟩ := Joins.ownsRow_form HF.out (by omega)
    go_wp2
    go_ret
    exact ⟨g4, c4, rfl, HF.out, hb4⟩
  · have hlt : k + 1 < c := by omega
    go_wp2_with (at_builtin; refine wpList_append_own_at _ rfl _ _ 24 rfl w.heap.size 3 i0 (.int .i64 0) 1 8 Try.underlying24 hi hz0 hz1 hz2 rfl (by decide) _ _ _ rfl hown3 ⟨g, k + 1, none⟩ (n - (k + 1)) _ (natsL (r.drop (k + 1))) rfl ?f0 ?f1 ?f2 ?f3 ?f4 ?f5 ?_)
    case f0 => first | (rw [natsL_len, HDL.out, Nat.mul_one]) | (rw [natsL_len, HDL.out])
    case f1 => first | exact natsL_drop HO3.out (k + 1) | exact fun j u hu => by have := natsL_drop HO3.out (k + 1) j u hu; rwa [add_at7] at this
    case f2 => exact natsL_one _
    case f3 => unfold maxLen; omega
    case f4 => omega
    case f5 => first | exact hs3 | omega
    intro v4 w4 hown4 hgrow4 _ _
    have hb4 : Below w.heap.size w w4 := hb3.grown hgrow4 hs3 (fun q hq => (hown3.lt q hq).1)
    have HF : Hid (w4.ownsRow w.heap.size 3 1 v4 n (natsL (frontL r k))) := hidden (by
      rw [HE.out]
      have := hown4
      rwa [show 1 + k + (n - (k + 1)) = n by omega] at this)
    clear hown4 hgrow4 hown3
    obtain ⟨g4, c4, rfl⟩ := Joins.ownsRow_form HF.out (by omega)
    go_wp2
    go_ret
    exact ⟨g4, c4, rfl, HF.out, hb4⟩
end Go.Proofs.Ytaaahmfkdiogkaa
namespace Go.Proofs.Ytaaahmfkdiogkaa
set_option linter.unusedVariables false
set_option linter.unusedSimpArgs false
open Go.RowKit

theorem intsV_ints (L : List Nat) : intsV (ints L) = natsL L := by simp [intsV, ints, natsL]
theorem natsL_snoc8 (D : List Nat) (x : Nat) : natsL (D ++ [x]) = natsL D ++ [.int .i64 (x : Int)] := by simp [natsL]
theorem ints_cell {w : World} {B b off : Nat} {L : List Nat} (hc : ∀ i, i < (ints L).length → w.cell? ⟨b, off + i, none⟩ = some (.int .i64 ((ints L).getD i 0))) (k : Nat) (hk : k < L.length) : w.cell? ⟨b, off + k, none⟩ = some (.int .i64 ((L.getD k 0 : Nat) : Int)) := by
  have := hc k (by rw [ints_len]; exact hk)
  rwa [ints_get] at this
set_option maxHeartbeats 1000000 in
set_option maxRecDepth 100000 in
theorem specMtf_yes (a : Option Addr) (cap B m : Nat) (L : List Nat) (w : World) (hz : Ints w B a (ints L)) (hB : B ≤ w.heap.size) (hok : rOk (ints L) m = true) (hm1 : 1 ≤ m) (hm2 : m ≤ 256) (hL6 : L.length ≤ 600) (hLm : ∀ x ∈ L, x < m) :
    Calls Try.prog 106 #[.slice a L.length cap, .int .i64 m] w fun e w' => ∃ v, e = .returned v ∧ w'.ownsRow w.heap.size 3 1 v L.length (natsL (runF mtfF (List.range m) L)) ∧ Below w.heap.size w w' := by
  obtain ⟨i0, hi, hz0, hz1, hz2⟩ := info_parts Try.infoInt
  have KR := hidden (specRanksOk_any a cap B (ints L) m w hz (by rw [ints_len]; omega) (by omega) (by omega))
  rw [hok, ints_len] at KR
  have KW := hidden (fun W => l8row_any m W (by omega))
  have HZ := hidden hz
  have HLM := hidden hLm
  obtain ⟨A, hA⟩ : ∃ A, runF mtfF (List.range m) L = A := ⟨_, rfl⟩
  have HA := hidden hA
  rw [hA]
  obtain ⟨n, hn⟩ : ∃ n, L.length = n := ⟨_, rfl⟩
  have HN := hidden hn
  rw [hn] at KR hL6 ⊢
  clear hz hA hn hok hLm
  go_enter Try.func106, Try.ntmps106
  go_wp2_with fail
  refine KR.out.mono ?_
  rintro e w0 ⟨rfl, rfl⟩
  go_wp2_with fail
  refine (KW.out _).mono ?_
  rintro e w1 ⟨g0, rfl, hrow0, b1⟩
  have hs1 := b1.size
  go_wp2
  go_loopw [5, 6, 7, 8] (fun vo vr si _ wr => ∃ (k g c : Nat) (r D : List Nat), k ≤ n ∧ si = .int .i64 k ∧ vr = .slice (some ⟨g, 0, none⟩) m c ∧ Hid (A = D ++ runF mtfF r (L.drop k)) ∧ Hid (D.length = k) ∧ Hid (PermN m r) ∧ wr.ownsRow w.heap.size 3 1 (.slice (some ⟨g, 0, none⟩) m c) m (natsL r) ∧ wr.ownsRow w.heap.size 3 1 vo k (natsL D) ∧ Hid (vo.ownBlock ≠ some g) ∧ Below w.heap.size w wr) (fun _ _ si _ _ => n - (intOf si).toNat)
  case atStart => exact ⟨0, g0, m, List.range m, [], by omega, rfl, rfl, hidden (by rw [← HA.out]; rfl), hidden rfl, hidden (PermN.start m), hrow0, World.ownsRow_nil _ _ _ _, hidden (by simp [Value.ownBlock]), b1⟩
  case round =>
    obtain ⟨k, g, c, r, D, hk, rfl, rfl, HD, HDl, HP, hrow, hout, HNE, hbl⟩ := hrel
    clear hrow0 b1
    have hsz := hbl.size
    by_cases hlt : k < n
    · obtain ⟨b, off, rfl, hb, hc⟩ := (HZ.out.below (hbl.mono hB)).2.2 (by rw [ints_len, HN.out]; omega)
      have ck := ints_cell (B := B) hc k (by rw [HN.out]; exact hlt)
      have hxm := HLM.out _ (getD_mem7 L k (by rw [HN.out]; exact hlt))
      have HDR := hidden (drop_cons L k (by rw [HN.out]; exact hlt))
      obtain ⟨x, hx⟩ : ∃ x, L.getD k 0 = x := ⟨_, rfl⟩
      rw [hx] at ck hxm HDR
      have hgw := (hrow.lt g rfl).2
      have KP := hidden (l8place_any w.heap.size g c x m r wr hrow HP.out.len hm2 (by omega))
      have hkm := HP.out.idx hxm
      rw [placeI, if_pos ((HP.out.mem x).2 hxm)] at KP
      have HP2 := hidden (HP.out.front hkm)
      obtain ⟨y, hy⟩ : ∃ y, r.idxOf x = y := ⟨_, rfl⟩
      have HSt : Hid (A = (D ++ [y]) ++ runF mtfF (frontL r y) (L.drop (k + 1))) := hidden (by
        rw [HD.out, HDR.out, runF, List.append_assoc]
        simp only [mtfF, hy]
        rfl)
      rw [hy] at KP hkm HP2
      have HR := hidden hrow
      have HRL := hidden HP.out.len
      clear hx hc hy hrow
      go_wp2_with fail
      refine KP.out.mono ?_
      rintro e w3 ⟨rfl, rfl⟩
      go_wp2_with (at_builtin; refine wpList_append_own_at _ rfl _ _ 24 rfl w.heap.size 3 i0 (.int .i64 0) 1 8 Try.underlying24 hi hz0 hz1 hz2 rfl (by decide) _ _ _ rfl (hout.alloc _) ⟨wr.heap.size, 0, none⟩ 1 1 [.int .i64 (y : Int)] rfl rfl ?c1 ?c2 ?c3 ?c4 ?c5 ?_)
      case c1 => exact cell_one_new _ _ _
      case c2 => exact fun u hu => by simp at hu; subst hu; rfl
      case c3 => unfold maxLen; omega
      case c4 => omega
      case c5 => first | omega | (simp; omega)
      intro v5 w5 hown5 hgrow _ hloc
      have hb5 := bel_app hbl hsz hout hgrow
      have hs5 := hb5.size
      have HNE5 : Hid (v5.ownBlock ≠ some g) := hidden (by
        intro e
        rcases hloc with h | h
        · exact HNE.out (by rw [← h]; exact e)
        · rw [e] at h; simp at h; omega)
      have hR5 := (HR.out.alloc (.cells #[.int .i64 (y : Int)] 3)).kept hgrow (.inr (fun e => HNE.out e.symm))
      have HD5 : Hid ((D ++ [y]).length = k + 1) := hidden (by simp [HDl.out])
      rw [← natsL_snoc8] at hown5
      have KF := hidden (l8front_any w.heap.size g c y m r w5 hR5 hs5 HRL.out hkm hm2)
      have HO5 := hidden hown5
      clear hout hgrow hbl hloc hown5 hR5
      go_wp2_with fail
      refine KF.out.mono ?_
      rintro e w6 ⟨g2, c2, rfl, hrow6, b6⟩
      have hb6 := bel_then b6 hs5 hb5
      have hO6 := own_bel HO5.out b6
      have HNE6 : Hid (v5.ownBlock ≠ some g2) := hidden (by
        intro e
        have h1 := (hrow6.lt g2 rfl).1
        have h2 := (HO5.out.lt g2 e).2
        omega)
      have hR6 := Joins.ownsRow_le hrow6 hs5
      clear hrow6 b6 hb5
      go_wp2
      go_roundw
      case rel => exact ⟨k + 1, g2, c2, frontL r y, D ++ [y], by omega, by go_num, rfl, HSt, HD5, HP2, hR6, hO6, HNE6, hb6⟩
      case measure => simp [intOf]; omega
    · have hkn : k = n := by omega
      subst hkn
      have HE : Hid (A = D) := hidden (by rw [HD.out, ← HN.out, List.drop_length, runF, List.append_nil])
      go_wp2
      go_ret
      exact ⟨_, rfl, by rw [HE.out]; exact hout, hbl⟩
set_option maxHeartbeats 1000000 in
set_option maxRecDepth 100000 in
theorem specUnMtf_yes (a : Option Addr) (cap B m : Nat) (L : List Nat) (w : World) (hz : Ints w B a (ints L)) (hB : B ≤ w.heap.size) (hok : rOk (ints L) m = true) (hm1 : 1 ≤ m) (hm2 : m ≤ 256) (hL6 : L.length ≤ 600) (hLm : ∀ x ∈ L, x < m) :
    Calls Try.prog 110 #[.slice a L.length cap, .int .i64 m] w fun e w' => ∃ v, e = .returned v ∧ w'.ownsRow w.heap.size 3 1 v L.length (natsL (runF umtF (List.range m) L)) ∧ Below w.heap.size w w' := by
  obtain ⟨i0, hi, hz0, hz1, hz2⟩ := info_parts Try.infoInt
  have KR := hidden (specRanksOk_any a cap B (ints L) m w hz (by rw [ints_len]; omega) (by omega) (by omega))
  rw [hok, ints_len] at KR
  have KW := hidden (fun W => l8row_any m W (by omega))
  have HZ := hidden hz
  have HLM := hidden hLm
  obtain ⟨A, hA⟩ : ∃ A, runF umtF (List.range m) L = A := ⟨_, rfl⟩
  have HA := hidden hA
  rw [hA]
  obtain ⟨n, hn⟩ : ∃ n, L.length = n := ⟨_, rfl⟩
  have HN := hidden hn
  rw [hn] at KR hL6 ⊢
  clear hz hA hn hok hLm
  go_enter Try.func110, Try.ntmps110
  go_wp2_with fail
  refine KR.out.mono ?_
  rintro e w0 ⟨rfl, rfl⟩
  go_wp2_with fail
  refine (KW.out _).mono ?_
  rintro e w1 ⟨g0, rfl, hrow0, b1⟩
  have hs1 := b1.size
  go_wp2
  go_loopw [5, 6, 7] (fun vo vr si wr => ∃ (k g c : Nat) (r D : List Nat), k ≤ n ∧ si = .int .i64 k ∧ vr = .slice (some ⟨g, 0, none⟩) m c ∧ Hid (A = D ++ runF umtF r (L.drop k)) ∧ Hid (D.length = k) ∧ Hid (PermN m r) ∧ wr.ownsRow w.heap.size 3 1 (.slice (some ⟨g, 0, none⟩) m c) m (natsL r) ∧ wr.ownsRow w.heap.size 3 1 vo k (natsL D) ∧ Hid (vo.ownBlock ≠ some g) ∧ Below w.heap.size w wr) (fun _ _ si _ => n - (intOf si).toNat)
  case atStart => exact ⟨0, g0, m, List.range m, [], by omega, rfl, rfl, hidden (by rw [← HA.out]; rfl), hidden rfl, hidden (PermN.start m), hrow0, World.ownsRow_nil _ _ _ _, hidden (by simp [Value.ownBlock]), b1⟩
  case round =>
    obtain ⟨k, g, c, r, D, hk, rfl, rfl, HD, HDl, HP, hrow, hout, HNE, hbl⟩ := hrel
    clear hrow0 b1
    have hsz := hbl.size
    by_cases hlt : k < n
    · obtain ⟨b, off, rfl, hb, hc⟩ := (HZ.out.below (hbl.mono hB)).2.2 (by rw [ints_len, HN.out]; omega)
      have ck := ints_cell (B := B) hc k (by rw [HN.out]; exact hlt)
      have hxm := HLM.out _ (getD_mem7 L k (by rw [HN.out]; exact hlt))
      have HDR := hidden (drop_cons L k (by rw [HN.out]; exact hlt))
      obtain ⟨x, hx⟩ : ∃ x, L.getD k 0 = x := ⟨_, rfl⟩
      rw [hx] at ck hxm HDR
      have hgw := (hrow.lt g rfl).2
      have ck0 : w.cell? ⟨b, off + k, none⟩ = some (.int .i64 (x : Int)) := ((hbl.cell (p := ⟨b, off + k, none⟩) (by simp; omega)).symm).trans ck
      have d0 := hrow.cellAt x (by omega)
      rw [natsL_nats, HP.out.len, nats_get _ _ _ hxm] at d0
      have HP2 := hidden (HP.out.front hxm)
      obtain ⟨y, hy⟩ : ∃ y, r.getD x 0 = y := ⟨_, rfl⟩
      have HSt : Hid (A = (D ++ [y]) ++ runF umtF (frontL r x) (L.drop (k + 1))) := hidden (by
        rw [HD.out, HDR.out, runF, List.append_assoc]
        simp only [umtF, hy]
        rfl)
      rw [hy] at d0
      have HR := hidden hrow
      have HRL := hidden HP.out.len
      have HC := hidden hc
      have HHX := hidden hx
      clear hx hc hy hrow
      go_wp2_with (at_builtin; refine wpList_append_own_at _ rfl _ _ 24 rfl w.heap.size 3 i0 (.int .i64 0) 1 8 Try.underlying24 hi hz0 hz1 hz2 rfl (by decide) _ _ _ rfl (hout.alloc _) ⟨wr.heap.size, 0, none⟩ 1 1 [.int .i64 (y : Int)] rfl rfl ?c1 ?c2 ?c3 ?c4 ?c5 ?_)
      case c1 => exact cell_one_new _ _ _
      case c2 => exact fun u hu => by simp at hu; subst hu; rfl
      case c3 => unfold maxLen; omega
      case c4 => omega
      case c5 => first | omega | (simp; omega)
      intro v5 w5 hown5 hgrow _ hloc
      have hb5 := bel_app hbl hsz hout hgrow
      have hs5 := hb5.size
      have HNE5 : Hid (v5.ownBlock ≠ some g) := hidden (by
        intro e
        rcases hloc with h | h
        · exact HNE.out (by rw [← h]; exact e)
        · rw [e] at h; simp at h; omega)
      have hR5 := (HR.out.alloc (.cells #[.int .i64 (y : Int)] 3)).kept hgrow (.inr (fun e => HNE.out e.symm))
      have HD5 : Hid ((D ++ [y]).length = k + 1) := hidden (by simp [HDl.out])
      rw [← natsL_snoc8] at hown5
      have KF := hidden (l8front_any w.heap.size g c x m r w5 hR5 hs5 HRL.out hxm hm2)
      have HO5 := hidden hown5
      have ck5 : w5.cell? ⟨b, off + k, none⟩ = some (.int .i64 (x : Int)) := (hb5.cell (p := ⟨b, off + k, none⟩) (by simp; omega)).trans ck0
      clear hout hgrow hbl hloc hown5 hR5
      go_wp2_with fail
      refine KF.out.mono ?_
      rintro e w6 ⟨g2, c2, rfl, hrow6, b6⟩
      have hb6 := bel_then b6 hs5 hb5
      have hO6 := own_bel HO5.out b6
      have HNE6 : Hid (v5.ownBlock ≠ some g2) := hidden (by
        intro e
        have h1 := (hrow6.lt g2 rfl).1
        have h2 := (HO5.out.lt g2 e).2
        omega)
      have hR6 := Joins.ownsRow_le hrow6 hs5
      clear hrow6 b6 hb5
      go_wp2
      go_roundw
      case rel => exact ⟨k + 1, g2, c2, frontL r x, D ++ [y], by omega, by go_num, rfl, HSt, HD5, HP2, hR6, hO6, HNE6, hb6⟩
      case measure => simp [intOf]; omega
    · have hkn : k = n := by omega
      subst hkn
      have HE : Hid (A = D) := hidden (by rw [HD.out, ← HN.out, List.drop_length, runF, List.append_nil])
      go_wp2
      go_ret
      exact ⟨_, rfl, by rw [HE.out]; exact hout, hbl⟩
set_option maxHeartbeats 1000000 in
set_option maxRecDepth 100000 in
theorem specMtf_any (a : Option Addr) (cap B : Nat) (z : List Int) (n : Int) (w : World) (hz : Ints w B a z) (hB : B ≤ w.heap.size) (hl : z.length ≤ 1048576) (n1 : -9223372036854775808 ≤ n) (n2 : n ≤ 9223372036854775807) :
    Calls Try.prog 106 #[.slice a z.length cap, .int .i64 n] w fun e w' => ∃ v, e = .returned v ∧ w'.ownsRow w.heap.size 3 1 v (mtfZ z n).length (intsV (mtfZ z n)) ∧ Below w.heap.size w w' := by
  by_cases hok : rOk z n = true
  · obtain ⟨L, m, rfl, rfl, hm1, hm2, hL6, hLm⟩ := rOk_nats hok
    rw [mtfZ_yes hok, intsV_ints, ints_len, ints_len, runF_len]
    exact specMtf_yes a cap B m L w hz hB hok hm1 hm2 hL6 hLm
  · have hno := bool_false hok
    have KR := hidden (specRanksOk_any a cap B z n w hz hl n1 n2)
    rw [hno] at KR
    rw [mtfZ_no hno]
    clear hno hok
    go_enter Try.func106, Try.ntmps106
    go_wp2_with fail
    refine KR.out.mono ?_
    rintro e w0 ⟨rfl, rfl⟩
    go_wp2
    go_ret
    exact ⟨_, rfl, World.ownsRow_nil _ _ _ _, Below.refl _ _⟩
set_option maxHeartbeats 1000000 in
set_option maxRecDepth 100000 in
theorem specUnMtf_any (a : Option Addr) (cap B : Nat) (z : List Int) (n : Int) (w : World) (hz : Ints w B a z) (hB : B ≤ w.heap.size) (hl : z.length ≤ 1048576) (n1 : -9223372036854775808 ≤ n) (n2 : n ≤ 9223372036854775807) :
    Calls Try.prog 110 #[.slice a z.length cap, .int .i64 n] w fun e w' => ∃ v, e = .returned v ∧ w'.ownsRow w.heap.size 3 1 v (umtZ z n).length (intsV (umtZ z n)) ∧ Below w.heap.size w w' := by
  by_cases hok : rOk z n = true
  · obtain ⟨L, m, rfl, rfl, hm1, hm2, hL6, hLm⟩ := rOk_nats hok
    rw [umtZ_yes hok, intsV_ints, ints_len, ints_len, runF_len]
    exact specUnMtf_yes a cap B m L w hz hB hok hm1 hm2 hL6 hLm
  · have hno := bool_false hok
    have KR := hidden (specRanksOk_any a cap B z n w hz hl n1 n2)
    rw [hno] at KR
    rw [umtZ_no hno]
    clear hno hok
    go_enter Try.func110, Try.ntmps110
    go_wp2_with fail
    refine KR.out.mono ?_
    rintro e w0 ⟨rfl, rfl⟩
    go_wp2
    go_ret
    exact ⟨_, rfl, World.ownsRow_nil _ _ _ _, Below.refl _ _⟩
end Go.Proofs.Ytaaahmfkdiogkaa
namespace Go.Proofs.Ytaaahmfkdiogkaa
set_option linter.unusedVariables false
set_option linter.unusedSimpArgs false
open Go.RowKit

/-- Only the blocks from base on and below E (and what is new) may have turned. -/
def Mid (base E : Nat) (a w : World) : Prop := w.os = a.os ∧ w.tape = a.tape ∧ w.output = a.output ∧ a.heap.size ≤ w.heap.size ∧ ∀ i, i < a.heap.size → (i < base ∨ E ≤ i) → w.heap[i]? = a.heap[i]?
theorem Mid.refl (base E : Nat) (w : World) : Mid base E w w := ⟨rfl, rfl, rfl, Nat.le_refl _, fun _ _ _ => rfl⟩
theorem Mid.trans {base E : Nat} {a b c : World} (h : Mid base E a b) (k : Mid base E b c) : Mid base E a c :=
  ⟨k.1.trans h.1, k.2.1.trans h.2.1, k.2.2.1.trans h.2.2.1, Nat.le_trans h.2.2.2.1 k.2.2.2.1, fun i hi ho => (k.2.2.2.2 i (Nat.lt_of_lt_of_le hi h.2.2.2.1) ho).trans (h.2.2.2.2 i hi ho)⟩
theorem Mid.below {base E : Nat} {a w : World} (h : Mid base E a w) (hb : base ≤ a.heap.size) : Below base a w := ⟨h.1, h.2.1, h.2.2.1, h.2.2.2.1, fun i hi => h.2.2.2.2 i (by omega) (.inl hi)⟩
theorem Mid.own {base E B n S : Nat} {T : TypeId} {a w : World} {v : Value} {xs : List Value} (k : Mid base E a w) (ho : a.ownsRow B T S v n xs) (hB : E ≤ B) : w.ownsRow B T S v n xs := by
  refine ⟨ho.1, ?_⟩
  rcases ho.2 with h2 | ⟨b, cap, cur, hv, hb, hc, hr⟩
  · exact .inl h2
  · exact .inr ⟨b, cap, cur, hv, hb, (k.2.2.2.2 b ((Array.getElem?_eq_some_iff.1 hc).1) (.inr (by omega))).trans hc, hr⟩
theorem Mid.has {base E b : Nat} {T : TypeId} {cs : Array Value} {a w : World} (k : Mid base E a w) (h : Has a b T cs) (ho : b < base ∨ E ≤ b) : Has w b T cs := (k.2.2.2.2 b h.lt ho).trans h
theorem Mid.store {base E : Nat} {a w : World} (h : Mid base E a w) {p : Addr} (h1 : base ≤ p.block) (h2 : p.block < E) (u : Value) : Mid base E a (w.setCell p u) :=
  ⟨h.1, h.2.1, h.2.2.1, by simpa using h.2.2.2.1, fun i hi ho => (Below.heap_setCell w p u i (by omega)).trans (h.2.2.2.2 i hi ho)⟩

/-- A block of two cells: a symbol and where the next one lies. -/
def Nd (W : World) (b : Nat) (s : Nat) (p : Option Addr) : Prop := ∃ T, Has W b T #[.int .i64 (s : Int), .pointer p]
theorem Nd.lt {W : World} {b s : Nat} {p : Option Addr} (h : Nd W b s p) : b < W.heap.size := by obtain ⟨T, h⟩ := h; exact h.lt
theorem Nd.sym {W : World} {b s : Nat} {p : Option Addr} (h : Nd W b s p) : W.cell? ⟨b, 0, none⟩ = some (.int .i64 (s : Int)) := by obtain ⟨T, h⟩ := h; exact h.cell 0
theorem Nd.next {W : World} {b s : Nat} {p : Option Addr} (h : Nd W b s p) : W.cell? ⟨b, 1, none⟩ = some (.pointer p) := by obtain ⟨T, h⟩ := h; exact h.cell 1
theorem Nd.free {W : World} {b s : Nat} {p : Option Addr} (h : Nd W b s p) (i : Nat) : W.frozen? ⟨b, i, none⟩ = false := by obtain ⟨T, h⟩ := h; exact h.free i
theorem Nd.store {W : World} {b s : Nat} {p : Option Addr} (h : Nd W b s p) (q : Option Addr) : Nd (W.setCell ⟨b, 1, none⟩ (.pointer q)) b s q := by
  obtain ⟨T, h⟩ := h
  exact ⟨T, by simpa using h.store 1 (.pointer q)⟩
theorem Nd.keep {W W' : World} {b s : Nat} {p : Option Addr} (h : Nd W b s p) (hk : W'.heap[b]? = W.heap[b]?) : Nd W' b s p := by
  obtain ⟨T, h⟩ := h
  exact ⟨T, hk.trans h⟩
theorem Nd.away {W : World} {b s : Nat} {p : Option Addr} (h : Nd W b s p) {a : Addr} (ha : b ≠ a.block) (u : Value) : Nd (W.setCell a u) b s p := h.keep (Below.heap_setCell W a u b ha)
/-- Where a chain begins. -/
def hdP (c : List (Nat × Nat)) (p : Option Addr) : Option Addr := match c with
  | [] => p
  | q :: _ => some ⟨q.1, 0, none⟩
/-- A chain of nodes that ends at p. -/
def Seg (W : World) (p : Option Addr) : List (Nat × Nat) → Prop
  | [] => True
  | q :: c => Nd W q.1 q.2 (hdP c p) ∧ Seg W p c
theorem hdP_append (A B : List (Nat × Nat)) (p : Option Addr) : hdP (A ++ B) p = hdP A (hdP B p) := by cases A <;> rfl
theorem seg_append {W : World} {p : Option Addr} {A B : List (Nat × Nat)} : Seg W p (A ++ B) ↔ Seg W (hdP B p) A ∧ Seg W p B := by
  induction A with
  | nil => simp [Seg]
  | cons q A ih =>
    show Nd W q.1 q.2 (hdP (A ++ B) p) ∧ Seg W p (A ++ B) ↔ (Nd W q.1 q.2 (hdP A (hdP B p)) ∧ Seg W (hdP B p) A) ∧ Seg W p B
    rw [hdP_append, ih, and_assoc]
theorem Seg.keep {W W' : World} {p : Option Addr} : ∀ {c : List (Nat × Nat)}, Seg W p c → (∀ b ∈ c.map Prod.fst, W'.heap[b]? = W.heap[b]?) → Seg W' p c
  | [], _, _ => trivial
  | q :: c, h, hk => ⟨h.1.keep (hk _ (List.mem_cons_self ..)), Seg.keep h.2 (fun b hb => hk b (List.mem_cons_of_mem _ hb))⟩
theorem Seg.away {W : World} {p : Option Addr} {c : List (Nat × Nat)} (h : Seg W p c) {a : Addr} (ha : a.block ∉ c.map Prod.fst) (u : Value) : Seg (W.setCell a u) p c :=
  h.keep fun b hb => Below.heap_setCell W a u b (fun e => ha (e ▸ hb))
theorem Seg.last {W : World} {p : Option Addr} {A : List (Nat × Nat)} {q : Nat × Nat} (h : Seg W p (A ++ [q])) (hn : q.1 ∉ A.map Prod.fst) (p' : Option Addr) : Seg (W.setCell ⟨q.1, 1, none⟩ (.pointer p')) p' (A ++ [q]) := by
  obtain ⟨h1, h2⟩ := seg_append.1 h
  exact seg_append.2 ⟨h1.away hn _, h2.1.store p', trivial⟩
/-- A row of symbols as a chain behind a head, in blocks from base on and below E. -/
structure FLc (W : World) (base E h : Nat) (c : List (Nat × Nat)) (r : List Nat) : Prop where
  row : c.map Prod.snd = r
  nodup : (h :: c.map Prod.fst).Nodup
  lies : ∀ b ∈ h :: c.map Prod.fst, base ≤ b ∧ b < E
  seg : Seg W none ((h, 0) :: c)
def FL (W : World) (base E h : Nat) (r : List Nat) : Prop := ∃ c, FLc W base E h c r
theorem FL.keep {W W' : World} {base E h : Nat} {r : List Nat} (hF : FL W base E h r) (hk : ∀ i, base ≤ i → i < E → W'.heap[i]? = W.heap[i]?) : FL W' base E h r := by
  obtain ⟨c, h1, h2, h3, h4⟩ := hF
  exact ⟨c, h1, h2, h3, h4.keep fun b hb => hk b (h3 b hb).1 (h3 b hb).2⟩
/-- The block of the node ahead of place j. -/
def blk (h : Nat) (c : List (Nat × Nat)) (j : Nat) : Nat := (h :: c.map Prod.fst).getD j 0
theorem seg_at {W : World} {p : Option Addr} : ∀ {c : List (Nat × Nat)} (j : Nat), Seg W p c → j + 1 < c.length → ∃ q q', c[j]? = some q ∧ c[j + 1]? = some q' ∧ Nd W q.1 q.2 (some ⟨q'.1, 0, none⟩)
  | [], _, _, h => by simp at h
  | [q], _, _, h => by simp at h
  | q :: q' :: c, 0, h, _ => ⟨q, q', rfl, rfl, h.1⟩
  | q :: q' :: c, j + 1, h, hj => by
    obtain ⟨u, u', h1, h2, h3⟩ := seg_at (c := q' :: c) j h.2 (by simp at hj ⊢; omega)
    exact ⟨u, u', by simpa using h1, by simpa using h2, h3⟩
theorem seg_node {W : World} {p : Option Addr} : ∀ {c : List (Nat × Nat)} (j : Nat) (q : Nat × Nat), Seg W p c → c[j]? = some q → ∃ p', Nd W q.1 q.2 p'
  | [], _, _, _, h => by simp at h
  | q :: c, 0, q', h, e => by simp at e; subst e; exact ⟨_, h.1⟩
  | q :: c, j + 1, q', h, e => seg_node j q' h.2 (by simpa using e)
theorem FLc.node {W : World} {base E h : Nat} {c : List (Nat × Nat)} {r : List Nat} (hF : FLc W base E h c r) (j : Nat) (hj : j < r.length) :
    W.cell? ⟨blk h c j, 1, none⟩ = some (.pointer (some ⟨blk h c (j + 1), 0, none⟩)) ∧ W.cell? ⟨blk h c (j + 1), 0, none⟩ = some (.int .i64 ((r.getD j 0 : Nat) : Int)) := by
  have hl : c.length = r.length := by rw [← hF.row]; simp
  obtain ⟨q, q', h1, h2, h3⟩ := seg_at j hF.seg (by simp; omega)
  have b1 : blk h c j = q.1 := by
    unfold blk
    have : (h :: c.map Prod.fst) = ((h, 0) :: c).map Prod.fst := rfl
    rw [this, List.getD_eq_getElem?_getD, List.getElem?_map, h1]; rfl
  have b2 : blk h c (j + 1) = q'.1 := by
    unfold blk
    have : (h :: c.map Prod.fst) = ((h, 0) :: c).map Prod.fst := rfl
    rw [this, List.getD_eq_getElem?_getD, List.getElem?_map, h2]; rfl
  obtain ⟨p', h4⟩ := seg_node (j + 1) q' hF.seg h2
  have s2 : r.getD j 0 = q'.2 := by
    have h5 : c[j]? = some q' := by simpa using h2
    rw [← hF.row, List.getD_eq_getElem?_getD, List.getElem?_map, h5]; rfl
  rw [b1, b2, s2]
  exact ⟨h3.next, h4.sym⟩
theorem blk_zero (h : Nat) (c : List (Nat × Nat)) : blk h c 0 = h := rfl

/-- The three stores of bringForward: the chain behind them. -/
theorem seg_bring {W : World} {h : Nat} {A B : List (Nat × Nat)} {x : Nat × Nat} (hs : Seg W none ((h, 0) :: (A ++ x :: B))) (hnd : (h :: (A ++ x :: B).map Prod.fst).Nodup) :
    ∃ p1, W.cell? ⟨blk h (A ++ x :: B) A.length, 1, none⟩ = some (.pointer (some ⟨x.1, 0, none⟩)) ∧ W.cell? ⟨x.1, 1, none⟩ = some (.pointer (hdP B none)) ∧ W.cell? ⟨x.1, 0, none⟩ = some (.int .i64 (x.2 : Int)) ∧
      (blk h (A ++ x :: B) A.length ≠ h → W.cell? ⟨h, 1, none⟩ = some (.pointer p1)) ∧ (blk h (A ++ x :: B) A.length = h → p1 = hdP B none) ∧ x.1 ≠ h ∧ x.1 ≠ blk h (A ++ x :: B) A.length ∧
      W.frozen? ⟨blk h (A ++ x :: B) A.length, 1, none⟩ = false ∧ W.frozen? ⟨x.1, 1, none⟩ = false ∧ W.frozen? ⟨h, 1, none⟩ = false ∧
      blk h (A ++ x :: B) A.length ∈ h :: (A ++ x :: B).map Prod.fst ∧
      Seg (((W.setCell ⟨blk h (A ++ x :: B) A.length, 1, none⟩ (.pointer (hdP B none))).setCell ⟨x.1, 1, none⟩ (.pointer p1)).setCell ⟨h, 1, none⟩ (.pointer (some ⟨x.1, 0, none⟩))) none ((h, 0) :: x :: (A ++ B)) := by
  obtain ⟨hh, hAxB⟩ := hs
  obtain ⟨hA, hx, hBs⟩ := seg_append.1 hAxB
  simp only [List.map_append, List.map_cons, List.nodup_cons, List.nodup_append, List.mem_append, List.mem_cons, not_or] at hnd
  obtain ⟨⟨nA, nx, nB⟩, dA, ⟨nxB, dB⟩, dAB⟩ := hnd
  have hxA : x.1 ∉ A.map Prod.fst := fun hm => dAB x.1 hm x.1 (.inl rfl) rfl
  rcases List.eq_nil_or_concat A with rfl | ⟨A', q, rfl⟩
  · simp only [List.nil_append, List.length_nil, blk_zero] at *
    refine ⟨hdP B none, hh.next, hx.next, hx.sym, fun e => absurd rfl e, fun _ => rfl, fun e => nx e.symm, fun e => nx e.symm, hh.free 1, hx.free 1, hh.free 1, .inl rfl |> List.mem_cons.2, ?_⟩
    refine ⟨((hh.store _).away (by exact nx) _).store _, ((hx.away (fun e => nx e.symm) _).store _).away (fun e => nx e.symm) _, ?_⟩
    exact ((hBs.away (by exact nB) _).away (by exact nxB) _).away (by exact nB) _
  · have hq : blk h (A' ++ [q] ++ x :: B) (A' ++ [q]).length = q.1 := by
      unfold blk
      simp [List.getD_eq_getElem?_getD]
    simp only [List.concat_eq_append] at *
    rw [hq]
    have hqm : q.1 ∈ (A' ++ [q]).map Prod.fst := by simp
    have hqh : q.1 ≠ h := fun e => nA (e ▸ hqm)
    have hqx : q.1 ≠ x.1 := fun e => hxA (e ▸ hqm)
    have hq' : q.1 ∉ A'.map Prod.fst := by
      intro hm
      simp only [List.map_append, List.map_cons, List.map_nil, List.nodup_append, List.mem_singleton] at dA
      exact dA.2.2 _ hm _ rfl rfl
    have hqB : q.1 ∉ B.map Prod.fst := fun hm => dAB q.1 hqm q.1 (.inr hm) rfl
    obtain ⟨hA1, hqN, _⟩ := seg_append.1 hA
    refine ⟨hdP (A' ++ [q] ++ x :: B) none, hqN.next, hx.next, hx.sym, fun _ => hh.next, fun e => absurd e hqh, fun e => nx e.symm, Ne.symm hqx, hqN.free 1, hx.free 1, hh.free 1, List.mem_cons_of_mem _ (by simp), ?_⟩
    have hcl : hdP (A' ++ [q] ++ B) none = hdP (A' ++ [q] ++ x :: B) none := by cases A' <;> rfl
    refine ⟨((hh.away (Ne.symm hqh) _).away nx _).store _, ?_, ?_⟩
    · rw [hcl]
      exact ((hx.away (Ne.symm hqx) _).store _).away (fun e => nx e.symm) _
    · refine seg_append.2 ⟨?_, ?_⟩
      · exact ((hA.last hq' _).away hxA _).away nA _
      · exact ((hBs.away hqB _).away nxB _).away nB _
end Go.Proofs.Ytaaahmfkdiogkaa
namespace Go.Proofs.Ytaaahmfkdiogkaa
set_option linter.unusedVariables false
set_option linter.unusedSimpArgs false
open Go.RowKit

set_option maxHeartbeats 1000000 in
set_option maxRecDepth 100000 in
theorem bring_walk (h bb x s : Nat) (pB p1 : Option Addr) (w : World) (c1 : w.cell? ⟨bb, 1, none⟩ = some (.pointer (some ⟨x, 0, none⟩))) (c2 : w.cell? ⟨x, 1, none⟩ = some (.pointer pB)) (c3 : w.cell? ⟨x, 0, none⟩ = some (.int .i64 (s : Int)))
    (c4 : bb ≠ h → w.cell? ⟨h, 1, none⟩ = some (.pointer p1)) (c5 : bb = h → p1 = pB) (hxh : x ≠ h) (hxb : x ≠ bb)
    (f1 : w.frozen? ⟨bb, 1, none⟩ = false) (f2 : w.frozen? ⟨x, 1, none⟩ = false) (f3 : w.frozen? ⟨h, 1, none⟩ = false) :
    Calls Try.prog 171 #[.pointer (some ⟨h, 0, none⟩), .pointer (some ⟨bb, 0, none⟩)] w fun e w' => e = .returned (.int .i64 (s : Int)) ∧
      w' = ((w.setCell ⟨bb, 1, none⟩ (.pointer pB)).setCell ⟨x, 1, none⟩ (.pointer p1)).setCell ⟨h, 1, none⟩ (.pointer (some ⟨x, 0, none⟩)) := by
  by_cases e : bb = h
  · subst e
    obtain rfl := c5 rfl
    go_enter Try.func171, Try.ntmps171
    go_wp2
    go_ret
    exact ⟨rfl, rfl⟩
  · have c6 := c4 e
    have e2 : ¬ h = bb := fun q => e q.symm
    have e3 : ¬ h = x := fun q => hxh q.symm
    have e4 : ¬ bb = x := fun q => hxb q.symm
    go_enter Try.func171, Try.ntmps171
    go_wp2
    go_ret
    exact ⟨rfl, rfl⟩
theorem bringForward_any (base E h k : Nat) (c : List (Nat × Nat)) (r : List Nat) (w : World) (hF : FLc w base E h c r) (hk : k < r.length) :
    Calls Try.prog 171 #[.pointer (some ⟨h, 0, none⟩), .pointer (some ⟨blk h c k, 0, none⟩)] w fun e w' => e = .returned (.int .i64 ((r.getD k 0 : Nat) : Int)) ∧ FL w' base E h (frontL r k) ∧ Mid base E w w' := by
  have hl : c.length = r.length := by rw [← hF.row]; simp
  have hkc : k < c.length := by omega
  obtain ⟨A, x, B, hc, hA⟩ : ∃ A x B, c = A ++ x :: B ∧ A.length = k := ⟨c.take k, c[k], c.drop (k + 1), by rw [← List.drop_eq_getElem_cons hkc, List.take_append_drop], by rw [List.length_take]; omega⟩
  subst hA
  subst hc
  obtain ⟨p1, c1, c2, c3, c4, c5, n1, n2, f1, f2, f3, hm, hs⟩ := seg_bring hF.seg hF.nodup
  have hx2 : r.getD A.length 0 = x.2 := by rw [← hF.row]; simp [List.getD_eq_getElem?_getD]
  rw [hx2]
  refine (bring_walk h _ x.1 x.2 (hdP B none) p1 w c1 c2 c3 c4 c5 n1 n2 f1 f2 f3).mono ?_
  rintro e w' ⟨rfl, rfl⟩
  have hxm : x.1 ∈ h :: (A ++ x :: B).map Prod.fst := by simp
  have hhm : h ∈ h :: (A ++ x :: B).map Prod.fst := List.mem_cons_self ..
  have l1 := hF.lies _ hm
  have l2 := hF.lies _ hxm
  have l3 := hF.lies _ hhm
  refine ⟨rfl, ⟨x :: (A ++ B), ?_, ?_, ?_, hs⟩, (((Mid.refl base E w).store l1.1 l1.2 _).store l2.1 l2.2 _).store l3.1 l3.2 _⟩
  · unfold frontL
    rw [hx2, ← hF.row, eraseIdx_td]
    simp [List.drop_append]
  · have := hF.nodup
    have hp : (h :: (x :: (A ++ B)).map Prod.fst).Perm (h :: (A ++ x :: B).map Prod.fst) := by
      refine List.Perm.cons _ (List.Perm.map _ ?_)
      exact List.perm_middle.symm
    exact hp.nodup_iff.2 this
  · intro b hb
    apply hF.lies
    simp only [List.map_cons, List.map_append, List.mem_cons, List.mem_append] at hb ⊢
    rcases hb with h1 | h1 | h1 | h1
    · exact .inl h1
    · exact .inr (.inr (.inl h1))
    · exact .inr (.inl h1)
    · exact .inr (.inr (.inr h1))
set_option maxHeartbeats 1000000 in
set_option maxRecDepth 100000 in
theorem rankOf_any (base E h n x : Nat) (r : List Nat) (w : World) (hF : FL w base E h r) (hP : PermN n r) (hn : n ≤ 256) (hx : x < n) :
    Calls Try.prog 170 #[.pointer (some ⟨h, 0, none⟩), .int .i64 x] w fun e w' => e = .returned (.int .i64 ((mtfF r x).1 : Int)) ∧ FL w' base E h (mtfF r x).2 ∧ Mid base E w w' := by
  obtain ⟨c, hF⟩ := hF
  have HF := hidden hF
  have HL := hidden hP.len
  have hkn := hP.idx hx
  have HIA := hidden (idx_at r ((hP.mem x).2 hx))
  have HIF := hidden (idx_first r x)
  have HB := hidden (fun k hk => bringForward_any base E h k c r w hF hk)
  have HZ := hidden (blk_zero h c)
  rw [show mtfF r x = (r.idxOf x, frontL r (r.idxOf x)) from rfl]
  obtain ⟨k, hk⟩ : ∃ k, r.idxOf x = k := ⟨_, rfl⟩
  rw [hk] at hkn HIA HIF ⊢
  have HN := hidden hF.node
  clear hF hk
  go_enter Try.func170, Try.ntmps170
  go_wp2
  go_loopw [5, 6] (fun sj sb wr => ∃ j : Nat, j ≤ k ∧ sj = .int .i64 j ∧ sb = .pointer (some ⟨blk h c j, 0, none⟩) ∧ w = wr) (fun sj _ _ => k - (intOf sj).toNat)
  case atStart => exact ⟨0, by omega, rfl, by rw [HZ.out], by first | trivial | rfl⟩
  case round =>
    obtain ⟨j, hj, rfl, rfl, rfl⟩ := hrel
    obtain ⟨d1, d2⟩ := HN.out j (by rw [HL.out]; omega)
    by_cases hlt : j < k
    · have hne := HIF.out j hlt
      obtain ⟨y, hy⟩ : ∃ y, r.getD j 0 = y := ⟨_, rfl⟩
      obtain ⟨b1, hb1⟩ : ∃ b, blk h c (j + 1) = b := ⟨_, rfl⟩
      obtain ⟨b0, hb0⟩ : ∃ b, blk h c j = b := ⟨_, rfl⟩
      rw [hy] at d2 hne
      rw [hb1] at d1 d2
      rw [hb0] at d1 ⊢
      have HB1 := hidden hb1
      have hneI : ((y : Int) != (x : Int)) = true := by rw [bne_iff_ne]; omega
      clear hy hb1 hb0
      go_wp2
      go_roundw
      case rel => exact ⟨j + 1, by omega, by go_num, by rw [HB1.out], by first | trivial | rfl⟩
      case measure => simp [intOf]; omega
    · have hjk : j = k := by omega
      subst hjk
      have KB := hidden (HB.out j (by rw [HL.out]; exact hkn))
      rw [HIA.out] at d2 KB
      obtain ⟨b1, hb1⟩ : ∃ b, blk h c (j + 1) = b := ⟨_, rfl⟩
      obtain ⟨b0, hb0⟩ : ∃ b, blk h c j = b := ⟨_, rfl⟩
      rw [hb1] at d1 d2
      rw [hb0] at d1 KB ⊢
      have hneI : ((x : Int) != (x : Int)) = false := by simp
      clear hb1 hb0
      go_wp2_with fail
      refine KB.out.mono ?_
      rintro e w3 ⟨rfl, hF3, hm3⟩
      go_wp2
      go_ret
      exact ⟨rfl, hF3, hm3⟩
set_option maxHeartbeats 1000000 in
set_option maxRecDepth 100000 in
theorem symbolAt_any (base E h n k : Nat) (r : List Nat) (w : World) (hF : FL w base E h r) (hP : PermN n r) (hn : n ≤ 256) (hkn : k < n) :
    Calls Try.prog 169 #[.pointer (some ⟨h, 0, none⟩), .int .i64 k] w fun e w' => e = .returned (.int .i64 ((umtF r k).1 : Int)) ∧ FL w' base E h (umtF r k).2 ∧ Mid base E w w' := by
  obtain ⟨c, hF⟩ := hF
  have HL := hidden hP.len
  have HB := hidden (bringForward_any base E h k c r w hF (by rw [hP.len]; exact hkn))
  have HZ := hidden (blk_zero h c)
  rw [show umtF r k = (r.getD k 0, frontL r k) from rfl]
  have HN := hidden hF.node
  obtain ⟨y, hy⟩ : ∃ y, r.getD k 0 = y := ⟨_, rfl⟩
  rw [hy] at HB ⊢
  clear hF hy
  go_enter Try.func169, Try.ntmps169
  go_wp2
  go_loopw [5, 10] (fun sb sj wr => ∃ j : Nat, j ≤ k ∧ sj = .int .i64 j ∧ sb = .pointer (some ⟨blk h c j, 0, none⟩) ∧ w = wr) (fun _ sj _ => k - (intOf sj).toNat)
  case atStart => exact ⟨0, by omega, rfl, by rw [HZ.out], by first | trivial | rfl⟩
  case round =>
    obtain ⟨j, hj, rfl, rfl, rfl⟩ := hrel
    by_cases hlt : j < k
    · obtain ⟨d1, _⟩ := HN.out j (by rw [HL.out]; omega)
      obtain ⟨b1, hb1⟩ : ∃ b, blk h c (j + 1) = b := ⟨_, rfl⟩
      obtain ⟨b0, hb0⟩ : ∃ b, blk h c j = b := ⟨_, rfl⟩
      rw [hb1, hb0] at d1
      rw [hb0]
      have HB1 := hidden hb1
      clear hb1 hb0
      go_wp2
      go_roundw
      case rel => exact ⟨j + 1, by omega, by go_num, by rw [HB1.out], by first | trivial | rfl⟩
      case measure => simp [intOf]; omega
    · have hjk : j = k := by omega
      subst hjk
      go_wp2_with fail
      refine HB.out.mono ?_
      rintro e w3 ⟨rfl, hF3, hm3⟩
      go_wp2
      go_ret
      exact ⟨rfl, hF3, hm3⟩
end Go.Proofs.Ytaaahmfkdiogkaa
namespace Go.Proofs.Ytaaahmfkdiogkaa
set_option linter.unusedVariables false
set_option linter.unusedSimpArgs false
open Go.RowKit

theorem seg_of {W : World} : ∀ (m : Nat) (f : Nat → Nat × Nat), (∀ i, i < m → Nd W (f i).1 (f i).2 (if i + 1 < m then some ⟨(f (i + 1)).1, 0, none⟩ else none)) → Seg W none ((List.range m).map f)
  | 0, _, _ => trivial
  | m + 1, f, h => by
    rw [List.range_succ_eq_map, List.map_cons, List.map_map]
    refine ⟨?_, seg_of m (f ∘ Nat.succ) (fun i hi => ?_)⟩
    · have := h 0 (by omega)
      cases m with
      | zero => simpa [hdP] using this
      | succ m =>
        rw [if_pos (by omega)] at this
        rw [List.range_succ_eq_map]
        exact this
    · have := h (i + 1) (by omega)
      by_cases h2 : i + 1 < m
      · rw [if_pos (by omega)] at this
        rw [if_pos h2]
        exact this
      · rw [if_neg (by omega)] at this
        rw [if_neg h2]
        exact this
theorem fl_new {W : World} {h n : Nat} (hsz : W.heap.size = h + 1 + n) (hN : ∀ i, i ≤ n → Nd W (h + i) (i - 1) (if i < n then some ⟨h + i + 1, 0, none⟩ else none)) : FL W h W.heap.size h (List.range n) := by
  have e : ((h, 0) :: (List.range n).map fun i => (h + (i + 1), i)) = (List.range (n + 1)).map fun i => (h + i, i - 1) := by
    rw [List.range_succ_eq_map, List.map_cons, List.map_map]
    rfl
  have em : (h :: ((List.range n).map fun i => (h + (i + 1), i)).map Prod.fst) = (List.range (n + 1)).map fun i => h + i := by
    rw [List.range_succ_eq_map, List.map_cons, List.map_map, List.map_map]
    rfl
  refine ⟨(List.range n).map fun i => (h + (i + 1), i), ?_, ?_, ?_, ?_⟩
  · rw [List.map_map]
    conv => rhs; rw [← List.map_id (List.range n)]
    rfl
  · rw [em]
    unfold List.Nodup
    rw [List.pairwise_map]
    refine List.Pairwise.imp ?_ List.nodup_range
    intro a b hab he
    exact hab (by omega)
  · rw [em]
    intro b hb
    obtain ⟨i, hi, rfl⟩ := List.mem_map.1 hb
    have := List.mem_range.1 hi
    omega
  · rw [e]
    refine seg_of (n + 1) _ fun i hi => ?_
    have := hN i (by omega)
    by_cases h2 : i < n
    · rw [if_pos h2] at this
      rw [if_pos (by omega)]
      exact this
    · rw [if_neg h2] at this
      rw [if_neg (by omega)]
      exact this
set_option maxHeartbeats 1000000 in
set_option maxRecDepth 100000 in
theorem frontListOf_any (n : Nat) (w : World) (hn : n ≤ 256) :
    Calls Try.prog 168 #[.int .i64 n] w fun e w' => e = .returned (.pointer (some ⟨w.heap.size, 0, none⟩)) ∧ FL w' w.heap.size w'.heap.size w.heap.size (List.range n) ∧ Below w.heap.size w w' := by
  have hH := Has.fresh w 202 #[.int .i64 0, .pointer none]
  have hb0 : Below w.heap.size w (w.alloc (.cells #[.int .i64 0, .pointer none] 202)) := (Below.refl _ _).alloc (Nat.le_refl _) _
  have HH0 : Hid (∀ i, i ≤ 0 → Nd (w.alloc (.cells #[.int .i64 0, .pointer none] 202)) (w.heap.size + i) (i - 1) (if i < 0 then some ⟨w.heap.size + i + 1, 0, none⟩ else none)) := hidden (by
    intro i hi
    have h0 : i = 0 := by omega
    subst h0
    exact ⟨_, hH⟩)
  go_enter Try.func168, Try.ntmps168
  go_wp2
  go_loopw [4, 5, 12] (fun sl _ sk wr => ∃ k : Nat, k ≤ n ∧ sk = .int .i64 k ∧ sl = .pointer (some ⟨w.heap.size + k, 0, none⟩) ∧ Hid (wr.heap.size = w.heap.size + 1 + k) ∧ Hid (∀ i, i ≤ k → Nd wr (w.heap.size + i) (i - 1) (if i < k then some ⟨w.heap.size + i + 1, 0, none⟩ else none)) ∧ Below w.heap.size w wr) (fun _ _ sk _ => n - (intOf sk).toNat)
  case atStart => exact ⟨0, by omega, rfl, rfl, hidden (by simp), HH0, hb0⟩
  case round =>
    obtain ⟨k, hk, rfl, rfl, HS, HN, hbl⟩ := hrel
    clear hH hb0
    by_cases hlt : k < n
    · have hl := HN.out k (Nat.le_refl _)
      rw [if_neg (by omega)] at hl
      have d1 := hl.next
      have f1 := hl.free 1
      obtain ⟨lb, hlb⟩ : ∃ lb, w.heap.size + k = lb := ⟨_, rfl⟩
      have HLB := hidden hlb
      rw [hlb] at d1 f1 ⊢
      have hll : lb < wr.heap.size := by have := HS.out; omega
      have hN2 : Hid (∀ i, i ≤ k + 1 → Nd ((wr.setCell ⟨lb, 1, none⟩ (.pointer (some ⟨wr.heap.size, 0, none⟩))).alloc (.cells #[.int .i64 (k : Int), .pointer none] 200)) (w.heap.size + i) (i - 1) (if i < k + 1 then some ⟨w.heap.size + i + 1, 0, none⟩ else none)) := hidden (by
        intro i hi
        by_cases h1 : i = k + 1
        · subst h1
          rw [if_neg (by omega)]
          exact ⟨200, Has.freshAt (by have := HS.out; simp; omega) _ _⟩
        · have hN1 := HN.out i (by omega)
          by_cases h2 : i = k
          · subst h2
            rw [if_pos (by omega)]
            have := hN1.store (some ⟨wr.heap.size, 0, none⟩)
            rw [HLB.out] at this ⊢
            rw [show lb + 1 = wr.heap.size by have := HS.out; have := HLB.out; omega]
            exact this.keep (Below.heap_alloc _ _ _ this.lt)
          · rw [if_pos (by omega)] at hN1 ⊢
            have := hN1.away (a := ⟨lb, 1, none⟩) (by have := HLB.out; simp; omega) (.pointer (some ⟨wr.heap.size, 0, none⟩))
            exact this.keep (Below.heap_alloc _ _ _ this.lt))
      have hb2 : Below w.heap.size w ((wr.setCell ⟨lb, 1, none⟩ (.pointer (some ⟨wr.heap.size, 0, none⟩))).alloc (.cells #[.int .i64 (k : Int), .pointer none] 200)) := (hbl.setCell (by have := HLB.out; simp; omega) _).alloc (by simpa using hbl.size) _
      clear hl hlb
      go_wp2
      go_roundw
      case rel => exact ⟨k + 1, by omega, by go_num, by rw [HS.out, Nat.add_right_comm, Nat.add_assoc], hidden (by simp; have := HS.out; omega), hN2, hb2⟩
      case measure => simp [intOf]; omega
    · have hkn : k = n := by omega
      subst hkn
      have HF := hidden (fl_new HS.out HN.out)
      go_wp2
      go_ret
      exact ⟨rfl, HF.out, hbl⟩
set_option maxHeartbeats 1000000 in
set_option maxRecDepth 100000 in
theorem each_any {σ : Type} (N : Nat) (p : Value) (St : World → σ → Prop) (f : σ → Nat → Nat × σ) (base E B : Nat) (a : Option Addr) (cap : Nat) (L : List Nat) (w : World) (s0 : σ)
    (hz : Ints w B a (ints L)) (hB : B ≤ base) (hbE : base ≤ E) (hE : E ≤ w.heap.size) (hL6 : L.length ≤ 600) (h0 : St w s0)
    (hcf : ∀ (args : Array Value) (W : World), (callFunc N args).run Try.prog W = .ok (.enter N args) W)
    (hkeep : ∀ (W W' : World) (s : σ), St W s → (∀ i, base ≤ i → i < E → W'.heap[i]? = W.heap[i]?) → St W' s)
    (hnext : ∀ (W : World) (s : σ) (x : Nat), St W s → x ∈ L → Calls Try.prog N #[p, .int .i64 (x : Int)] W fun e W' => e = .returned (.int .i64 ((f s x).1 : Int)) ∧ St W' (f s x).2 ∧ Mid base E W W') :
    Calls Try.prog 167 #[.slice a L.length cap, .func (.func N) #[p] #[]] w fun e w' => ∃ g, e = .returned (.slice (some ⟨g, 0, none⟩) L.length L.length) ∧ w'.ownsRow w.heap.size 3 1 (.slice (some ⟨g, 0, none⟩) L.length L.length) L.length (natsL (runF f s0 L)) ∧ Below base w w' := by
  obtain ⟨j0, ji, jz0, jz1, jz2⟩ := info_parts Try.infoInt
  have HZ := hidden hz
  have HK := hidden hkeep
  have HX := hidden hnext
  have H0 := hidden h0
  obtain ⟨A, hA⟩ : ∃ A, runF f s0 L = A := ⟨_, rfl⟩
  have HA := hidden hA
  rw [hA]
  obtain ⟨n, hn⟩ : ∃ n, L.length = n := ⟨_, rfl⟩
  have HN := hidden hn
  rw [hn] at hL6 ⊢
  clear hz hA hn hkeep hnext h0
  go_enter Try.func167, Try.ntmps167
  go_wp2_with (at_make; refine wpList_make_full _ rfl _ _ 24 rfl w.heap.size 3 j0 (.int .i64 0) 1 Try.underlying24 ji jz0 jz1 .i64 .i64 _ _ n rfl rfl rfl rfl ?cb1 ?cb2 ?cb3 ?_)
  case cb1 => rw [jz2]; omega
  case cb2 => unfold maxLen; omega
  case cb3 => exact Nat.le_refl _
  intro w2 hown hgrow
  have hb2 := bel_made hgrow
  rw [made_nats] at hown
  have H2 := hidden (HK.out _ w2 s0 H0.out (fun i _ hi => hb2.block i (by omega)))
  have hbb : Below base w w2 := hb2.mono (by omega)
  clear hgrow hb2
  go_wp2
  go_loopw [6, 7, 13] (fun _ _ sk wr => ∃ (k : Nat) (s : σ) (D : List Nat) (F : Nat → Nat), k ≤ n ∧ sk = .int .i64 k ∧ Hid (A = D ++ runF f s (L.drop k)) ∧ Hid (D.length = k ∧ ∀ j, j < k → F j = D.getD j 0) ∧ Hid (St wr s) ∧ wr.ownsRow w.heap.size 3 1 (.slice (some ⟨w.heap.size, 0, none⟩) n n) n (nats n F) ∧ Below base w wr) (fun _ _ sk _ => n - (intOf sk).toNat)
  case atStart => exact ⟨0, s0, [], fun _ => 0, by omega, rfl, hidden (by rw [← HA.out]; rfl), hidden ⟨rfl, fun j hj => by omega⟩, H2, hown, hbb⟩
  case round =>
    obtain ⟨k, s, D, F, hk, rfl, HD, HF, HSt, hownF, hblF⟩ := hrel
    clear hown hbb
    have hsz := hblF.size
    by_cases hlt : k < n
    · obtain ⟨b, off, rfl, hb, hc⟩ := (HZ.out.below (hblF.mono hB)).2.2 (by rw [ints_len, HN.out]; omega)
      have ck := ints_cell (B := B) hc k (by rw [HN.out]; exact hlt)
      have HM := hidden (getD_mem7 L k (by rw [HN.out]; exact hlt))
      have HDR := hidden (drop_cons L k (by rw [HN.out]; exact hlt))
      obtain ⟨x, hx⟩ : ∃ x, L.getD k 0 = x := ⟨_, rfl⟩
      rw [hx] at ck HM HDR
      have KX := hidden (HX.out wr s x HSt.out HM.out)
      have HS2 : Hid (A = (D ++ [(f s x).1]) ++ runF f (f s x).2 (L.drop (k + 1))) := hidden (by rw [HD.out, HDR.out, runF, List.append_assoc]; rfl)
      obtain ⟨y, hy⟩ : ∃ y, (f s x).1 = y := ⟨_, rfl⟩
      obtain ⟨s2, hs2⟩ : ∃ s2, (f s x).2 = s2 := ⟨_, rfl⟩
      rw [hy, hs2] at KX HS2
      have HO := hidden hownF
      clear hx hc hy hs2 hownF
      go_wp2_with fail
      refine KX.out.mono ?_
      rintro e w3 ⟨rfl, hSt3, hm3⟩
      have hO3 := hm3.own HO.out hE
      have hb3 : Below base w w3 := hblF.trans (hm3.below (by omega))
      have HSt3 := hidden hSt3
      have d0 := hO3.cellAt k (by omega)
      rw [nats_get _ _ _ hlt] at d0
      have f0 := hO3.frozenAt k
      have hHN : Hid (w3.heap.size = w3.heap.size) := hidden rfl
      clear hSt3 hm3 hblF
      go_wp2
      go_roundw
      case rel => exact ⟨k + 1, s2, D ++ [y], fun t => if t = k then y else F t, by omega, by go_num, HS2, hidden ⟨by simp [HF.out.1], fun j hj => by
          by_cases e : j = k
          · show (if j = k then y else F j) = _
            rw [if_pos e, e]; simp [List.getD_eq_getElem?_getD, HF.out.1]
          · show (if j = k then y else F j) = _
            rw [if_neg e, HF.out.2 j (by omega)]; simp [List.getD_eq_getElem?_getD, List.getElem?_append_left (show j < D.length by rw [HF.out.1]; omega)]⟩, hidden (HK.out _ _ s2 HSt3.out (fun i _ hi => Below.heap_setCell _ _ _ i (by simp; omega))), by rw [← nats_set]; exact (hO3.stored k _).1, hb3.setCell (by simp; omega) _⟩
      case measure => simp [intOf]; omega
    · have hkn : k = n := by omega
      subst hkn
      have HE : Hid (nats k F = natsL A) := hidden (by
        rw [natsL_nats]
        have e : A = D := by rw [HD.out, ← HN.out, List.drop_length, runF, List.append_nil]
        rw [e, HF.out.1]
        exact nats_congr fun j hj => HF.out.2 j hj)
      go_wp2
      go_ret
      exact ⟨_, rfl, by rw [← HE.out]; exact hownF, hblF⟩
end Go.Proofs.Ytaaahmfkdiogkaa
namespace Go.Proofs.Ytaaahmfkdiogkaa
set_option linter.unusedVariables false
set_option linter.unusedSimpArgs false
open Go.RowKit

def iC (z : List Int) : Array Value := (intsV z).toArray
theorem iC_get (z : List Int) (j : Nat) (h : j < z.length) : (iC z)[j]? = some (.int .i64 (z.getD j 0)) := by
  unfold iC; rw [List.getElem?_toArray, intsV_get _ _ h]
theorem iC_set (z : List Int) (j : Nat) (x : Int) : (iC z).setIfInBounds j (.int .i64 x) = iC (z.set j x) := by unfold iC; rw [List.setIfInBounds_toArray, intsV_set]
theorem made_iC (n : Nat) : madeCells #[Value.int .i64 0] n = iC (List.replicate n 0) := by
  have h := made_ints n
  unfold iC
  rw [← h]
theorem mk_ints (m : Nat) (hm : m ≤ 1048576) (w : World) : (Instr.makeSlice 24 (.int .i64 (m : Int)) (.int .i64 (m : Int))).run Try.prog w = .ok (.slice (some ⟨w.heap.size, 0, none⟩) m m) (w.alloc (.cells (iC (List.replicate m 0)) 3)) := by
  obtain ⟨i, hi, h1, h2, h3⟩ := info_parts Try.infoInt
  have := run_make (P := Try.prog) w 24 3 i (.int .i64 0) Try.underlying24 hi h1 .i64 .i64 m m (by omega) (Int.le_refl _) (by rw [h3]; omega) (by omega)
  have hz : (Value.int .i64 0).cells = #[Value.int .i64 0] := rfl
  simp only [Int.toNat_natCast, h2, Nat.mul_one, hz, made_iC] at this
  exact this
theorem Ints.ofHas {w : World} {g : Nat} {z : List Int} (h : Has w g 3 (iC z)) (hl : z.length ≤ 1048576) (hr : ∀ x ∈ z, -9223372036854775808 ≤ x ∧ x ≤ 9223372036854775807) : Ints w (g + 1) (some ⟨g, 0, none⟩) z := by
  refine ⟨by omega, hr, fun _ => ⟨g, 0, rfl, by omega, fun j hj => ?_⟩⟩
  rw [Nat.zero_add, h.cell j, iC_get z j hj]
/-- The next cell of a row that is filled. -/
theorem fill_set (D : List Int) (n : Nat) (x : Int) (h : D.length < n) : (D ++ List.replicate (n - D.length) 0).set D.length x = (D ++ [x]) ++ List.replicate (n - (D.length + 1)) 0 := by
  rw [List.set_append_right _ _ (Nat.le_refl _), Nat.sub_self, show n - D.length = (n - (D.length + 1)) + 1 by omega, List.replicate_succ, List.set_cons_zero, List.append_assoc]
  rfl
end Go.Proofs.Ytaaahmfkdiogkaa
