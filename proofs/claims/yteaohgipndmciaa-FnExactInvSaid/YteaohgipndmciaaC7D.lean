/- Chapter 7: a set as bits (the model). -/
import Derived.Test.YteaohgipndmciaaC7B
import Derived.Test.YteaohgipndmciaaAlph2
import Derived.Test.YteaohgipndmciaaC1Close
import Derived.Lib.SmallJoins
namespace Go.Proofs.Yteaohgipndmciaa
set_option linter.unusedVariables false
set_option linter.unusedSimpArgs false
open Go.RowKit

/-- Two slices do not lie in one block. -/
def Apart (a b : Value) : Prop := ∀ k, a.ownBlock = some k → b.ownBlock ≠ some k
theorem apart_nil (b : Value) : Apart (.slice none 0 0) b := fun k h => by simp [Value.ownBlock] at h
theorem apart_to_nil (a : Value) : Apart a (.slice none 0 0) := fun k _ h => by simp [Value.ownBlock] at h
theorem Apart.symm {a b : Value} (h : Apart a b) : Apart b a := fun k hb ha => h k ha hb
theorem apart_app {w : World} {base n S : Nat} {E : TypeId} {v v' b : Value} {xs : List Value} (h : Apart v b) (hb : w.ownsRow base E S b n xs) (hloc : v'.ownBlock = v.ownBlock ∨ v'.ownBlock = some w.heap.size) : Apart v' b := by
  intro k hk hkb
  rcases hloc with h2 | h2
  · exact h k (by rw [← h2]; exact hk) hkb
  · have := (hb.lt k hkb).2
    rw [h2] at hk
    simp only [Option.some.injEq] at hk
    omega
theorem apart_app1 {w : World} {base n S : Nat} {E : TypeId} {v v' b : Value} {xs : List Value} (h : Apart v b) (hb : w.ownsRow base E S b n xs) (hloc : v'.ownBlock = v.ownBlock ∨ v'.ownBlock = some (w.heap.size + 1)) : Apart v' b := by
  intro k hk hkb
  rcases hloc with h2 | h2
  · exact h k (by rw [← h2]; exact hk) hkb
  · have := (hb.lt k hkb).2
    rw [h2] at hk
    simp only [Option.some.injEq] at hk
    omega
theorem apart_kept {w w' : World} {base n S : Nat} {E : TypeId} {v b : Value} {xs : List Value} (h : Apart v b) (hb : w.ownsRow base E S b n xs) (hg : w.grownBy w' v.ownBlock) : w'.ownsRow base E S b n xs := by
  cases hbb : b.ownBlock with
  | none => exact hb.kept hg (.inl hbb)
  | some k => exact hb.kept hg (.inr (fun e => h k (by rw [← e, hbb]) hbb))
/-- The first j bytes of a group. -/
def memTo (u : List Nat) (g j : Nat) : List Nat := (List.range j).map fun p => if 16 * g + p ∈ u then 1 else 0
def hasTo (u : List Nat) (g j : Nat) : Nat := if 1 ∈ memTo u g j then 1 else 0
theorem memTo_len (u : List Nat) (g j : Nat) : (memTo u g j).length = j := by simp [memTo]
theorem memTo_succ (u : List Nat) (g j : Nat) : memTo u g (j + 1) = memTo u g j ++ [if 16 * g + j ∈ u then 1 else 0] := by simp [memTo, List.range_succ]
theorem hasTo_succ (u : List Nat) (g j : Nat) : hasTo u g (j + 1) = (hasTo u g j ||| (if 16 * g + j ∈ u then 1 else 0)) := by
  unfold hasTo
  rw [memTo_succ]
  by_cases h1 : 1 ∈ memTo u g j
  · rw [if_pos h1, if_pos (List.mem_append_left _ h1)]
    split <;> rfl
  · rw [if_neg h1]
    by_cases h2 : 16 * g + j ∈ u
    · simp [h2]
    · simp [h1, h2]
theorem hasTo_lt (u : List Nat) (g j : Nat) : hasTo u g j < 2 := by unfold hasTo; split <;> omega
theorem or_bit (h x : Nat) (hh : h < 2) (hx : x < 2) : bits BinOp.or IntKind.u8 (h : Int) (x : Int) = ((h ||| x : Nat) : Int) := by
  have : h = 0 ∨ h = 1 := by omega
  have : x = 0 ∨ x = 1 := by omega
  rcases ‹h = 0 ∨ h = 1› with rfl | rfl <;> rcases ‹x = 0 ∨ x = 1› with rfl | rfl <;> rfl
theorem set_count {u : List Nat} (hb : Byt u) (hu : setOk u = true) (b : Nat) : u.count b = if b ∈ u then 1 else 0 := by
  have h := ((setOk_iff u).1 hu).2
  have := usedL_count u hb b
  rw [h] at this
  exact this
theorem usedRest_pos {u : List Nat} (hb : Byt u) (hu : setOk u = true) : 0 < (usedRest u 16).length := by
  obtain ⟨g, hg, h⟩ := used_some hb ((setOk_iff u).1 hu).1
  have h1 : grp16 u g ≠ [] := by
    unfold grp16
    rw [if_pos h]
    intro e
    have := mem16_len u g
    rw [e] at this; simp at this
  obtain ⟨x, hx⟩ := List.exists_mem_of_ne_nil _ h1
  exact List.length_pos_of_mem (List.mem_flatMap.2 ⟨g, List.mem_range.2 hg, hx⟩)
def headTo (u : List Nat) (g : Nat) : List Nat := (List.range g).map (has16 u)
theorem headTo_len (u : List Nat) (g : Nat) : (headTo u g).length = g := by simp [headTo]
theorem headTo_succ (u : List Nat) (g : Nat) : headTo u (g + 1) = headTo u g ++ [has16 u g] := by simp [headTo, List.range_succ]
set_option maxHeartbeats 1000000 in
set_option maxRecDepth 100000 in
theorem l7put_any (s : ByteArray) (w : World) (hs : s.size ≤ 1048576) (hok : setOk (bytesOf s) = true) :
    Calls Try.prog 63 #[.string s] w fun e w' => ∃ v, e = .returned v ∧ w'.ownsRow w.heap.size 5 1 v (usedBits (bytesOf s)).length (u8s (usedBits (bytesOf s))) ∧ Below w.heap.size w w' := by
  obtain ⟨i0, hi, hz0, hz1, hz2⟩ := info_parts Try.info5
  have K1 := hidden (fun W : World => l7counts_any s W hs)
  have HC := hidden (set_count (byt_bytesOf s) hok)
  have HRP := hidden (usedRest_pos (byt_bytesOf s) hok)
  obtain ⟨U, hU⟩ : ∃ U, bytesOf s = U := ⟨_, rfl⟩
  rw [hU] at K1 HC HRP ⊢
  clear hU hok
  have HB : Hid (usedBits U = headTo U 16 ++ usedRest U 16) := hidden rfl
  obtain ⟨f, hf⟩ : ∃ f : Nat → Nat, (fun b => U.count b) = f := ⟨_, rfl⟩
  have HF : Hid (∀ k, f k = if k ∈ U then 1 else 0) := hidden (fun k => by rw [← hf]; exact HC.out k)
  have HF2 : Hid (∀ k, f k < 2) := hidden (fun k => by rw [HF.out]; split <;> omega)
  rw [hf] at K1
  clear hf
  go_enter Try.func63, Try.ntmps63
  go_wp2_with fail
  refine (K1.out _).mono ?_
  rintro e w1 ⟨rfl, hC, b1⟩
  have hs1 := b1.size
  have HCH := hidden hC
  clear hC
  go_wp2
  go_loopw [4, 5, 6, 7, 8, 9] (fun vh vr sg _ _ _ wr => ∃ g : Nat, g ≤ 16 ∧ sg = .int .i64 g ∧ wr.ownsRow w1.heap.size 5 1 vh g (u8s (headTo U g)) ∧ wr.ownsRow w1.heap.size 5 1 vr (usedRest U g).length (u8s (usedRest U g)) ∧ Apart vh vr ∧ Below w1.heap.size w1 wr) (fun _ _ sg _ _ _ _ => 16 - (intOf sg).toNat)
  case atStart => exact ⟨0, by omega, rfl, World.ownsRow_nil _ _ _ _, World.ownsRow_nil _ _ _ _, apart_nil _, Below.refl _ _⟩
  case round =>
    obtain ⟨g, hg, rfl, hownH, hownR, hAp, hbl⟩ := hrel
    have hsz := hbl.size
    have HRL := hidden (usedRest_len U g)
    by_cases hlt : g < 16
    · have HAp := hidden hAp
      have hgI : (g : Int) < 16 := by omega
      clear hAp
      go_wp2
      go_loopw [7, 8, 9] (fun vs sh sb wx => ∃ j : Nat, j ≤ 16 ∧ sb = .int .i64 ((16 * g + j : Nat) : Int) ∧ sh = .int .u8 (hasTo U g j) ∧ wx.ownsRow w1.heap.size 5 1 vs j (u8s (memTo U g j)) ∧ Hid (Apart vs u4) ∧ Hid (Apart vs u5) ∧ Hid (wx.ownsRow w1.heap.size 5 1 u4 g (u8s (headTo U g))) ∧ Hid (wx.ownsRow w1.heap.size 5 1 u5 (usedRest U g).length (u8s (usedRest U g))) ∧ Below w1.heap.size w1 wx) (fun _ _ sb _ => 16 * g + 16 - (intOf sb).toNat)
      case atStart => exact ⟨0, by omega, by go_num, rfl, World.ownsRow_nil _ _ _ _, hidden (apart_nil _), hidden (apart_nil _), hidden hownH, hidden hownR, hbl⟩
      case round =>
        obtain ⟨j, hj, rfl, rfl, hownS, HApH, HApR, HH, HR, hblx⟩ := hrel
        have hszx := hblx.size
        clear hownH hownR hbl
        by_cases hlt2 : j < 16
        · have hI : ((16 * g + j : Nat) : Int) < 16 * (g : Int) + 16 := by omega
          have d0 := (own_bel HCH.out hblx).cellAt (16 * g + j) (by omega)
          rw [nats_get _ _ _ (by omega)] at d0
          have hf2 := HF2.out (16 * g + j)
          have HFv := hidden (HF.out (16 * g + j))
          have HMS := hidden (memTo_succ U g j)
          have HHS := hidden (hasTo_succ U g j)
          have hh2 := hasTo_lt U g j
          rw [← HFv.out] at HMS HHS
          have HBP : Hid (16 * g + j < 256) := hidden (by omega)
          obtain ⟨b, hb⟩ : ∃ b, 16 * g + j = b := ⟨_, rfl⟩
          have HBE := hidden hb
          rw [hb] at d0 hf2 HFv HMS HHS hI HBP ⊢
          obtain ⟨x, hx⟩ : ∃ x, f b = x := ⟨_, rfl⟩
          have HFX := hidden hx
          obtain ⟨h, hh⟩ : ∃ h, hasTo U g j = h := ⟨_, rfl⟩
          rw [hx] at d0 hf2 HMS HHS
          rw [hh] at HHS hh2 ⊢
          have hb256 := HBP.out
          have hor := or_bit h x hh2 hf2
          have hx256 : (x : Int) % 256 = x := by omega
          clear hb hx hh
          go_wp2_with (at_builtin; refine wpList_append_own_at _ rfl _ _ 22 rfl w1.heap.size 5 i0 (.int .u8 0) 1 1 Try.underlying22 hi hz0 hz1 hz2 rfl (by decide) _ _ _ rfl (hownS.alloc _) ⟨wr.heap.size, 0, none⟩ 1 1 [.int .u8 (x : Int)] rfl rfl ?c1 ?c2 ?c3 ?c4 ?c5 ?_)
          case c1 => exact cell_one_new _ _ _
          case c2 => exact fun u hu => by simp at hu; subst hu; rfl
          case c3 => unfold maxLen; omega
          case c4 => omega
          case c5 => first | omega | (simp; omega)
          intro v3 w3 hown3 hgrow _ hloc
          have hlo := fun g hg => (hownS.lt g hg).1
          have hb3 := bel_app hblx hszx hownS hgrow
          have HA3 : Hid (Apart v3 u4) := hidden (apart_app1 HApH.out HH.out hloc)
          have HR3 : Hid (Apart v3 u5) := hidden (apart_app1 HApR.out HR.out hloc)
          have HH3 := hidden (apart_kept HApH.out (HH.out.alloc (.cells #[.int .u8 (x : Int)] 5)) hgrow)
          have HRR3 := hidden (apart_kept HApR.out (HR.out.alloc (.cells #[.int .u8 (x : Int)] 5)) hgrow)
          have d3 := (own_bel HCH.out hb3).cellAt b (by omega)
          rw [nats_get _ _ _ hb256] at d3
          rw [HFX.out] at d3
          rw [← u8s_snoc, ← HMS.out] at hown3
          clear hownS hgrow hloc hlo d0 hblx
          go_wp2
          go_roundw
          case rel => exact ⟨j + 1, by omega, by rw [show 16 * g + (j + 1) = b + 1 by have := HBE.out; omega]; go_num, by rw [HHS.out], hown3, HA3, HR3, HH3, HRR3, hb3⟩
          case measure => simp [intOf]; have := HBE.out; omega
        · have hj16 : j = 16 := by omega
          subst hj16
          have hI : ¬ ((16 * g + 16 : Nat) : Int) < 16 * (g : Int) + 16 := by omega
          have HE : Hid (hasTo U g 16 = has16 U g ∧ memTo U g 16 = mem16 U g) := hidden ⟨rfl, rfl⟩
          rw [HE.out.2] at hownS
          rw [HE.out.1]
          have hownH := HH.out
          have hh2 := has16_lt U g
          have HHS := hidden (headTo_succ U g)
          have HRS := hidden (usedRest_succ U g)
          have HG0 : Hid (grp16 U g = if has16 U g = 1 then mem16 U g else []) := hidden rfl
          have HML := hidden (mem16_len U g)
          obtain ⟨h, hh⟩ : ∃ h, has16 U g = h := ⟨_, rfl⟩
          rw [hh] at hh2 HHS HG0 ⊢
          clear hh
          obtain ⟨gs, cs, rfl⟩ := Joins.ownsRow_form hownS (by omega)
          have hgs := hownS.lt gs rfl
          go_wp2_with (at_builtin; refine wpList_append_own_at _ rfl _ _ 22 rfl w1.heap.size 5 i0 (.int .u8 0) 1 1 Try.underlying22 hi hz0 hz1 hz2 rfl (by decide) _ _ _ rfl (hownH.alloc _) ⟨wr.heap.size, 0, none⟩ 1 1 [.int .u8 (h : Int)] rfl rfl ?f1 ?f2 ?f3 ?f4 ?f5 ?_)
          case f2 => first | rfl | exact fun u hu => by simp at hu; subst hu; rfl
          case f3 => unfold maxLen; omega
          case f4 => omega
          case f5 => first | omega | (simp; omega)
          intro v3 w3 hown3 hgrow _ hloc
          have hb3 := bel_app hblx hszx hownH hgrow
          have hs3 := hb3.size
          have HA3 : Hid (Apart v3 u5) := hidden (apart_app1 HAp.out HR.out hloc)
          have hR3 := apart_kept HAp.out (HR.out.alloc (.cells #[.int .u8 (h : Int)] 5)) hgrow
          have HAS : Hid (Apart v3 (.slice (some ⟨gs, 0, none⟩) 16 cs)) := hidden (apart_app1 HApH.out.symm hownS hloc)
          have hS3 := apart_kept HApH.out.symm (hownS.alloc (.cells #[.int .u8 (h : Int)] 5)) hgrow
          rw [← u8s_snoc, ← HHS.out] at hown3
          have HH3 := hidden hown3
          clear hownS hownH hgrow hloc hown3 HH HR hblx
          have HRl := HRL.out
          by_cases h1 : h = 1
          · subst h1
            have HRS2 : Hid (usedRest U (g + 1) = usedRest U g ++ mem16 U g) := hidden (by rw [HRS.out, HG0.out, if_pos rfl])
            go_wp2_with (at_builtin; refine wpList_append_own_at _ rfl _ _ 22 rfl w1.heap.size 5 i0 (.int .u8 0) 1 1 Try.underlying22 hi hz0 hz1 hz2 rfl (by decide) _ _ _ rfl hR3 ⟨gs, 0, none⟩ 16 cs (u8s (mem16 U g)) rfl ?d0 ?d1 ?d2 ?d3 ?d4 ?d5 ?_)
            case d0 => rw [u8s_len, HML.out]
            case d1 => exact fun j u hu => (hS3.cellAt j (by have := (List.getElem?_eq_some_iff.1 hu).1; rw [u8s_len, HML.out] at this; omega)).trans hu
            case d2 => exact u8s_one _
            case d3 => unfold maxLen; omega
            case d4 => omega
            intro v4 w4 hown4 hgrow4 _ hloc4
            have hb4 : Below w1.heap.size w1 w4 := hb3.grown hgrow4 (by omega) (fun g hg => (hR3.lt g hg).1)
            have hA4 : Apart v3 v4 := (apart_app HA3.out.symm HH3.out hloc4).symm
            have hH4 := apart_kept HA3.out.symm HH3.out hgrow4
            rw [← u8s_append, ← HRS2.out] at hown4
            have HO4 : Hid (w4.ownsRow w1.heap.size 5 1 v4 (usedRest U (g + 1)).length (u8s (usedRest U (g + 1)))) := hidden (by rw [show (usedRest U (g + 1)).length = (usedRest U g).length + 16 by rw [HRS2.out, List.length_append, HML.out]]; exact hown4)
            clear hown4 hgrow4 hloc4 hR3 hS3 hb3
            go_wp2
            go_roundw
            case rel => exact ⟨g + 1, by omega, by go_num, hH4, HO4.out, hA4, hb4⟩
            case measure => simp [intOf]; omega
          · have h0 : h = 0 := by omega
            subst h0
            have HRS2 : Hid (usedRest U (g + 1) = usedRest U g) := hidden (by rw [HRS.out, HG0.out, if_neg (by omega), List.append_nil])
            go_wp2
            go_roundw
            case rel => exact ⟨g + 1, by omega, by go_num, HH3.out, by rw [HRS2.out]; exact hR3, HA3.out, hb3⟩
            case measure => simp [intOf]; omega
    · have hg16 : g = 16 := by omega
      subst hg16
      have hrl := HRP.out
      have HRl := HRL.out
      obtain ⟨m, hm⟩ : ∃ m, (usedRest U 16).length = m := ⟨_, rfl⟩
      have HM := hidden hm
      rw [hm] at hrl HRl hownR
      clear hm
      obtain ⟨gr, cr, rfl⟩ := Joins.ownsRow_form hownR (by omega)
      go_wp2_with (at_builtin; refine wpList_append_own_at _ rfl _ _ 22 rfl w1.heap.size 5 i0 (.int .u8 0) 1 1 Try.underlying22 hi hz0 hz1 hz2 rfl (by decide) _ _ _ rfl hownH ⟨gr, 0, none⟩ m cr (u8s (usedRest U 16)) rfl ?e0 ?e1 ?e2 ?e3 ?e4 ?e5 ?_)
      case e0 => rw [u8s_len, HM.out, Nat.mul_one]
      case e1 => exact fun j u hu => hownR.cells rfl j u hu
      case e2 => exact u8s_one _
      case e3 => unfold maxLen; omega
      case e4 => omega
      case e5 => omega
      intro v4 w4 hown4 hgrow4 _ _
      have hb4 : Below w1.heap.size w1 w4 := hbl.grown hgrow4 (by omega) (fun g hg => (hownH.lt g hg).1)
      rw [← u8s_append, ← HB.out] at hown4
      have HL4 : Hid ((usedBits U).length = 16 + m) := hidden (by rw [HB.out, List.length_append, headTo_len, HM.out])
      go_wp2
      go_ret
      exact ⟨_, rfl, by rw [HL4.out]; exact Joins.ownsRow_le hown4 hs1, bel_then hb4 hs1 b1⟩

/-- What a PutX of chapter 7 answers, yes and no: the bits closed, or nothing. -/
theorem specPutUsed_yes (s : ByteArray) (w : World) (hs : s.size ≤ 1048576) (hok : setOk (bytesOf s) = true) :
    Calls Try.prog 16 #[.string s] w fun e w' => ∃ D, Packs D (usedBits (bytesOf s)) ∧ e = .returned (.tuple #[.agg #[.string (strOf D), .int .i64 ((usedBits (bytesOf s)).length : Int)], .bool true]) ∧ Below w.heap.size w w' := by
  have bb : Below w.heap.size w (w.alloc (.cells #[.string ⟨#[]⟩, .int .i64 0] 25)) := (Below.refl _ _).alloc (Nat.le_refl _) _
  have hR := Has.fresh w 25 #[.string ⟨#[]⟩, .int .i64 0]
  have K0 := hidden (fun W => l7used_any s W hs)
  rw [hok] at K0
  have K1 := hidden (fun W => l7put_any s W hs hok)
  have hle := usedBits_len (bytesOf s)
  have K2 := hidden (fun (W : World) v base h => l1close_own (usedBits (bytesOf s)) (usedBits_lt _) v base W (by omega) h)
  obtain ⟨P, hP⟩ : ∃ P, usedBits (bytesOf s) = P := ⟨_, rfl⟩
  rw [hP] at K1 K2 ⊢
  clear hP hle
  go_enter Try.func16, Try.ntmps16
  go_wp2_with fail
  refine (K0.out _).mono ?_
  rintro e w2 ⟨rfl, b2⟩
  replace bb := bel_then b2 bb.size bb
  replace hR := hR.below b2 hR.lt
  have hs2 := bb.size
  clear b2
  go_wp2_with fail
  refine (K1.out _).mono ?_
  rintro e w3 ⟨v, rfl, hown, b3⟩
  replace bb := bel_then b3 hs2 bb
  replace hR := hR.below b3 hR.lt
  have hs3 := bb.size
  clear b3
  go_wp2_with fail
  refine (K2.out _ _ _ hown).mono ?_
  rintro e w4 ⟨D, hD, rfl, b4⟩
  replace bb := bel_then b4 hs3 bb
  replace hR := hR.below b4 hR.lt
  have e0 := hR.cell 0
  have e1 := hR.cell 1
  have g0 := hR.free 0
  have g1 := hR.free 1
  simp at e0 e1
  have hs4 := bb.size
  clear b4 hown hR
  go_wp2
  refine bodyPost_ret (v := .tuple #[.agg #[.string (strOf D), .int .i64 (P.length : Int)], .bool true]) (by simp [results, Try.results16, go_sem, e0, e1, g0, g1]) rfl ⟨D, hD, rfl, ?_⟩
  repeat (first | exact Below.refl _ _ | assumption | refine Below.alloc ?_ (by (try simp); (try omega)) _ | refine Below.setCell ?_ (by (try simp); (try omega)) _ | refine Below.drew ?_ | refine bel_then (by assumption) (by (try simp); (try omega)) ?_)
theorem specPutUsed_no (s : ByteArray) (w : World) (hs : s.size ≤ 1048576) (hok : setOk (bytesOf s) = false) :
    Calls Try.prog 16 #[.string s] w fun e w' => e = .returned (.tuple #[.agg #[.string ⟨#[]⟩, .int .i64 0], .bool false]) ∧ Below w.heap.size w w' := by
  have bb : Below w.heap.size w (w.alloc (.cells #[.string ⟨#[]⟩, .int .i64 0] 25)) := (Below.refl _ _).alloc (Nat.le_refl _) _
  have hR := Has.fresh w 25 #[.string ⟨#[]⟩, .int .i64 0]
  have K0 := hidden (fun W => l7used_any s W hs)
  rw [hok] at K0
  go_enter Try.func16, Try.ntmps16
  go_wp2_with fail
  refine (K0.out _).mono ?_
  rintro e w2 ⟨rfl, b2⟩
  replace bb := bel_then b2 bb.size bb
  replace hR := hR.below b2 hR.lt
  have hs2 := bb.size
  have e0 := hR.cell 0
  have e1 := hR.cell 1
  have g0 := hR.free 0
  have g1 := hR.free 1
  simp at e0 e1
  clear b2 hR
  go_wp2
  refine bodyPost_ret (v := .tuple #[.agg #[.string ⟨#[]⟩, .int .i64 0], .bool false]) (by simp [results, Try.results16, go_sem, e0, e1, g0, g1]) rfl ⟨rfl, ?_⟩
  repeat (first | exact Below.refl _ _ | assumption | refine Below.alloc ?_ (by (try simp); (try omega)) _ | refine Below.setCell ?_ (by (try simp); (try omega)) _ | refine Below.drew ?_ | refine bel_then (by assumption) (by (try simp); (try omega)) ?_)
end Go.Proofs.Yteaohgipndmciaa
