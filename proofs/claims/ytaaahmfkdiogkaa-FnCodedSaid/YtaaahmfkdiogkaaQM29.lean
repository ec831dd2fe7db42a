/- Merged: C12J, C12K, C12L, Dr8A. -/
import Derived.Test.YtaaahmfkdiogkaaQM26
import Derived.Test.YtaaahmfkdiogkaaQM16
import Derived.Test.YtaaahmfkdiogkaaQM10
import Derived.Test.YtaaahmfkdiogkaaQM11
import Derived.Test.YtaaahmfkdiogkaaQM17
import Derived.Test.YtaaahmfkdiogkaaQM5
import Derived.Test.YtaaahmfkdiogkaaQM4
import Derived.Test.YtaaahmfkdiogkaaQM20
import Derived.RegionTactic
import Derived.ChangeAlike
namespace Go.Proofs.Ytaaahmfkdiogkaa
set_option linter.unusedVariables false
set_option linter.unusedSimpArgs false
open Go.RowKit

theorem Try.infoIntRow : (Try.prog.info? 24).map (fun i => (i.zero, i.size, i.bytes)) = some (some (.slice none 0 0), 1, 24) := by kernel_rfl
theorem cdOk_arg {S G : List Int} {T : List (List Int)} (h : cdOk S T G = true) : CdArg S T G (tbN T) := by
  obtain ⟨h1, h2, h3, h4⟩ := (cdOk_iff S T G).1 h
  obtain ⟨⟨h5, h6⟩, h7⟩ := (tbOk_iff _ _).1 h1
  obtain ⟨_, h10, h11⟩ := (rowB_iff _ _).1 h2
  exact ⟨fun j hj => ⟨by have := (h7 j hj).1; omega, (h7 j hj).2⟩, ((symsB_iff _ _).1 h4).2, h3, h11⟩
/-- Appending to a row of rows leaves the rows as they are. -/
theorem RowsAt.grownR {w w' : World} {base b2 n : Nat} {V xs : List Value} {T : List (List Int)} {vo : Value} (h : RowsAt w base V T) (hown : w.ownsRow b2 24 1 vo n xs) (hg : w.grownBy w' vo.ownBlock) : RowsAt w' base V T :=
  ⟨h.1, fun j hj => own_grown12 (h.2 j hj) hg (fun g h1 => own_types (h.2 j hj) hown (by decide) h1)⟩
/-- What is laid of codes, for each table. -/
theorem RowsAt.code {w : World} {base : Nat} {V : List Value} {T : List (List Int)} {M k : Nat} (h : RowsAt w base V (cdT T M)) (hk : k < M) (hok : lOk (T.getD k []) = true) : w.ownsRow base 3 1 (V.getD k undef) (T.getD k []).length (nats (T.getD k []).length (cdF (T.getD k []))) := by
  have := h.2 k (by rw [cdT_len]; exact hk)
  rw [cdT_get T M k hk, ints_len, intsV_ints, cdL_nats hok, cdL_len hok] at this
  exact this
set_option maxHeartbeats 8000000 in
set_option maxRecDepth 100000 in
theorem l12put_any (a at2 a3 : Option Addr) (cap capT cap3 B : Nat) (S G : List Int) (T : List (List Int)) (w : World) (hz : Ints w B a S) (hT : Tabs w B at2 T) (hz3 : Ints w B a3 G) (hB : B ≤ w.heap.size) (hok : cdOk S T G = true) :
    Calls Try.prog 79 #[.slice a S.length cap, .slice at2 T.length capT, .slice a3 G.length cap3] w fun e w' => ∃ v, e = .returned v ∧ w'.ownsRow w.heap.size 5 1 v (cpN S T G S.length) (u8s (cpF S T G S.length)) ∧ Below w.heap.size w w' := by
  obtain ⟨i0, hi, hz0, hz1, hz2'⟩ := info_parts Try.info5
  obtain ⟨j0, ji, jz0, jz1, jz2⟩ := info_parts Try.infoIntRow
  have HA := hidden (cdOk_arg hok)
  obtain ⟨_, hM1, hM4, hn1, hn2, hGl, _, _⟩ := cdOk_tab hok
  have hSl := (cdOk_tab hok).1.2.2
  have HLE := hidden (cpN_le HA.out)
  have HST : Hid (∀ i, cpF S T G (i + 1) = cpF S T G i ++ symBits1 (tabOf T G i) (S.getD i 0).toNat) := hidden (fun i => rfl)
  have HSN : Hid (∀ i, cpN S T G (i + 1) = cpN S T G i + lnF (tabOf T G i) (S.getD i 0).toNat) := hidden (fun i => rfl)
  have HZ := hidden hz
  have HT := hidden hT
  have HZ3 := hidden hz3
  obtain ⟨Q, hQ⟩ : ∃ Q, G.length = Q := ⟨_, rfl⟩
  obtain ⟨M, hM⟩ : ∃ M, T.length = M := ⟨_, rfl⟩
  obtain ⟨N, hN⟩ : ∃ N, S.length = N := ⟨_, rfl⟩
  obtain ⟨n, hn⟩ : ∃ n, tbN T = n := ⟨_, rfl⟩
  have HN := hidden hN
  have HM := hidden hM
  have HQ := hidden hQ
  rw [hn] at HA hn1 hn2
  rw [hM] at hM1 hM4 ⊢
  rw [hN] at hSl HLE ⊢
  rw [hQ]
  clear hz hT hz3 hok hGl hQ hM hN hn
  go_enter Try.func79, Try.ntmps79
  go_wp2
  go_loopw [8, 9] (fun vo st wr => ∃ (t : Nat) (V : List Value), t ≤ M ∧ st = .int .i64 t ∧ wr.ownsRow w.heap.size 24 1 vo t V ∧ Hid (RowsAt wr w.heap.size V (cdT T t)) ∧ Below w.heap.size w wr) (fun _ st _ => M - (intOf st).toNat)
  case atStart => exact ⟨0, [], by omega, rfl, World.ownsRow_nil _ _ _ _, hidden (RowsAt.nil _ _), Below.refl _ _⟩
  case round =>
    obtain ⟨t, V, ht, rfl, hown, HR, hbl⟩ := hrel
    obtain ⟨u, hu⟩ : ∃ u, u = wr := ⟨_, rfl⟩
    subst hu
    by_cases hlt : t < M
    · have hsz := hbl.size
      obtain ⟨tb, to, at4, ct4, rfl, htb, ck, hck, zk⟩ := (HT.out.below (hbl.mono hB)).at (i := t) (by rw [HM.out]; exact hlt)
      obtain ⟨l1, l2⟩ := HA.out.tab t (by rw [HM.out]; exact hlt)
      rw [l1] at ck hck
      have K := hidden (specCodes_yes at4 ct4 B (T.getD t []) u zk (Nat.le_trans hB hsz) l2)
      rw [l1] at K
      have HCD : Hid (nats n (cdF (T.getD t [])) = intsV (ints (cdL (T.getD t []))) ∧ (ints (cdL (T.getD t []))).length = n) := hidden (by
        rw [intsV_ints, cdL_nats l2, ints_len, cdL_len l2, l1]; exact ⟨rfl, rfl⟩)
      have HO := hidden hown
      have HBL := hidden hbl
      clear hown hbl zk l1 l2
      go_wp2_with fail
      refine K.out.mono ?_
      rintro e w3 ⟨vl, rfl, o3, b3⟩
      obtain ⟨al, cl, rfl⟩ := own_shape o3
      have hB3 := bel_then b3 HBL.out.size HBL.out
      have hs3 := hB3.size
      have HR3 := hidden (HR.out.below b3)
      have hO3 := own_bel HO.out b3
      have HV3 : Hid (w3.ownsRow w.heap.size 3 1 (.slice al n cl) (ints (cdL (T.getD t []))).length (intsV (ints (cdL (T.getD t []))))) := hidden (by
        rw [← HCD.out.1, HCD.out.2]
        exact own_base12 o3 hsz)
      clear K o3 b3
      go_wp2_with (at_builtin; refine wpList_append_own _ rfl _ _ 73 rfl w.heap.size 24 j0 (.slice none 0 0) 1 24 Try.underlying73 ji jz0 jz1 jz2 rfl (by decide) _ _ _ rfl (hO3.alloc _) ⟨w3.heap.size, 0, none⟩ 1 1 [.slice al n cl] rfl rfl ?c1 ?c2 ?c3 ?c4 ?c5 ?_)
      case c1 => exact cell_one_new _ _ _
      case c2 => exact fun u hu => by simp at hu; subst hu; rfl
      case c3 => unfold maxLen; omega
      case c4 => omega
      case c5 => first | omega | (simp; omega)
      intro v5 w5 hown5 hgrow _
      have hb5 := bel_app hB3 hs3 hO3 hgrow
      have HR5 : Hid (RowsAt w5 w.heap.size (V ++ [.slice al n cl]) (cdT T (t + 1))) := hidden (by
        rw [cdT_succ]
        have ha : Below w3.heap.size w3 (w3.alloc (.cells #[.slice al n cl] 24)) := (Below.refl _ _).alloc (Nat.le_refl _) _
        have h1 : RowsAt w3 w.heap.size V (cdT T t) := HR3.out
        have h2 := (own_bel HV3.out ha)
        rw [HCD.out.2] at h2
        exact RowsAt.snoc ((h1.below ha).grownR (hO3.alloc _) hgrow) (by
          rw [HCD.out.2]
          exact own_grown12 h2 hgrow (fun g h1 => own_types h2 (hO3.alloc _) (by decide) h1)))
      have HO5 := hidden hown5
      clear hO3 hown5 hgrow hB3
      go_wp2
      go_roundw
      case rel => exact ⟨t + 1, V ++ [.slice al n cl], by omega, by go_num, HO5.out, HR5, hb5⟩
      case measure => simp [intOf]; omega
    · obtain rfl : t = M := by omega
      obtain ⟨gc, cc, hvc⟩ := Joins.ownsRow_form hown (by omega)
      subst hvc
      have hgc := hown.lt gc rfl
      have hsz := hbl.size
      have HOC := hidden hown
      have HBL := hidden hbl
      clear hown hbl
      go_wp2
      go_loopw [7, 10, 11] (fun vo si _ wx => ∃ i : Nat, i ≤ N ∧ si = .int .i64 i ∧ wx.ownsRow u.heap.size 5 1 vo (cpN S T G i) (u8s (cpF S T G i)) ∧ Below u.heap.size u wx) (fun _ si _ _ => N - (intOf si).toNat)
      case atStart => exact ⟨0, Nat.zero_le _, rfl, by exact World.ownsRow_nil _ _ _ _, Below.refl _ _⟩
      case round =>
        obtain ⟨i, hi2, rfl, hownO, hbx⟩ := hrel
        have hszx := hbx.size
        by_cases hil : i < N
        · obtain ⟨k, x, hk, hxn, e1, e2, e3, hgi⟩ := HA.out.of (i := i) (by rw [HN.out]; exact hil)
          rw [HM.out] at hk
          rw [HQ.out] at hgi
          have bw : Below w.heap.size w wr := HBL.out.trans (hbx.mono hsz)
          obtain ⟨b, off, f1, hb, hcell⟩ := (HZ.out.below (bw.mono hB)).2.2 (by rw [HN.out]; omega)
          obtain ⟨b3, off3, f3, hb3, hcell3⟩ := (HZ3.out.below (bw.mono hB)).2.2 (by rw [HQ.out]; omega)
          obtain ⟨tb, to, at4, ct4, f2, htb, ct, hct, zk⟩ := (HT.out.below (bw.mono hB)).at (i := k) (by rw [HM.out]; exact hk)
          obtain ⟨l1, l2⟩ := HA.out.tab k (by rw [HM.out]; exact hk)
          rw [l1] at ct hct
          have ck := hcell i (by rw [HN.out]; exact hil)
          have cg := hcell3 (i / 10) (by rw [HQ.out]; exact hgi)
          rw [e2] at ck
          rw [e1] at cg
          obtain ⟨b4, off4, f4, hb4, hcell4⟩ := zk.2.2 (by rw [l1]; omega)
          have cl := hcell4 x (by rw [l1]; exact hxn)
          have hcd := HR.out.code (k := k) (by omega) l2
          rw [l1] at hcd
          obtain ⟨gk, hlk, hvk⟩ := Joins.ownsRow_form hcd (by omega)
          have hgk := hcd.lt gk (by rw [hvk]; rfl)
          have cc0 := (own_bel HOC.out hbx).cellAt k (by omega)
          have hVk : V[k]? = some (V.getD k undef) := by
            have : k < V.length := by have := HR.out.1; rw [cdT_len] at this; omega
            rw [List.getD_eq_getElem?_getD, List.getElem?_eq_getElem this]; rfl
          rw [hVk, hvk] at cc0
          rw [hvk] at hcd
          have cv := (own_bel hcd hbx).cellAt x (by omega)
          rw [nats_get _ _ x hxn] at cv
          have hln := lRange_ln (lOk_range l2) x (by rw [l1]; exact hxn)
          rw [lnF_int (lOk_range l2) x (by rw [l1]; exact hxn)] at cl
          have hcl := cdF_lt20 l2 x (by rw [l1]; exact hxn)
          have hnx := HST.out i
          have hnn := HSN.out i
          rw [e3, e2, Int.toNat_natCast] at hnx hnn
          unfold symBits1 at hnx
          have hle := HLE.out i (by omega)
          obtain ⟨y, hy⟩ : ∃ y, lnF (T.getD k []) x = y := ⟨_, rfl⟩
          obtain ⟨c, hcy⟩ : ∃ c, cdF (T.getD k []) x = c := ⟨_, rfl⟩
          rw [hy] at cl hln hnx hnn
          rw [hcy] at cv hcl hnx
          have HK := hidden (fun W => l1num_any c y W (by omega) (by omega))
          obtain ⟨p, hp⟩ : ∃ p, cpN S T G i = p := ⟨_, rfl⟩
          obtain ⟨Pp, hPp⟩ : ∃ Pp, cpF S T G i = Pp := ⟨_, rfl⟩
          rw [hp, hPp] at hownO
          rw [hp] at hle hnn
          rw [hPp] at hnx
          have HNX := hidden hnx
          have HNN := hidden hnn
          have hq : (i : Int).tdiv 10 = ((i / 10 : Nat) : Int) := by rw [Int.tdiv_eq_ediv_of_nonneg (by omega)]; omega
          have hq2 : (i : Int) / 10 = ((i / 10 : Nat) : Int) := by omega
          obtain ⟨d, hd⟩ : ∃ d, i / 10 = d := ⟨_, rfl⟩
          rw [hd] at cg hgi hq hq2
          have m1 : (x : Int) < (n : Int) := by omega
          have m2 : (0 : Int) ≤ (x : Int) := by omega
          have m3 : (i : Int) < (N : Int) := by omega
          have m4 : (0 : Int) ≤ (i : Int) := by omega
          have m5 : (k : Int) < (t : Int) := by omega
          have m6 : (0 : Int) ≤ (k : Int) := by omega
          have q1 : b < wr.heap.size := by omega
          have q2 : tb < wr.heap.size := by omega
          have q3 : b4 < wr.heap.size := by omega
          have q4 : gc < wr.heap.size := by omega
          have q5 : gk < wr.heap.size := by omega
          have bb : Below u.heap.size u wr := hbx
          have hl8 : (u8s (nbits c y)).length = y * 1 := by rw [u8s_len, nbits_len]; omega
          have hm8 : p + y ≤ maxLen := by unfold maxLen; omega
          have hb8 : (p + y) * 1 ≤ 140737488355328 := by omega
          subst f1 f2 f3 f4
          clear hcell hcell3 hcell4 zk hcd hvk hVk hcy hy hp hPp e1 e2 e3 hd l1 l2 hnx hnn bw hbx
          go_wp2
          go_region_held3 (fun w' => w'.cell? ⟨b, off + i, none⟩ = some (.int .i64 (x : Int)) ∧ w'.cell? ⟨tb, to + k, none⟩ = some (.slice (some ⟨b4, off4, none⟩) n ct4) ∧ w'.cell? ⟨b4, off4 + x, none⟩ = some (.int .i64 (y : Int)) ∧ w'.cell? ⟨gc, k, none⟩ = some (.slice (some ⟨gk, 0, none⟩) n hlk) ∧ w'.cell? ⟨gk, x, none⟩ = some (.int .i64 (c : Int))) (go_keep) (first | (go_at_call 114; refine (HK.out _).mono ?_; rintro e wp ⟨rfl, hownN, Bp⟩; have g1 := (Bp.cell (p := ⟨b, off + i, none⟩) q1).trans ck; have g2 := (Bp.cell (p := ⟨tb, to + k, none⟩) q2).trans ct; have g3 := (Bp.cell (p := ⟨b4, off4 + x, none⟩) q3).trans cl; have g4 := (Bp.cell (p := ⟨gc, k, none⟩) q4).trans cc0; have g5 := (Bp.cell (p := ⟨gk, x, none⟩) q5).trans cv; have hownP := own_belH hownO (fun i hi => Bp.block i hi); have bP : Below u.heap.size u wp := bel_then Bp hszx ⟨bb.os, bb.tape, bb.output, bb.size, bb.block⟩) | (refine step_append_at4 _ (by rfl) _ _ _ (by rfl) u.heap.size 5 i0 (.int .u8 0) 1 1 Try.underlying59 hi hz0 hz1 hz2' (by rfl) (by decide) u7 p _ (by rfl) (by exact hownP) ⟨wr.heap.size, 0, none⟩ y y (u8s (nbits c y)) (by rfl) hl8 (u8s_lies hownN) (u8s_one _) hm8 hb8 (by exact bP.size) ?_; intro v2 wB oB gB; have k1 := grown_cell gB g1 (own_ne hownP (by show b < u.heap.size; omega)); have k2 := grown_cell gB g2 (own_ne hownP (by show tb < u.heap.size; omega)); have k3 := grown_cell gB g3 (own_ne hownP (by show b4 < u.heap.size; omega)); have k4 := grown_cell gB g4 (own_ne hownP (by show gc < u.heap.size; omega)); have k5 := grown_cell gB g5 (own_ne hownP (by show gk < u.heap.size; omega)); have bB : Below u.heap.size u wB := bP.grown gB bP.size (fun b hb => (hownP.lt b hb).1)))
          all_goals
            have oB2 : wB.ownsRow u.heap.size 5 1 v2 (cpN S T G (i + 1)) (u8s (cpF S T G (i + 1))) := by
              rw [HNX.out, HNN.out, u8s_append]; exact oB
            go_wp2
            exact ⟨⟨i + 1, by omega, by go_num, oB2, bB⟩, by simp [intOf]; omega⟩
        · obtain rfl : i = N := by omega
          have BB := bel_then hbx hsz HBL.out
          have OO := own_base12 hownO hsz
          clear hownO hbx
          go_wp2
          go_ret
          exact ⟨_, rfl, OO, BB⟩
end Go.Proofs.Ytaaahmfkdiogkaa
namespace Go.Proofs.Ytaaahmfkdiogkaa
set_option linter.unusedVariables false
set_option linter.unusedSimpArgs false
open Go.RowKit

theorem Tabs.keep {w w' : World} {B : Nat} {a : Option Addr} {T : List (List Int)} (h : Tabs w B a T) (hk : ∀ p : Addr, p.block < B → w'.cell? p = w.cell? p) : Tabs w' B a T :=
  ⟨h.1, fun h0 => by
    obtain ⟨b, off, e, hB, hc⟩ := h.2 h0
    refine ⟨b, off, e, hB, fun i hi => ?_⟩
    obtain ⟨v, hv, a2, c2, e2, h1, h2⟩ := hc i hi
    exact ⟨v, (hk ⟨b, off + i, none⟩ hB).trans hv, a2, c2, e2, h1, h2.keep hk⟩⟩
theorem only_keep12 {b B : Nat} {w w' : World} (h : Only b w w') (hB : B ≤ b) (hb : b < w.heap.size) : ∀ p : Addr, p.block < B → w'.cell? p = w.cell? p := fun p hp =>
  (h.below hB (by omega)).cell hp
theorem only_drewn {b : Nat} {w w' : World} {n : Nat} (h : Only b (w.drewN n) w') : Only b w w' := ⟨h.os, h.tape, h.output, h.size, h.block⟩
theorem rows_only {b base : Nat} {w w' : World} {V : List Value} {T : List (List Int)} (h : RowsAt w base V T) (ho : Only b w w') (hb : b < base) : RowsAt w' base V T :=
  ⟨h.1, fun j hj => own_only (h.2 j hj) ho hb⟩
theorem bel_only12 {b : Nat} {w u w' : World} (hb : Below w.heap.size w u) (ho : Only b u w') : Only b w w' := ⟨ho.os.trans hb.os, ho.tape.trans hb.tape, ho.output.trans hb.output, Nat.le_trans hb.size ho.size, fun q hq hne => (ho.block q (Nat.lt_of_lt_of_le hq hb.size) hne).trans (hb.block q hq)⟩
def lenOf12 : Value → Nat
  | .slice _ n _ => n
  | _ => 0
set_option maxHeartbeats 8000000 in
set_option maxRecDepth 100000 in
theorem l12get_any (at2 a3 : Option Addr) (capT cap3 B b at0 n : Nat) (Y : TypeId) (G : List Int) (T : List (List Int)) (s : ByteArray) (e0 : Int) (w : World) (hT : Tabs w B at2 T) (hz3 : Ints w B a3 G) (hB : B ≤ b) (hA : GdArg T G n) (hn1 : 1 ≤ n) (hn2 : n ≤ 260) (hM1 : 1 ≤ T.length) (hM4 : T.length ≤ 4) (hQ6 : G.length ≤ 600) (hs : s.size ≤ 1048576) (ha : at0 ≤ 8 * s.size) (hb : Has w b Y #[.string s, .int .i64 at0]) :
    Calls Try.prog 85 #[.pointer (some ⟨b, 0, none⟩), .slice at2 T.length capT, .slice a3 G.length cap3, .int .i64 e0] w fun e w' => Only b w w' ∧
      ((∃ xs c v, Fin12 s T G e0 at0 0 xs c ∧ e = .returned v ∧ w'.ownsRow w.heap.size 3 1 v xs.length (natsL xs) ∧ Has w' b Y #[.string s, .int .i64 (c : Int)]) ∨
       ((∀ xs c, ¬ Fin12 s T G e0 at0 0 xs c) ∧ e = .returned (.slice none 0 0))) := by
  obtain ⟨i0, hi, hz0, hz1, hz2⟩ := info_parts Try.infoInt
  obtain ⟨j0, ji, jz0, jz1, jz2⟩ := info_parts Try.infoIntRow
  have hbl1 := hb.lt
  have hBw : B ≤ w.heap.size := by omega
  have HA := hidden hA
  have HT := hidden hT
  have HZ3 := hidden hz3
  have HB := hidden hb
  have KG := hidden (fun (m : Nat) (h : m ≤ 2000) W => l12groups_any m W (by omega))
  have KH := hidden (fun (k : Nat) (hk : lOk (T.getD k []) = true) (a : Option Addr) (cap cb c m x : Nat) (vc : Value) (W : World) (h1 : Ints W B a (T.getD k [])) (h2 : W.ownsRow cb 3 1 vc (T.getD k []).length (nats (T.getD k []).length (cdF (T.getD k [])))) (h4 : vc.ownBlock ≠ some b) (h5 : Has W b Y #[.string s, .int .i64 c]) (h6 : c ≤ 8 * s.size) (h7 : hit (T.getD k []) s c m x) => l4get_hit a cap B cb b c m x Y vc (T.getD k []) s W h1 hk h2 hB h4 hs h6 h5 h7)
  have KN := hidden (fun (k : Nat) (hk : lOk (T.getD k []) = true) (a : Option Addr) (cap cb c : Nat) (vc : Value) (W : World) (h1 : Ints W B a (T.getD k [])) (h2 : W.ownsRow cb 3 1 vc (T.getD k []).length (nats (T.getD k []).length (cdF (T.getD k [])))) (h4 : vc.ownBlock ≠ some b) (h5 : Has W b Y #[.string s, .int .i64 c]) (h6 : c ≤ 8 * s.size) (h7 : ∀ m x, ¬ hit (T.getD k []) s c m x) => l4get_none a cap B cb b c Y vc (T.getD k []) s W h1 hk h2 hB h4 hs h6 h5 h7)
  obtain ⟨Q, hQ⟩ : ∃ Q, G.length = Q := ⟨_, rfl⟩
  obtain ⟨M, hM⟩ : ∃ M, T.length = M := ⟨_, rfl⟩
  have HM := hidden hM
  have HQ := hidden hQ
  rw [hM] at hM1 hM4 ⊢
  rw [hQ] at hQ6 ⊢
  clear hT hz3 hA hQ hM hb
  go_enter Try.func85, Try.ntmps85
  go_wp2
  go_loopw [10, 11] (fun vo st wr => ∃ (t : Nat) (V : List Value), t ≤ M ∧ st = .int .i64 t ∧ wr.ownsRow w.heap.size 24 1 vo t V ∧ Hid (RowsAt wr w.heap.size V (cdT T t)) ∧ Below w.heap.size w wr) (fun _ st _ => M - (intOf st).toNat)
  case atStart => exact ⟨0, [], by omega, rfl, World.ownsRow_nil _ _ _ _, hidden (RowsAt.nil _ _), Below.refl _ _⟩
  case round =>
    obtain ⟨t, V, ht, rfl, hown, HR, hbl⟩ := hrel
    obtain ⟨u, hu⟩ : ∃ u, u = wr := ⟨_, rfl⟩
    subst hu
    by_cases hlt : t < M
    · have hsz := hbl.size
      obtain ⟨tb, to, at4, ct4, rfl, htb, ck, hck, zk⟩ := (HT.out.below (hbl.mono hBw)).at (i := t) (by rw [HM.out]; exact hlt)
      obtain ⟨l1, l2⟩ := HA.out.tab t (by rw [HM.out]; exact hlt)
      rw [l1] at ck hck
      have K := hidden (specCodes_yes at4 ct4 B (T.getD t []) u zk (Nat.le_trans hBw hsz) l2)
      rw [l1] at K
      have HCD : Hid (nats n (cdF (T.getD t [])) = intsV (ints (cdL (T.getD t []))) ∧ (ints (cdL (T.getD t []))).length = n) := hidden (by
        rw [intsV_ints, cdL_nats l2, ints_len, cdL_len l2, l1]; exact ⟨rfl, rfl⟩)
      have HO := hidden hown
      have HBL := hidden hbl
      clear hown hbl zk l1 l2
      go_wp2_with fail
      refine K.out.mono ?_
      rintro e w3 ⟨vl, rfl, o3, b3⟩
      obtain ⟨al, cl, rfl⟩ := own_shape o3
      have hB3 := bel_then b3 HBL.out.size HBL.out
      have hs3 := hB3.size
      have HR3 := hidden (HR.out.below b3)
      have hO3 := own_bel HO.out b3
      have HV3 : Hid (w3.ownsRow w.heap.size 3 1 (.slice al n cl) (ints (cdL (T.getD t []))).length (intsV (ints (cdL (T.getD t []))))) := hidden (by
        rw [← HCD.out.1, HCD.out.2]
        exact own_base12 o3 hsz)
      clear K o3 b3
      go_wp2_with (at_builtin; refine wpList_append_own _ rfl _ _ 73 rfl w.heap.size 24 j0 (.slice none 0 0) 1 24 Try.underlying73 ji jz0 jz1 jz2 rfl (by decide) _ _ _ rfl (hO3.alloc _) ⟨w3.heap.size, 0, none⟩ 1 1 [.slice al n cl] rfl rfl ?c1 ?c2 ?c3 ?c4 ?c5 ?_)
      case c1 => exact cell_one_new _ _ _
      case c2 => exact fun u hu => by simp at hu; subst hu; rfl
      case c3 => unfold maxLen; omega
      case c4 => omega
      case c5 => first | omega | (simp; omega)
      intro v5 w5 hown5 hgrow _
      have hb5 := bel_app hB3 hs3 hO3 hgrow
      have HR5 : Hid (RowsAt w5 w.heap.size (V ++ [.slice al n cl]) (cdT T (t + 1))) := hidden (by
        rw [cdT_succ]
        have ha : Below w3.heap.size w3 (w3.alloc (.cells #[.slice al n cl] 24)) := (Below.refl _ _).alloc (Nat.le_refl _) _
        have h1 : RowsAt w3 w.heap.size V (cdT T t) := HR3.out
        have h2 := (own_bel HV3.out ha)
        rw [HCD.out.2] at h2
        exact RowsAt.snoc ((h1.below ha).grownR (hO3.alloc _) hgrow) (by
          rw [HCD.out.2]
          exact own_grown12 h2 hgrow (fun g h1 => own_types h2 (hO3.alloc _) (by decide) h1)))
      have HO5 := hidden hown5
      clear hO3 hown5 hgrow hB3
      go_wp2
      go_roundw
      case rel => exact ⟨t + 1, V ++ [.slice al n cl], by omega, by go_num, HO5.out, HR5, hb5⟩
      case measure => simp [intOf]; omega
    · obtain rfl : t = M := by omega
      obtain ⟨gc, cc, hvc⟩ := Joins.ownsRow_form hown (by omega)
      subst hvc
      have hgc := hown.lt gc rfl
      have hsz := hbl.size
      have HOC := hidden hown
      have HBL := hidden hbl
      have hbl2 : b < w.heap.size := hbl1
      have HBu := hidden (HB.out.below hbl hbl1)
      have HTu := hidden (HT.out.below (hbl.mono hBw))
      have HGu := hidden (HZ3.out.below (hbl.mono hBw))
      clear hown hbl
      go_wp2
      go_loopw [9, 12, 13] (fun vo _ _ wx => ∃ (i c : Nat) (D : List Nat), i ≤ 2000 ∧ c ≤ 8 * s.size ∧ Hid (D.length = i ∧ ∀ xs c', Fin12 s T G e0 at0 0 xs c' ↔ ∃ zs, xs = D ++ zs ∧ Fin12 s T G e0 c i zs c') ∧ wx.ownsRow u.heap.size 3 1 vo i (natsL D) ∧ Hid (Has wx b Y #[.string s, .int .i64 (c : Int)]) ∧ Only b u wx) (fun vo _ _ _ => 2000 - lenOf12 vo)
      case atStart => exact ⟨0, at0, [], by omega, ha, hidden ⟨rfl, fin_start _ _ _ _ _⟩, World.ownsRow_nil _ _ _ _, HBu, Only.refl _ _⟩
      case round =>
        obtain ⟨i, c, D, hi2, hc, HD, hown, HBr, hO⟩ := hrel
        have hszx := hO.size
        obtain ⟨av, cv, hvo⟩ := own_shape hown
        subst hvo
        have hq : (i : Int).tdiv 10 = ((i / 10 : Nat) : Int) := by rw [Int.tdiv_eq_ediv_of_nonneg (by omega)]; omega
        have hq2 : (i : Int) / 10 = ((i / 10 : Nat) : Int) := by omega
        by_cases hin : i < 2000 ∧ i / 10 < Q
        · obtain ⟨hi3, hiq⟩ := hin
          obtain ⟨k, hk, e1, e3⟩ := HA.out.of (i := i) (by rw [HQ.out]; exact hiq)
          rw [HM.out] at hk
          obtain ⟨l1, l2⟩ := HA.out.tab k (by rw [HM.out]; exact hk)
          have hkp := only_keep12 hO hB (by omega)
          obtain ⟨b3, off3, f3, hb3, hcell3⟩ := (HGu.out.keep hkp).2.2 (by rw [HQ.out]; omega)
          obtain ⟨tb, to, at4, ct4, f2, htb, ct, hct, zk⟩ := (HTu.out.keep hkp).at (i := k) (by rw [HM.out]; exact hk)
          rw [l1] at ct hct
          have cg := hcell3 (i / 10) (by rw [HQ.out]; exact hiq)
          rw [e1] at cg
          have hcd := HR.out.code (k := k) (by omega) l2
          rw [l1] at hcd
          obtain ⟨gk, hlk, hvk⟩ := Joins.ownsRow_form hcd (by omega)
          have hgk := hcd.lt gk (by rw [hvk]; rfl)
          have cc0 := (own_only HOC.out hO hbl2).cellAt k (by omega)
          have hVk : V[k]? = some (V.getD k undef) := by
            have : k < V.length := by have := HR.out.1; rw [cdT_len] at this; omega
            rw [List.getD_eq_getElem?_getD, List.getElem?_eq_getElem this]; rfl
          rw [hVk, hvk] at cc0
          rw [hvk] at hcd
          have hcd2 := own_only hcd hO hbl2
          rw [← l1] at hcd2
          have hne : (Value.slice (some ⟨gk, 0, none⟩) (T.getD k []).length hlk).ownBlock ≠ some b := by simp [Value.ownBlock]; omega
          have m1 : ((i / 10 : Nat) : Int) < (Q : Int) := by omega
          have m2 : (0 : Int) ≤ ((i / 10 : Nat) : Int) := by omega
          have m5 : (k : Int) < (t : Int) := by omega
          have m6 : (0 : Int) ≤ (k : Int) := by omega
          have HZK := hidden zk
          have HBR := HBr.out
          have HOW := hidden hown
          have HLO := hidden (HA.out.ok (i := i) (by rw [HQ.out]; exact hiq))
          obtain ⟨d, hd⟩ : ∃ d, i / 10 = d := ⟨_, rfl⟩
          rw [hd] at cg hiq hq hq2 m1 m2
          clear hcell3 hcd hvk hVk e1 hd hkp zk hown HBr
          subst f2 f3
          by_cases hh : ∃ m x, hit (T.getD k []) s c m x
          · obtain ⟨m, x, hh⟩ := hh
            have hcm := hh.2.2.1
            have hxn := hh.1
            rw [l1] at hxn
            have KK := hidden (fun W h1 h2 h5 => KH.out k l2 at4 ct4 w.heap.size c m x (.slice (some ⟨gk, 0, none⟩) (T.getD k []).length hlk) W h1 h2 hne h5 hc hh)
            have HH := hidden hh
            rw [← e3] at HH
            rw [l1] at KK hcd2
            have hcd3 : wr.ownsRow w.heap.size 3 1 (.slice (some ⟨gk, 0, none⟩) n hlk) n (nats n (cdF (T.getD k []))) := hcd2
            have hIz : Ints wr B at4 (T.getD k []) := HZK.out
            clear hh hcd2 hne l1 l2 e3
            go_wp2
            go_region_held3 (fun w' => w'.cell? ⟨tb, to + k, none⟩ = some (.slice at4 n ct4) ∧ w'.cell? ⟨gc, k, none⟩ = some (.slice (some ⟨gk, 0, none⟩) n hlk)) (go_keep) (first | (go_at_call 116; (with_reducible refine (KK.out _ ?h1 ?h2 ?h5).mono ?_); (case h1 => exact hIz); (case h2 => exact hcd3); (case h5 => exact HBR); rintro e w4 ⟨hO4, rfl, hR4⟩; have k1 := grown_cell (w := wr) ⟨hO4.os, hO4.tape, hO4.output, hO4.size, hO4.block⟩ ct (by simp; omega); have k2 := grown_cell (w := wr) ⟨hO4.os, hO4.tape, hO4.output, hO4.size, hO4.block⟩ cc0 (by simp; omega)))
            all_goals
              have hOw : Only b wr w4 := ⟨hO4.os, hO4.tape, hO4.output, hO4.size, hO4.block⟩
              have hO5 : Only b u w4 := World.grownBy.trans hO hOw
              have hown := own_only HOW.out hOw (by omega)
              have hx0 : ¬ (x : Int) < 0 := by omega
              have HR5 := hidden hR4
              clear hOw hO4 hR4 k1 k2 ct cc0 hcd3 hIz HBR KK hO HOW
              go_wp2_with (at_builtin; refine wpList_append_own _ rfl _ _ 24 rfl u.heap.size 3 i0 (.int .i64 0) 1 8 Try.underlying24 hi hz0 hz1 hz2 rfl (by decide) _ _ _ rfl (hown.alloc _) ⟨w4.heap.size, 0, none⟩ 1 1 [.int .i64 (x : Int)] rfl rfl ?d1 ?d2 ?d3 ?d4 ?d5 ?_)
              (try (case d1 => exact cell_one_new _ _ _))
              case d2 => first | rfl | exact fun u hu => by simp at hu; subst hu; rfl
              case d3 => unfold maxLen; omega
              case d4 => omega
              case d5 => first | omega | exact Nat.le_trans hO5.size (Nat.le_succ _) | (simp; omega)
              intro v5 w5 hown5 hgrow _
              have hr : ∀ q, Value.ownBlock (_ : Value) = some q → u.heap.size ≤ q := fun q hq => (hown.lt q hq).1
              have hO6 : Only b u w5 := (hO5.alloc _).grownNew hgrow hr
              have HB6 : Hid (Has w5 b Y #[.string s, .int .i64 ((c + m : Nat) : Int)]) := hidden ((HR5.out.alloc _).grown hgrow (by intro e; have := hr b e.symm; omega))
              have hown6 : w5.ownsRow u.heap.size 3 1 v5 (i + 1) (natsL (D ++ [x])) := by rw [natsL_snoc8]; exact hown5
              have hDl : (D ++ [x]).length = i + 1 := by rw [List.length_append, HD.out.1]; rfl
              obtain ⟨a5, c5, hv5⟩ := own_shape hown6
              subst hv5
              have HO6 := hidden hown6
              clear hown hown5 hown6 hgrow hO5 hr HR5
              by_cases hxe : (x : Int) = e0
              · subst hxe
                have K5 := hidden (KG.out (i + 1) (by omega) w5)
                have hI1 : ((i + 1 : Nat) : Int) = (i : Int) + 1 := by omega
                rw [hI1] at K5
                by_cases hg : grp (i + 1) = Q
                · have HF := hidden (fin_last HD.out.2 hi3 HH.out rfl (by rw [HQ.out]; exact hg))
                  rw [hg] at K5
                  clear HH HD
                  go_wp2_with fail
                  refine K5.out.mono ?_
                  rintro e w6 ⟨rfl, rfl⟩
                  go_wp2
                  go_ret
                  exact ⟨bel_only12 HBL.out hO6, .inl ⟨D ++ [x], c + m, _, HF.out, rfl, by rw [hDl]; exact own_base12 HO6.out hsz, HB6.out⟩⟩
                · have HF := hidden (fin_other HLO.out HD.out.2 HH.out rfl (by rw [HQ.out]; exact hg))
                  have hgI : ¬ ((grp (i + 1) : Nat) : Int) = (Q : Int) := by omega
                  obtain ⟨gq, hgq⟩ : ∃ gq, grp (i + 1) = gq := ⟨_, rfl⟩
                  rw [hgq] at K5 hgI
                  clear HH HD hg hgq
                  go_wp2_with fail
                  refine K5.out.mono ?_
                  rintro e w6 ⟨rfl, rfl⟩
                  go_wp2
                  go_ret
                  exact ⟨bel_only12 HBL.out hO6, .inr ⟨HF.out, rfl⟩⟩
              · have HD6 := hidden (And.intro hDl (fin_more HLO.out HD.out.2 hi3 HH.out hxe))
                clear HH HD hDl
                go_wp2
                go_roundw
                case rel => exact ⟨i + 1, c + m, D ++ [x], by omega, hcm, HD6, HO6.out, HB6, hO6⟩
                case measure => simp [lenOf12]; omega
          · have KK := hidden (fun W h1 h2 h5 => KN.out k l2 at4 ct4 w.heap.size c (.slice (some ⟨gk, 0, none⟩) (T.getD k []).length hlk) W h1 h2 hne h5 hc (fun m x hm => hh ⟨m, x, hm⟩))
            have HNH : Hid (∀ m x, ¬ hit (T.getD k []) s c m x) := hidden (fun m x hm => hh ⟨m, x, hm⟩)
            have HF := hidden (fin_none HD.out.2 (by rw [e3]; exact HNH.out))
            rw [l1] at KK hcd2
            have hcd3 : wr.ownsRow w.heap.size 3 1 (.slice (some ⟨gk, 0, none⟩) n hlk) n (nats n (cdF (T.getD k []))) := hcd2
            have hIz : Ints wr B at4 (T.getD k []) := HZK.out
            clear hh hcd2 hne l1 l2 e3
            go_wp2
            go_region_held3 (fun w' => w'.cell? ⟨tb, to + k, none⟩ = some (.slice at4 n ct4) ∧ w'.cell? ⟨gc, k, none⟩ = some (.slice (some ⟨gk, 0, none⟩) n hlk)) (go_keep) (first | (go_at_call 116; (with_reducible refine (KK.out _ ?h1 ?h2 ?h5).mono ?_); (case h1 => exact hIz); (case h2 => exact hcd3); (case h5 => exact HBR); rintro e w4 ⟨hO4, rfl⟩; have k1 := grown_cell (w := wr) ⟨hO4.os, hO4.tape, hO4.output, hO4.size, hO4.block⟩ ct (by simp; omega); have k2 := grown_cell (w := wr) ⟨hO4.os, hO4.tape, hO4.output, hO4.size, hO4.block⟩ cc0 (by simp; omega)))
            all_goals
              have hOw : Only b wr w4 := ⟨hO4.os, hO4.tape, hO4.output, hO4.size, hO4.block⟩
              have hO5 : Only b u w4 := World.grownBy.trans hO hOw
              clear hOw hO4 k1 k2 ct cc0 hcd3 hIz HBR KK hO HOW
              go_wp2
              go_ret
              exact ⟨bel_only12 HBL.out hO5, .inr ⟨HF.out, rfl⟩⟩
        · have HNO := hidden (fin_full HD.out.2 (by rw [HQ.out]; exact hin))
          have hx2 : ¬ i < 2000 ∨ (i < 2000 ∧ ¬ ((i / 10 : Nat) : Int) < (Q : Int)) := by omega
          obtain ⟨d, hd⟩ : ∃ d, i / 10 = d := ⟨_, rfl⟩
          rw [hd] at hx2 hq hq2
          clear hin hd hown
          rcases hx2 with hx2 | ⟨hx2, hx3⟩
          all_goals
            go_wp2
            go_ret
            exact ⟨bel_only12 HBL.out hO, .inr ⟨HNO.out, rfl⟩⟩
end Go.Proofs.Ytaaahmfkdiogkaa
namespace Go.Proofs.Ytaaahmfkdiogkaa
set_option linter.unusedVariables false
set_option linter.unusedSimpArgs false
open Go.RowKit

set_option maxHeartbeats 4000000 in
set_option maxRecDepth 100000 in
theorem specPutCoded_yes (a at2 a3 : Option Addr) (cap capT cap3 B : Nat) (S G : List Int) (T : List (List Int)) (w : World) (hz : Ints w B a S) (hT : Tabs w B at2 T) (hz3 : Ints w B a3 G) (hB : B ≤ w.heap.size) (hct : T.length ≤ capT) (hok : cdOk S T G = true) :
    Calls Try.prog 37 #[.slice a S.length cap, .slice at2 T.length capT, .slice a3 G.length cap3] w fun e w' => ∃ D, Packs D (cpF S T G S.length) ∧ e = .returned (.tuple #[.agg #[.string (strOf D), .int .i64 (cpN S T G S.length : Int)], .bool true]) ∧ Below w.heap.size w w' := by
  have HI := hidden hz
  have HI2 := hidden hT
  have HI3 := hidden hz3
  have bb : Below w.heap.size w (w.alloc (.cells #[.string ⟨#[]⟩, .int .i64 0] 40)) := (Below.refl _ _).alloc (Nat.le_refl _) _
  have hR := Has.fresh w 40 #[.string ⟨#[]⟩, .int .i64 0]
  have K1 := hidden (fun W h1 h2 h3 => l12ok_any a at2 a3 cap capT cap3 B S G T W h1 h2 h3 hct)
  rw [hok] at K1
  have K3 := hidden (fun W h1 h2 h3 h4 => l12put_any a at2 a3 cap capT cap3 B S G T W h1 h2 h3 h4 hok)
  have hSl := (cdOk_tab hok).1.2.2
  have hle := cpN_le (cdOk_arg hok) S.length (Nat.le_refl _)
  have K4 := hidden (fun (W : World) v base h => l1close_own (cpF S T G S.length) (cpF_lt S T G _) v base W (by rw [cpF_len]; omega) h)
  rw [cpF_len] at K4
  obtain ⟨P, hP⟩ : ∃ P, cpF S T G S.length = P := ⟨_, rfl⟩
  obtain ⟨p, hp⟩ : ∃ p, cpN S T G S.length = p := ⟨_, rfl⟩
  rw [hP] at K3 K4 ⊢
  rw [hp] at K3 K4 hle ⊢
  obtain ⟨Q, hQ⟩ : ∃ Q, G.length = Q := ⟨_, rfl⟩
  obtain ⟨M, hM⟩ : ∃ M, T.length = M := ⟨_, rfl⟩
  obtain ⟨N, hN⟩ : ∃ N, S.length = N := ⟨_, rfl⟩
  rw [hQ, hM, hN] at K1 K3 ⊢
  clear hz hT hz3 hok hP hp hQ hM hN hct
  go_enter Try.func37, Try.ntmps37
  go_wp2_with fail
  refine (K1.out _ (HI.out.below (bb.mono hB)) (HI2.out.below (bb.mono hB)) (HI3.out.below (bb.mono hB))).mono ?_
  rintro e w1 ⟨rfl, hw1⟩
  rw [hw1] at hR bb
  clear hw1
  have hs2 := bb.size
  go_wp2_with fail
  refine (K3.out _ (HI.out.below (bb.mono hB)) (HI2.out.below (bb.mono hB)) (HI3.out.below (bb.mono hB)) (Nat.le_trans hB hs2)).mono ?_
  rintro e w3 ⟨v, rfl, hown, b3⟩
  replace bb := bel_then b3 hs2 bb
  replace hR := hR.below b3 hR.lt
  have hs3 := bb.size
  clear b3
  go_wp2_with fail
  refine (K4.out _ _ _ hown).mono ?_
  rintro e w4 ⟨D, hD, rfl, b4⟩
  replace bb := bel_then b4 hs3 bb
  replace hR := hR.below b4 hR.lt
  have e0 := hR.cell 0
  have e1 := hR.cell 1
  have g0 := hR.free 0
  have g1 := hR.free 1
  simp at e0 e1
  have hs4 := bb.size
  clear b4 hown hR
  go_wp2
  refine bodyPost_ret (v := .tuple #[.agg #[.string (strOf D), .int .i64 (p : Int)], .bool true]) (by simp [results, Try.results37, go_sem, e0, e1, g0, g1]) rfl ⟨D, hD, rfl, ?_⟩
  repeat (first | exact Below.refl _ _ | assumption | refine Below.alloc ?_ (by (try simp); (try omega)) _ | refine Below.setCell ?_ (by (try simp); (try omega)) _ | refine Below.drew ?_ | refine bel_then (by assumption) (by (try simp); (try omega)) ?_)
set_option maxHeartbeats 2000000 in
set_option maxRecDepth 100000 in
theorem specPutCoded_no (a at2 a3 : Option Addr) (cap capT cap3 B : Nat) (S G : List Int) (T : List (List Int)) (w : World) (hz : Ints w B a S) (hT : Tabs w B at2 T) (hz3 : Ints w B a3 G) (hB : B ≤ w.heap.size) (hct : T.length ≤ capT) (hok : cdOk S T G = false) :
    Calls Try.prog 37 #[.slice a S.length cap, .slice at2 T.length capT, .slice a3 G.length cap3] w fun e w' => e = .returned (.tuple #[.agg #[.string ⟨#[]⟩, .int .i64 0], .bool false]) ∧ Below w.heap.size w w' := by
  have HI := hidden hz
  have HI2 := hidden hT
  have HI3 := hidden hz3
  have bb : Below w.heap.size w (w.alloc (.cells #[.string ⟨#[]⟩, .int .i64 0] 40)) := (Below.refl _ _).alloc (Nat.le_refl _) _
  have hR := Has.fresh w 40 #[.string ⟨#[]⟩, .int .i64 0]
  have K1 := hidden (fun W h1 h2 h3 => l12ok_any a at2 a3 cap capT cap3 B S G T W h1 h2 h3 hct)
  rw [hok] at K1
  obtain ⟨Q, hQ⟩ : ∃ Q, G.length = Q := ⟨_, rfl⟩
  obtain ⟨M, hM⟩ : ∃ M, T.length = M := ⟨_, rfl⟩
  obtain ⟨N, hN⟩ : ∃ N, S.length = N := ⟨_, rfl⟩
  rw [hQ, hM, hN] at K1 ⊢
  clear hz hT hz3 hok hQ hM hN hct
  go_enter Try.func37, Try.ntmps37
  go_wp2_with fail
  refine (K1.out _ (HI.out.below (bb.mono hB)) (HI2.out.below (bb.mono hB)) (HI3.out.below (bb.mono hB))).mono ?_
  rintro e w1 ⟨rfl, hw1⟩
  rw [hw1] at hR bb
  clear hw1
  have e0 := hR.cell 0
  have e1 := hR.cell 1
  have g0 := hR.free 0
  have g1 := hR.free 1
  simp at e0 e1
  have hs1 := bb.size
  clear hR
  go_wp2
  refine bodyPost_ret (v := .tuple #[.agg #[.string ⟨#[]⟩, .int .i64 0], .bool false]) (by simp [results, Try.results37, go_sem, e0, e1, g0, g1]) rfl ⟨rfl, ?_⟩
  repeat (first | exact Below.refl _ _ | assumption | refine Below.alloc ?_ (by (try simp); (try omega)) _ | refine Below.setCell ?_ (by (try simp); (try omega)) _ | refine Below.drew ?_ | refine bel_then (by assumption) (by (try simp); (try omega)) ?_)
/-- Are the tables and the groups valid? -/
def gdOk (T : List (List Int)) (G : List Int) : Bool := tbOk T (tbN T) && (decide (G.length ≤ 600) && symsB T.length G)
theorem gdOk_iff (T : List (List Int)) (G : List Int) : gdOk T G = true ↔ tbOk T (tbN T) = true ∧ G.length ≤ 600 ∧ symsB T.length G = true := by
  unfold gdOk; rw [Bool.and_eq_true, Bool.and_eq_true, decide_eq_true_eq]
theorem gdOk_arg {T : List (List Int)} {G : List Int} (h : gdOk T G = true) : GdArg T G (tbN T) ∧ 1 ≤ T.length ∧ T.length ≤ 4 ∧ 1 ≤ tbN T ∧ tbN T ≤ 260 ∧ G.length ≤ 600 := by
  obtain ⟨h1, h2, h3⟩ := (gdOk_iff T G).1 h
  obtain ⟨⟨h5, h6⟩, h7⟩ := (tbOk_iff _ _).1 h1
  have hr := lOk_range (h7 0 (by omega)).2
  have e : (T.getD 0 []).length = tbN T := rfl
  have := hr.1
  have := hr.2.1
  exact ⟨⟨fun j hj => ⟨by have := (h7 j hj).1; omega, (h7 j hj).2⟩, ((symsB_iff _ _).1 h3).2⟩, h5, h6, by omega, by omega, h2⟩
/-- What GetCoded answers. -/
def GC12 (s : ByteArray) (at0 : Nat) (T : List (List Int)) (G : List Int) (e0 : Int) (w : World) (e : Ending) (w' : World) : Prop :=
  ((∃ (xs : List Nat) (c : Nat) (v : Value), Fin12 s T G e0 at0 0 xs c ∧ e = .returned (.tuple #[v, .agg #[.string s, .int .i64 (c : Int)], .bool true]) ∧ w'.ownsRow w.heap.size 3 1 v xs.length (natsL xs)) ∨
   ((∀ xs c, ¬ Fin12 s T G e0 at0 0 xs c) ∧ e = .returned (.tuple #[.slice none 0 0, .agg #[.string ⟨#[]⟩, .int .i64 0], .bool false]))) ∧ Below w.heap.size w w'
set_option maxHeartbeats 4000000 in
set_option maxRecDepth 100000 in
theorem specGetCoded_any (at2 a3 : Option Addr) (capT cap3 B at0 : Nat) (G : List Int) (T : List (List Int)) (s : ByteArray) (e0 : Int) (w : World) (hT : Tabs w B at2 T) (hz3 : Ints w B a3 G) (hB : B ≤ w.heap.size) (hct : T.length ≤ capT) (hok : gdOk T G = true) (hs : s.size ≤ 1048576) (ha : at0 ≤ 8 * s.size) :
    Calls Try.prog 41 #[.agg #[.string s, .int .i64 at0], .slice at2 T.length capT, .slice a3 G.length cap3, .int .i64 e0] w (GC12 s at0 T G e0 w) := by
  obtain ⟨h1, h2, h3⟩ := (gdOk_iff T G).1 hok
  obtain ⟨hA, hM1, hM4, hn1, hn2, hQ⟩ := gdOk_arg hok
  have HI2 := hidden hT
  have HI3 := hidden hz3
  have KT := hidden (fun (W : World) (h : Tabs W B at2 T) => specTablesOk_any at2 capT B T (tbN T) W h)
  have KS := hidden (fun (W : World) (h : Ints W B a3 G) => (l4symsOk_any a3 cap3 B T.length G W h (by omega)).mono fun e w' h => (⟨h.1, h.2.symm⟩ : _ ∧ W = w'))
  rw [h1] at KT
  rw [h3] at KS
  have K2 := hidden (fun (W : World) (hTW : Tabs W B at2 T) (hGW : Ints W B a3 G) (h : Has W w.heap.size 48 #[.string s, .int .i64 (at0 : Int)]) => l12get_any at2 a3 capT cap3 B w.heap.size at0 (tbN T) 48 G T s e0 W hTW hGW hB hA hn1 hn2 hM1 hM4 hQ hs ha h)
  have hR := (Has.fresh w 48 #[.string s, .int .i64 at0]).alloc (.cells #[.string ⟨#[]⟩, .int .i64 0] 48)
  have bb : Below w.heap.size w ((w.alloc (.cells #[.string s, .int .i64 at0] 48)).alloc (.cells #[.string ⟨#[]⟩, .int .i64 0] 48)) := ((Below.refl _ _).alloc (Nat.le_refl _) _).alloc (by simp) _
  have hS := Has.freshAt (w := w.alloc (.cells #[.string s, .int .i64 at0] 48)) (g := w.heap.size + 1) (by simp) 48 #[.string ⟨#[]⟩, .int .i64 0]
  obtain ⟨tb, to, a4, c4, e4, htb, ct, hct2, zk⟩ := hT.at (i := 0) (by omega)
  have hN : (T.getD 0 []).length = tbN T := rfl
  rw [hN, Nat.add_zero] at ct
  have HXL : Hid (∀ xs c, Fin12 s T G e0 at0 0 xs c → 1 ≤ xs.length) := hidden (fun xs c h => h.grp.2.1)
  obtain ⟨n, hn⟩ : ∃ n, tbN T = n := ⟨_, rfl⟩
  obtain ⟨M, hM⟩ : ∃ M, T.length = M := ⟨_, rfl⟩
  obtain ⟨Q', hQ'⟩ : ∃ Q, G.length = Q := ⟨_, rfl⟩
  rw [hn] at ct KT
  rw [hM] at KT KS K2 hM1 hM4 hct ⊢
  rw [hQ'] at KS K2 hQ ⊢
  have hM0I : ((M : Int) == 0) = false := beq_eq_false_iff_ne.2 (by omega)
  have hq6 : decide ((600 : Int) < (Q' : Int)) = false := decide_eq_false (by omega)
  clear hT hz3 hok h1 h2 h3 hA hn hM hQ' hN zk hct2
  subst e4
  go_enter Try.func41, Try.ntmps41
  go_wp2_with fail
  refine (specRdOk_yes s at0 _ hs ha).mono ?_
  rintro e w2 ⟨rfl, b2⟩
  replace bb := bel_then b2 bb.size bb
  replace hR := hR.below b2 hR.lt
  replace hS := hS.below b2 hS.lt
  have hs2 := bb.size
  have hRl := hR.lt
  have hSl := hS.lt
  have ct3 := (bb.cell (p := ⟨tb, to, none⟩) (by show tb < w.heap.size; omega)).trans ct
  clear b2
  go_wp2_with fail
  refine (KT.out _ (HI2.out.below (bb.mono hB))).mono ?_
  rintro e w3 ⟨rfl, rfl⟩
  go_wp2_with fail
  refine (KS.out _ (HI3.out.below (bb.mono hB))).mono ?_
  rintro e w3 ⟨rfl, rfl⟩
  go_wp2_with fail
  refine (K2.out _ (HI2.out.below (bb.mono hB)) (HI3.out.below (bb.mono hB)) hR).mono ?_
  rintro e w3 ⟨hO, hcase⟩
  have hS3 := hO.has hS (by omega)
  have bb3 : Below w.heap.size w w3 := only_then hO (Nat.le_refl _) hs2 bb
  have hs3 := bb3.size
  have hSl3 := hS3.lt
  have e0' := hS3.cell 0
  have e1 := hS3.cell 1
  have g0 := hS3.free 0
  have g1 := hS3.free 1
  simp at e0' e1
  clear hR hS hO bb K2 KT KS
  rcases hcase with ⟨xs, c, v, hr, rfl, hown, hR3⟩ | ⟨hno, rfl⟩
  · have HR := hidden hr
    have hx1 := HXL.out xs c hr
    obtain ⟨X, hX⟩ : ∃ X, xs.length = X := ⟨_, rfl⟩
    have HX := hidden hX
    rw [hX] at hown hx1
    obtain ⟨am, cp, hv⟩ := own_shape hown
    subst hv
    have d0 := hR3.cell 0
    have d1 := hR3.cell 1
    simp at d0 d1
    have HOW := hidden hown
    have hx0 : ¬ (X : Int) = 0 := by omega
    clear hr hown hR3 hX
    go_wp2
    go_region
    all_goals (try go_wp2)
    all_goals
      refine bodyPost_ret (v := .tuple #[.slice am X cp, .agg #[.string s, .int .i64 (c : Int)], .bool true]) (by simp [results, Try.results41, go_sem, d0, d1, e0', e1, g0, g1]) rfl ⟨.inl ⟨xs, c, _, HR.out, rfl, ?_⟩, ?_⟩
      · rw [HX.out]
        exact Joins.ownsRow_le (own_away (own_away HOW.out (p := ⟨w.heap.size + 1, 0, none⟩) (by simp; omega) _) (p := ⟨w.heap.size + 1, 1, none⟩) (by simp; omega) _).drew hs2
      · repeat (first | exact Below.refl _ _ | assumption | refine Below.alloc ?_ (by (try simp); (try omega)) _ | refine Below.setCell ?_ (by (try simp); (try omega)) _ | refine Below.drew ?_ | refine bel_then (by assumption) (by (try simp); (try omega)) ?_)
  · have HNO := hidden hno
    clear hno
    go_wp2
    refine bodyPost_ret (v := .tuple #[.slice none 0 0, .agg #[.string ⟨#[]⟩, .int .i64 0], .bool false]) (by simp [results, Try.results41, go_sem, e0', e1, g0, g1]) rfl ⟨.inr ⟨HNO.out, rfl⟩, ?_⟩
    repeat (first | exact Below.refl _ _ | assumption | refine Below.alloc ?_ (by (try simp); (try omega)) _ | refine Below.setCell ?_ (by (try simp); (try omega)) _ | refine Below.drew ?_ | refine bel_then (by assumption) (by (try simp); (try omega)) ?_)
set_option maxHeartbeats 4000000 in
set_option maxRecDepth 100000 in
theorem specGetCoded_no (at2 a3 : Option Addr) (capT cap3 B : Nat) (at0 : Int) (G : List Int) (T : List (List Int)) (s : ByteArray) (e0 : Int) (w : World) (hT : Tabs w B at2 T) (hz3 : Ints w B a3 G) (hB : B ≤ w.heap.size) (hct : T.length ≤ capT) (hs : s.size ≤ 1048576) (b1 : -9223372036854775808 ≤ at0) (b2 : at0 ≤ 9223372036854775807) (h : ¬ (0 ≤ at0 ∧ at0 ≤ 8 * s.size ∧ gdOk T G = true)) :
    Calls Try.prog 41 #[.agg #[.string s, .int .i64 at0], .slice at2 T.length capT, .slice a3 G.length cap3, .int .i64 e0] w fun e w' => e = .returned (.tuple #[.slice none 0 0, .agg #[.string ⟨#[]⟩, .int .i64 0], .bool false]) ∧ Below w.heap.size w w' := by
  have bb : Below w.heap.size w ((w.alloc (.cells #[.string s, .int .i64 at0] 48)).alloc (.cells #[.string ⟨#[]⟩, .int .i64 0] 48)) := ((Below.refl _ _).alloc (Nat.le_refl _) _).alloc (by simp) _
  have hS := Has.freshAt (w := w.alloc (.cells #[.string s, .int .i64 at0] 48)) (g := w.heap.size + 1) (by simp) 48 #[.string ⟨#[]⟩, .int .i64 0]
  by_cases hat : 0 ≤ at0 ∧ at0 ≤ 8 * s.size
  · obtain ⟨q, rfl⟩ : ∃ q : Nat, at0 = q := ⟨at0.toNat, by omega⟩
    have hq : q ≤ 8 * s.size := by omega
    have hg : gdOk T G = false := by
      rw [Bool.eq_false_iff]
      intro hg
      exact h ⟨hat.1, hat.2, hg⟩
    have HI2 := hidden hT
    have HI3 := hidden hz3
    have hTl := hT.1
    have hGl := hz3.1
    have KT := hidden (fun (W : World) (h : Tabs W B at2 T) => specTablesOk_any at2 capT B T (tbN T) W h)
    have KS := hidden (fun (W : World) (h : Ints W B a3 G) => (l4symsOk_any a3 cap3 B T.length G W h hTl).mono fun e w' h => (⟨h.1, h.2.symm⟩ : _ ∧ W = w'))
    by_cases h0 : T.length = 0
    · rw [h0]
      clear hat h hT hz3 KT KS HI2 HI3 hg
      go_enter Try.func41, Try.ntmps41
      go_wp2_with fail
      refine (specRdOk_yes s q _ hs hq).mono ?_
      rintro e w2 ⟨rfl, b2⟩
      replace bb := bel_then b2 bb.size bb
      replace hS := hS.below b2 hS.lt
      have hs2 := bb.size
      have e0' := hS.cell 0
      have e1 := hS.cell 1
      have g0 := hS.free 0
      have g1 := hS.free 1
      simp at e0' e1
      clear b2 hS
      go_wp2
      refine bodyPost_ret (v := .tuple #[.slice none 0 0, .agg #[.string ⟨#[]⟩, .int .i64 0], .bool false]) (by simp [results, Try.results41, go_sem, e0', e1, g0, g1]) rfl ⟨rfl, ?_⟩
      repeat (first | exact Below.refl _ _ | assumption | refine Below.alloc ?_ (by (try simp); (try omega)) _ | refine Below.setCell ?_ (by (try simp); (try omega)) _ | refine Below.drew ?_ | refine bel_then (by assumption) (by (try simp); (try omega)) ?_)
    · obtain ⟨tb, to, a4, c4, e4, htb, ct, hct2, zk⟩ := hT.at (i := 0) (by omega)
      have hN : (T.getD 0 []).length = tbN T := rfl
      rw [hN, Nat.add_zero] at ct
      subst e4
      have hg3 : tbOk T (tbN T) = false ∨ (tbOk T (tbN T) = true ∧ 600 < G.length) ∨ (tbOk T (tbN T) = true ∧ ¬ 600 < G.length ∧ symsB T.length G = false) := by
        cases h1 : tbOk T (tbN T) with
        | false => exact .inl rfl
        | true =>
          by_cases h2 : G.length ≤ 600
          · refine .inr (.inr ⟨rfl, by omega, ?_⟩)
            unfold gdOk at hg
            rw [h1, decide_eq_true h2] at hg
            simpa using hg
          · exact .inr (.inl ⟨rfl, by omega⟩)
      obtain ⟨n, hn⟩ : ∃ n, tbN T = n := ⟨_, rfl⟩
      obtain ⟨M, hM⟩ : ∃ M, T.length = M := ⟨_, rfl⟩
      obtain ⟨Q, hQ⟩ : ∃ Q, G.length = Q := ⟨_, rfl⟩
      rw [hn] at ct KT hg3
      rw [hM] at KT KS hTl h0 hct hg3 ⊢
      rw [hQ] at KS hGl hg3 ⊢
      clear hat h hT hz3 hg hn hM hQ hN hct2 zk
      rcases hg3 with h1 | ⟨h1, h2⟩ | ⟨h1, h2, h3⟩
      · rw [h1] at KT
        clear KS h1
        go_enter Try.func41, Try.ntmps41
        go_wp2_with fail
        refine (specRdOk_yes s q _ hs hq).mono ?_
        rintro e w2 ⟨rfl, b2⟩
        replace bb := bel_then b2 bb.size bb
        replace hS := hS.below b2 hS.lt
        have hs2 := bb.size
        have ct3 := (bb.cell (p := ⟨tb, to, none⟩) (by show tb < w.heap.size; omega)).trans ct
        have e0' := hS.cell 0
        have e1 := hS.cell 1
        have g0 := hS.free 0
        have g1 := hS.free 1
        simp at e0' e1
        clear b2 hS
        go_wp2_with fail
        refine (KT.out _ (HI2.out.below (bb.mono hB))).mono ?_
        rintro e w3 ⟨rfl, rfl⟩
        go_wp2
        refine bodyPost_ret (v := .tuple #[.slice none 0 0, .agg #[.string ⟨#[]⟩, .int .i64 0], .bool false]) (by simp [results, Try.results41, go_sem, e0', e1, g0, g1]) rfl ⟨rfl, ?_⟩
        repeat (first | exact Below.refl _ _ | assumption | refine Below.alloc ?_ (by (try simp); (try omega)) _ | refine Below.setCell ?_ (by (try simp); (try omega)) _ | refine Below.drew ?_ | refine bel_then (by assumption) (by (try simp); (try omega)) ?_)
      · rw [h1] at KT
        clear KS h1
        go_enter Try.func41, Try.ntmps41
        go_wp2_with fail
        refine (specRdOk_yes s q _ hs hq).mono ?_
        rintro e w2 ⟨rfl, b2⟩
        replace bb := bel_then b2 bb.size bb
        replace hS := hS.below b2 hS.lt
        have hs2 := bb.size
        have ct3 := (bb.cell (p := ⟨tb, to, none⟩) (by show tb < w.heap.size; omega)).trans ct
        have e0' := hS.cell 0
        have e1 := hS.cell 1
        have g0 := hS.free 0
        have g1 := hS.free 1
        simp at e0' e1
        clear b2 hS
        go_wp2_with fail
        refine (KT.out _ (HI2.out.below (bb.mono hB))).mono ?_
        rintro e w3 ⟨rfl, rfl⟩
        go_wp2
        refine bodyPost_ret (v := .tuple #[.slice none 0 0, .agg #[.string ⟨#[]⟩, .int .i64 0], .bool false]) (by simp [results, Try.results41, go_sem, e0', e1, g0, g1]) rfl ⟨rfl, ?_⟩
        repeat (first | exact Below.refl _ _ | assumption | refine Below.alloc ?_ (by (try simp); (try omega)) _ | refine Below.setCell ?_ (by (try simp); (try omega)) _ | refine Below.drew ?_ | refine bel_then (by assumption) (by (try simp); (try omega)) ?_)
      · rw [h1] at KT
        rw [h3] at KS
        clear h1 h3
        go_enter Try.func41, Try.ntmps41
        go_wp2_with fail
        refine (specRdOk_yes s q _ hs hq).mono ?_
        rintro e w2 ⟨rfl, b2⟩
        replace bb := bel_then b2 bb.size bb
        replace hS := hS.below b2 hS.lt
        have hs2 := bb.size
        have ct3 := (bb.cell (p := ⟨tb, to, none⟩) (by show tb < w.heap.size; omega)).trans ct
        have e0' := hS.cell 0
        have e1 := hS.cell 1
        have g0 := hS.free 0
        have g1 := hS.free 1
        simp at e0' e1
        clear b2 hS
        go_wp2_with fail
        refine (KT.out _ (HI2.out.below (bb.mono hB))).mono ?_
        rintro e w3 ⟨rfl, rfl⟩
        go_wp2_with fail
        refine (KS.out _ (HI3.out.below (bb.mono hB))).mono ?_
        rintro e w3 ⟨rfl, rfl⟩
        go_wp2
        refine bodyPost_ret (v := .tuple #[.slice none 0 0, .agg #[.string ⟨#[]⟩, .int .i64 0], .bool false]) (by simp [results, Try.results41, go_sem, e0', e1, g0, g1]) rfl ⟨rfl, ?_⟩
        repeat (first | exact Below.refl _ _ | assumption | refine Below.alloc ?_ (by (try simp); (try omega)) _ | refine Below.setCell ?_ (by (try simp); (try omega)) _ | refine Below.drew ?_ | refine bel_then (by assumption) (by (try simp); (try omega)) ?_)
  · have HX := hidden hat
    clear h hat hT hz3
    obtain ⟨M, hM⟩ : ∃ M, T.length = M := ⟨_, rfl⟩
    obtain ⟨Q, hQ⟩ : ∃ Q, G.length = Q := ⟨_, rfl⟩
    rw [hM, hQ]
    clear hM hQ hct
    go_enter Try.func41, Try.ntmps41
    go_wp2_with fail
    refine (specRdOk_no s at0 _ hs b1 b2 HX.out).mono ?_
    rintro e w2 ⟨rfl, b2⟩
    replace bb := bel_then b2 bb.size bb
    replace hS := hS.below b2 hS.lt
    have hs2 := bb.size
    have e0' := hS.cell 0
    have e1 := hS.cell 1
    have g0 := hS.free 0
    have g1 := hS.free 1
    simp at e0' e1
    clear b2 hS
    go_wp2
    refine bodyPost_ret (v := .tuple #[.slice none 0 0, .agg #[.string ⟨#[]⟩, .int .i64 0], .bool false]) (by simp [results, Try.results41, go_sem, e0', e1, g0, g1]) rfl ⟨rfl, ?_⟩
    repeat (first | exact Below.refl _ _ | assumption | refine Below.alloc ?_ (by (try simp); (try omega)) _ | refine Below.setCell ?_ (by (try simp); (try omega)) _ | refine Below.drew ?_ | refine bel_then (by assumption) (by (try simp); (try omega)) ?_)
end Go.Proofs.Ytaaahmfkdiogkaa
namespace Go.Proofs.Ytaaahmfkdiogkaa
set_option linter.unusedVariables false
set_option linter.unusedSimpArgs false
open Go.RowKit

set_option maxHeartbeats 2000000 in
set_option maxRecDepth 100000 in
theorem l8list_any (g B : Nat) (n most : Int) (w : World) (hc : Cur w g B) (n1 : 1 ≤ n) (n2 : n ≤ 1000) (m1 : 0 ≤ most) (m2 : most ≤ 1000) :
    Calls Try.prog 118 #[.pointer (some ⟨g, 0, none⟩), .int .i64 n, .int .i64 most] w fun e w' => ∃ v L, e = .returned v ∧ w'.ownsRow w.heap.size 3 1 v L.length (intsV L) ∧ (L.length : Int) ≤ most ∧ (∀ x ∈ L, 0 ≤ x ∧ x < n) ∧ Cur w' g B ∧ Only g w w' := by
  have hgl := hc.lt
  obtain ⟨i0, hi, hz0, hz1, hz2⟩ := info_parts Try.infoI
  go_enter Try.func118, Try.ntmps118
  go_wp2_with fail
  refine (l1Below_any g B _ _ hc (by omega)).mono ?_
  rintro e wa ⟨r, rfl, r0, r1, _, ha, Oa⟩
  have r2 := r1 (by omega)
  obtain ⟨q, rfl⟩ : ∃ q : Nat, r = q := ⟨r.toNat, by omega⟩
  clear r1
  go_wp2
  go_loopw [7, 8, 9] (fun v sl sk wr => ∃ (k : Nat) (D : List Int) (x : Int), k ≤ q ∧ sl = .int .i64 x ∧ sk = .int .i64 ((q : Int) - k) ∧ (0 ≤ x ∧ x < n) ∧ Hid (D.length = k) ∧ Hid (∀ y ∈ D, 0 ≤ y ∧ y < n) ∧ wr.ownsRow w.heap.size 3 1 v k (intsV D) ∧ Cur wr g B ∧ Only g w wr) (fun _ _ sk _ => (intOf sk).toNat)
  case atStart => exact ⟨0, [], 0, Nat.zero_le _, rfl, by go_num, by omega, hidden rfl, hidden (by simp), World.ownsRow_nil _ _ _ _, ha, Oa⟩
  case round =>
    obtain ⟨k, D, x, hk, rfl, rfl, hx, HD, HR, hown, hcr, hO⟩ := hrel
    have hsz := hO.size
    by_cases hlt : k < q
    · go_wp2_with fail
      refine (l1Once_any g _ 2 _ hcr (by omega)).mono ?_
      rintro e wb ⟨b, rfl, hcb, Ob⟩
      have hownb := own_only hown Ob hgl
      have hOb := hO.trans_ Ob
      clear hown hO Ob hcr hsz
      cases b with
      | true =>
        go_wp2_with fail
        refine (l1Below_any g _ n _ hcb (by omega)).mono ?_
        rintro e w1 ⟨y, rfl, y0, y1, _, hc1, O1⟩
        have y2 := y1 (by omega)
        have hown1 := own_only hownb O1 hgl
        have hOn := hOb.trans_ O1
        have hs9 := hOn.size
        clear y1 O1 hownb hOb hcb
        go_wp2_with (at_builtin; refine wpList_append_own _ rfl _ _ 24 rfl w.heap.size 3 i0 (.int .i64 0) 1 8 Try.underlying24 hi hz0 hz1 hz2 rfl (by decide) _ _ _ rfl (hown1.alloc _) ⟨w1.heap.size, 0, none⟩ 1 1 [.int .i64 y] rfl rfl ?ca2 ?ca3 ?ca4 ?ca5 ?ca6 ?_)
        case ca2 => exact cell_one' _ _ _
        case ca3 => exact fun u hu => by simp at hu; subst hu; rfl
        case ca4 => unfold maxLen; omega
        case ca5 => omega
        case ca6 => simp; omega
        intro v3 w4 hown3 hgrow _
        have hown3 : w4.ownsRow w.heap.size 3 1 v3 (k + 1) (intsV (D ++ [y])) := by rw [intsV_snoc]; exact hown3
        have hO3 : Only g w w4 := (hOn.alloc _).grownNew hgrow (fun q hq => (hown1.lt q hq).1)
        have hc4 : Cur w4 g B := (hc1.alloc _).grown hgrow (fun q hq => by have := (hown1.lt q hq).1; omega)
        have HD2 : Hid ((D ++ [y]).length = k + 1) := hidden (by simp [HD.out])
        have HR2 : Hid (∀ u ∈ D ++ [y], 0 ≤ u ∧ u < n) := hidden (by
          intro u hu
          rcases List.mem_append.1 hu with h | h
          · exact HR.out u h
          · simp at h; subst h; omega)
        clear hgrow
        go_wp2
        exact ⟨⟨k + 1, D ++ [y], y, by omega, rfl, by go_num, by omega, HD2, HR2, hown3, hc4, hO3⟩, by simp [intOf]; omega⟩
      | false =>
        have hs9 := hOb.size
        go_wp2_with (at_builtin; refine wpList_append_own _ rfl _ _ 24 rfl w.heap.size 3 i0 (.int .i64 0) 1 8 Try.underlying24 hi hz0 hz1 hz2 rfl (by decide) _ _ _ rfl (hownb.alloc _) ⟨wb.heap.size, 0, none⟩ 1 1 [.int .i64 x] rfl rfl ?cb2 ?cb3 ?cb4 ?cb5 ?cb6 ?_)
        case cb2 => exact cell_one' _ _ _
        case cb3 => exact fun u hu => by simp at hu; subst hu; rfl
        case cb4 => unfold maxLen; omega
        case cb5 => omega
        case cb6 => simp; omega
        intro v3 w4 hown3 hgrow _
        have hown3 : w4.ownsRow w.heap.size 3 1 v3 (k + 1) (intsV (D ++ [x])) := by rw [intsV_snoc]; exact hown3
        have hO3 : Only g w w4 := (hOb.alloc _).grownNew hgrow (fun q hq => (hownb.lt q hq).1)
        have hc4 : Cur w4 g B := (hcb.alloc _).grown hgrow (fun q hq => by have := (hownb.lt q hq).1; omega)
        have HD2 : Hid ((D ++ [x]).length = k + 1) := hidden (by simp [HD.out])
        have HR2 : Hid (∀ u ∈ D ++ [x], 0 ≤ u ∧ u < n) := hidden (by
          intro u hu
          rcases List.mem_append.1 hu with h | h
          · exact HR.out u h
          · simp at h; subst h; omega)
        clear hgrow
        go_wp2
        exact ⟨⟨k + 1, D ++ [x], x, by omega, rfl, by go_num, by omega, HD2, HR2, hown3, hc4, hO3⟩, by simp [intOf]; omega⟩
    · have hkn : k = q := by omega
      subst hkn
      go_wp2
      go_ret
      exact ⟨_, D, rfl, by rw [HD.out]; exact hown, by rw [HD.out]; omega, HR.out, hcr, hO⟩

theorem pick2n (n : Int) (h1 : 1 ≤ n) (j : Nat) (h : j < 2) : -1 ≤ ([-1, n] : List Int).getD j 0 ∧ ([-1, n] : List Int).getD j 0 ≤ n := by
  rcases j with _ | _ | j <;> simp <;> omega
theorem pick4n (j : Nat) (h : j < 4) : -1 ≤ ([0, 256, 257, -1] : List Int).getD j 0 ∧ ([0, 256, 257, -1] : List Int).getD j 0 ≤ 257 := by
  rcases j with _ | _ | _ | _ | j <;> simp <;> omega
end Go.Proofs.Ytaaahmfkdiogkaa
