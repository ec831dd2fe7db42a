/- Chapter 8: the order by sums of times (the model). -/
import Derived.Test.YteaohgipndmciaaC8M
import Derived.Test.YteaohgipndmciaaSbp
import Derived.BigQuiet
import Derived.Deep.QuietTactic
namespace Go.Proofs.Yteaohgipndmciaa
set_option linter.unusedVariables false
set_option linter.unusedSimpArgs false
open Go.RowKit

theorem natsL_cell {w : World} {base g n c : Nat} {X : List Nat} (h : w.ownsRow base 3 1 (.slice (some ⟨g, 0, none⟩) n c) n (natsL X)) (k : Nat) (hk : k < n) (hX : X.length = n) : w.cell? ⟨g, k, none⟩ = some (.int .i64 ((X.getD k 0 : Nat) : Int)) := by
  have := h.cellAt k (by omega)
  rwa [natsL_nats, hX, nats_get _ _ _ hk] at this
theorem natsL_set (X : List Nat) (k x : Nat) : (natsL X).set k (.int .i64 (x : Int)) = natsL (X.set k x) := by simp [natsL, List.map_set]
set_option maxHeartbeats 2000000 in
set_option maxRecDepth 100000 in
theorem l8by_any (base ga gb ca cb n : Nat) (fa fb : Nat → Nat) (w : World) (ha : w.ownsRow base 3 1 (.slice (some ⟨ga, 0, none⟩) n ca) n (nats n fa)) (hb : w.ownsRow base 3 1 (.slice (some ⟨gb, 0, none⟩) n cb) n (nats n fb)) (hbs : base ≤ w.heap.size) (hn1 : 1 ≤ n) (hn : n ≤ 256) (hfa : ∀ x, fa x ≤ 1048576) (hfb : ∀ x, fb x ≤ 1048576) :
    Calls Try.prog 91 #[.slice (some ⟨ga, 0, none⟩) n ca, .slice (some ⟨gb, 0, none⟩) n cb] w fun e w' => ∃ g c, e = .returned (.slice (some ⟨g, 0, none⟩) n c) ∧ w'.ownsRow w.heap.size 3 1 (.slice (some ⟨g, 0, none⟩) n c) n (natsL (byL (fun x => fa x + fb x) n)) ∧ Below w.heap.size w w' := by
  obtain ⟨i0, hi, hz0, hz1, hz2⟩ := info_parts Try.infoInt
  have HA := hidden ha
  have HB := hidden hb
  have HFA := hidden hfa
  have HFB := hidden hfb
  have hga := (ha.lt ga rfl).2
  have hgb := (hb.lt gb rfl).2
  obtain ⟨f, hf⟩ : ∃ f : Nat → Nat, (fun x => fa x + fb x) = f := ⟨_, rfl⟩
  have HF : Hid (∀ x, f x = fa x + fb x) := hidden (fun x => by rw [← hf])
  rw [hf]
  have HBL := hidden (byL_len f)
  have HBP := hidden (fun n => (byL_by f n).1)
  have HBW := hidden (fun n => (byL_by f n).2)
  have HPUT := hidden (fun i p h1 h2 => byL_put (f := f) (i := i) (p := p) h1 h2)
  clear ha hb hfa hfb hf
  go_enter Try.func91, Try.ntmps91
  go_wp2
  go_loopw [5, 6, 7] (fun vo si _ wr => ∃ i : Nat, i ≤ n ∧ si = .int .i64 i ∧ wr.ownsRow w.heap.size 3 1 vo i (natsL (byL f i)) ∧ Below w.heap.size w wr) (fun _ si _ _ => n - (intOf si).toNat)
  case atStart => exact ⟨0, by omega, rfl, World.ownsRow_nil _ _ _ _, Below.refl _ _⟩
  case round =>
    obtain ⟨i, hin, rfl, hout, hbl⟩ := hrel
    have hsz := hbl.size
    by_cases hlt : i < n
    · have hltI : (i : Int) < n := by omega
      obtain ⟨S, hS⟩ : ∃ S, byL f i = S := ⟨_, rfl⟩
      have HS := hidden hS
      have HL : Hid (S.length = i) := hidden (by rw [← hS]; exact HBL.out i)
      rw [hS] at hout
      obtain ⟨ao, co, rfl⟩ := own_shape hout
      clear hS
      go_wp2_with (at_builtin; refine wpList_append_own _ rfl _ _ 39 rfl w.heap.size 3 i0 (.int .i64 0) 1 8 Try.underlying39 hi hz0 hz1 hz2 rfl (by decide) _ _ _ rfl (hout.alloc _) ⟨wr.heap.size, 0, none⟩ 1 1 [.int .i64 (i : Int)] rfl rfl ?c1 ?c2 ?c3 ?c4 ?c5 ?_)
      case c1 => exact cell_one_new _ _ _
      case c2 => exact fun u hu => by simp at hu; subst hu; rfl
      case c3 => unfold maxLen; omega
      case c4 => omega
      case c5 => first | omega | (simp; omega)
      intro v5 w5 hown5 hgrow _
      have hb5 := bel_app hbl hsz hout hgrow
      have hs5 := hb5.size
      rw [← natsL_snoc8] at hown5
      obtain ⟨g, c, rfl⟩ := Joins.ownsRow_form hown5 (by omega)
      have hgw := (hown5.lt g rfl).1
      have HSt : Hid (Sh (S ++ [i]) S i) := hidden (by have := Sh.start S i; rwa [HL.out] at this)
      clear hout hgrow hbl
      go_wp2
      go_loopg [7] i (fun p sp wx => ∃ X : List Nat, p ≤ i ∧ sp = .int .i64 p ∧ Hid (Sh X S p) ∧ Hid (∀ y ∈ S.drop p, f y < f i) ∧ wx.ownsRow w.heap.size 3 1 (.slice (some ⟨g, 0, none⟩) (i + 1) c) (i + 1) (natsL X) ∧ Below w.heap.size w wx)
      case atStart => exact ⟨S ++ [i], Nat.le_refl _, rfl, HSt, hidden (by rw [List.drop_eq_nil_of_le (by rw [HL.out]; exact Nat.le_refl _)]; simp), hown5, hb5⟩
      case round =>
        obtain ⟨X, hp, rfl, HX, HD, hx, hbx⟩ := hrel
        clear hown5 hb5
        have hXl : Hid (X.length = i + 1) := hidden (by rw [HX.out.1, HL.out])
        have HAx := own_bel HA.out hbx
        have HBx := own_bel HB.out hbx
        cases gk with
        | zero =>
          have HE : Hid (X.set 0 i = byL f (i + 1)) := hidden (by
            rw [HX.out.put (by omega) i]
            rw [← HS.out]
            refine HPUT.out i 0 ?_ ?_
            · intro z hz
              rw [HS.out] at hz
              exact .inl (HD.out z hz)
            · intro z hz; simp at hz)
          go_wp2
          go_big_quiet (fail)
          have hxq : (wr.drewN nq).ownsRow w.heap.size 3 1 (.slice (some ⟨g, 0, none⟩) (i + 1) c) (i + 1) (natsL X) := hx
          have hbq : Below w.heap.size w (wr.drewN nq) := bel_drewN hbx nq
          obtain ⟨wq, hwq⟩ : ∃ wq, wr.drewN nq = wq := ⟨_, rfl⟩
          rw [hwq] at hxq hbq ⊢
          clear hx hbx hwq HAx HBx
          have b2 := natsL_cell hxq 0 (by omega) hXl.out
          have f2 := hxq.frozenAt 0
          have hx2 := (hxq.stored 0 (.int .i64 (i : Int))).1
          rw [natsL_set, HE.out] at hx2
          have hb2 := hbq.setCell (p := ⟨g, 0, none⟩) hgw (.int .i64 (i : Int))
          clear hxq hbq
          go_wp2
          go_roundw
          case rel => exact ⟨i + 1, by omega, by go_num, hx2, hb2⟩
          case measure => simp [intOf]; omega
        | succ q =>
          have hq := natsL_cell hx q (by omega) hXl.out
          rw [HX.out.get] at hq
          have hsm := (HBP.out i).mem (S.getD q 0)
          rw [HS.out] at hsm
          have hyi := hsm.1 (getD_mem7 S q (by rw [HL.out]; omega))
          have HST := HX.out.step (by rw [HL.out]; omega)
          obtain ⟨y, hy⟩ : ∃ y, S.getD q 0 = y := ⟨_, rfl⟩
          rw [hy] at hq hyi HST
          have HY := hidden hy
          have a1 := HAx.cellAt y (by omega)
          rw [nats_get _ _ _ (by omega)] at a1
          have a2 := HBx.cellAt y (by omega)
          rw [nats_get _ _ _ (by omega)] at a2
          have a3 := HAx.cellAt i (by omega)
          rw [nats_get _ _ _ (by omega)] at a3
          have a4 := HBx.cellAt i (by omega)
          rw [nats_get _ _ _ (by omega)] at a4
          have n1 := HFA.out y
          have n2 := HFB.out y
          have n3 := HFA.out i
          have n4 := HFB.out i
          have HF1 := hidden (HF.out y)
          have HF2 := hidden (HF.out i)
          obtain ⟨x1, e1⟩ : ∃ x, fa y = x := ⟨_, rfl⟩
          obtain ⟨x2, e2⟩ : ∃ x, fb y = x := ⟨_, rfl⟩
          obtain ⟨x3, e3⟩ : ∃ x, fa i = x := ⟨_, rfl⟩
          obtain ⟨x4, e4⟩ : ∃ x, fb i = x := ⟨_, rfl⟩
          rw [e1] at a1 n1 HF1
          rw [e2] at a2 n2 HF1
          rw [e3] at a3 n3 HF2
          rw [e4] at a4 n4 HF2
          clear hy e1 e2 e3 e4 hsm
          have hq0 : (0 : Int) < (q : Int) + 1 := by omega
          have hqi : (q : Int) < (i : Int) + 1 := by omega
          have hyn : (y : Int) < (n : Int) := by omega
          have hinI : (i : Int) < (n : Int) := by omega
          have hqn : (0 : Int) ≤ (q : Int) := by omega
          by_cases hlt2 : x1 + x2 < x3 + x4
          · have hlt3 : (x1 : Int) + x2 < (x3 : Int) + x4 := by omega
            have HD2 : Hid (∀ z ∈ S.drop q, f z < f i) := hidden (by
              intro z hz
              rw [drop_cons S q (by rw [HL.out]; omega)] at hz
              rcases List.mem_cons.1 hz with e | e
              · rw [e, HY.out, HF1.out, HF2.out]; exact hlt2
              · exact HD.out z e)
            go_wp2
            go_big_quiet (fail)
            have hxq : (wr.drewN nq).ownsRow w.heap.size 3 1 (.slice (some ⟨g, 0, none⟩) (i + 1) c) (i + 1) (natsL X) := hx
            have hbq : Below w.heap.size w (wr.drewN nq) := bel_drewN hbx nq
            obtain ⟨wq, hwq⟩ : ∃ wq, wr.drewN nq = wq := ⟨_, rfl⟩
            rw [hwq] at hxq hbq ⊢
            clear hx hbx hwq a1 a2 a3 a4 HAx HBx hq
            have b1 := natsL_cell hxq q (by omega) hXl.out
            rw [HX.out.get, HY.out] at b1
            have b2 := natsL_cell hxq (q + 1) (by omega) hXl.out
            have f2 := hxq.frozenAt (q + 1)
            have hx2 := (hxq.stored (q + 1) (.int .i64 (y : Int))).1
            rw [natsL_set] at hx2
            have hb2 := hbq.setCell (p := ⟨g, q + 1, none⟩) hgw (.int .i64 (y : Int))
            clear hxq hbq
            go_wp2
            go_roundg q
            case measure => omega
            case rel => exact ⟨X.set (q + 1) y, by omega, by go_num, hidden HST, HD2, hx2, hb2⟩
          · have hge3 : ¬ ((x1 : Int) + x2 < (x3 : Int) + x4) := by omega
            have HE : Hid (X.set (q + 1) i = byL f (i + 1)) := hidden (by
              rw [HX.out.put (by rw [HL.out]; omega) i]
              rw [← HS.out]
              refine HPUT.out i (q + 1) ?_ ?_
              · intro z hz
                rw [HS.out] at hz
                exact .inl (HD.out z hz)
              · intro z hz
                have hzi := ((HBP.out i).mem z).1 (List.mem_of_mem_take hz)
                have hnb := not_take (x := i) (q := q) (HBW.out i) (by rw [HBL.out]; omega) (by
                  rw [HS.out, HY.out]
                  unfold bfS
                  rw [HF1.out, HF2.out]
                  omega) z hz
                rcases bfS_total f (x := z) (y := i) (by omega) with h | h
                · exact h
                · exact absurd h hnb)
            go_wp2
            go_big_quiet (fail)
            have hxq : (wr.drewN nq).ownsRow w.heap.size 3 1 (.slice (some ⟨g, 0, none⟩) (i + 1) c) (i + 1) (natsL X) := hx
            have hbq : Below w.heap.size w (wr.drewN nq) := bel_drewN hbx nq
            obtain ⟨wq, hwq⟩ : ∃ wq, wr.drewN nq = wq := ⟨_, rfl⟩
            rw [hwq] at hxq hbq ⊢
            clear hx hbx hwq a1 a2 a3 a4 HAx HBx hq
            have b2 := natsL_cell hxq (q + 1) (by omega) hXl.out
            have f2 := hxq.frozenAt (q + 1)
            have hx2 := (hxq.stored (q + 1) (.int .i64 (i : Int))).1
            rw [natsL_set, HE.out] at hx2
            have hb2 := hbq.setCell (p := ⟨g, q + 1, none⟩) hgw (.int .i64 (i : Int))
            clear hxq hbq
            go_wp2
            go_roundw
            case rel => exact ⟨i + 1, by omega, by go_num, hx2, hb2⟩
            case measure => simp [intOf]; omega
    · have hie : i = n := by omega
      subst hie
      obtain ⟨g, c, rfl⟩ := Joins.ownsRow_form hout (by omega)
      go_wp2
      go_ret
      exact ⟨g, c, rfl, hout, hbl⟩
end Go.Proofs.Yteaohgipndmciaa
