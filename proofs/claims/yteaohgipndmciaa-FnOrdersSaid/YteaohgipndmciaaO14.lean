/- Merged: WOrders. -/
import Derived.Test.YteaohgipndmciaaO13
import Derived.Test.YteaohgipndmciaaO7
import Derived.Test.YteaohgipndmciaaO10
import Derived.Test.YteaohgipndmciaaO12
import Derived.Test.YteaohgipndmciaaO6
import Derived.Deep.RegionHeld3
import Derived.Deep.RegionWith
import Derived.Deep.DeepCutAuto
namespace Go.Proofs.Yteaohgipndmciaa
set_option linter.unusedVariables false
set_option linter.unusedSimpArgs false
open Go.RowKit

theorem code_up {w : World} {B B' : Nat} {a : Option Addr} {len cap : Nat} {zs : List Int} (h : Code w B a len cap zs) (hB : B ≤ B') : Code w B' a len cap zs :=
  ⟨h.1, h.2.1, fun h0 => by
    obtain ⟨b, off, e, hb, hc⟩ := h.2.2 h0
    exact ⟨b, off, e, Nat.lt_of_lt_of_le hb hB, hc⟩⟩
theorem setOk_used {l : List Nat} (hb : Byt l) (h : l ≠ []) : setOk (usedL l) = true := by
  rw [setOk_iff]
  refine ⟨?_, (usedL_self (byt_usedL l)).2 (usedL_asc l)⟩
  intro e
  obtain ⟨x, hx⟩ := List.exists_mem_of_ne_nil l h
  have := (mem_usedL hb).2 hx
  rw [e] at this
  cases this
theorem order_back {o : ByteArray} {D : List Nat} (hok : ordOk (bytesOf o) = true) (hD : Packs D (putO (usedL (bytesOf o)) (bytesOf o))) : (strOf D).size ≤ 1048576 ∧ getO (strOf D) (usedL (bytesOf o)).length (usedL (bytesOf o)) 0 = some (bytesOf o, (putO (usedL (bytesOf o)) (bytesOf o)).length) := by
  have hb := byt_bytesOf o
  have h2 := (ordOk_iff _).1 hok
  have h256 := nodup_256 hb h2.2
  have hl := putO_len (usedL (bytesOf o)) (bytesOf o) (nodup_256 (byt_usedL _) (usedL_nodup _))
  have hp := packs_ok hD (by omega)
  have hz : (strOf D).size = ((putO (usedL (bytesOf o)) (bytesOf o)).length + 7) / 8 := by rw [strOf_size, hD.len]
  have := getO_put (strOf D) (bytesOf o) (usedL (bytesOf o)) 0 (used_perm hb h2.2) (by omega) hp.2
  rw [Nat.zero_add] at this
  exact ⟨by omega, this⟩
set_option maxHeartbeats 2000000 in
set_option maxRecDepth 100000 in
theorem walk_FnOrders (w : World) (a0 : Option Addr) (len0 cap0 : Nat) (z0 : List Int) (w0 : IsRow .u8 w a0 len0 cap0 z0) :
    Calls Try.prog 4 #[.slice a0 len0 cap0] w fun e w' => e = .returned (.bool true) ∧ Below w.heap.size w w' := by
  have hcode := Code.ofRow w0
  have HCO := hidden hcode
  have KL := hidden letters_any
  clear w0
  go_enter Try.func4, Try.ntmps4
  go_wp2_with fail
  refine (drawPutOrder_any _ _ _ _ _ hcode).mono ?_
  rintro e wa ⟨o, rfl, ho, Ba⟩
  have ba := Ba.size
  clear hcode
  by_cases hok : ordOk (bytesOf o) = true
  · have KI := hidden (fun W => implPutOrder_yes o W (by omega) hok)
    have KS := hidden (fun W => specOrderOk_any o W (by omega))
    rw [hok] at KS
    have KV := hidden (fun W => implUsed_any o W (by omega))
    have hset := setOk_used (byt_bytesOf o) ((ordOk_iff _).1 hok).1
    have KG : Hid (∀ (D : List Nat) (W : World), Packs D (putO (usedL (bytesOf o)) (bytesOf o)) → Calls Try.prog 27 #[.agg #[.string (strOf D), .int .i64 0], .string (strOf (usedL (bytesOf o)))] W fun e w' => e = .returned (.tuple #[.string o, .agg #[.string (strOf D), .int .i64 ((putO (usedL (bytesOf o)) (bytesOf o)).length : Int)], .bool true]) ∧ Below W.heap.size W w') := hidden fun D W hD => by
      obtain ⟨h1, h2⟩ := order_back hok hD
      have hbs : bytesOf (strOf (usedL (bytesOf o))) = usedL (bytesOf o) := bytes_str (byt_usedL _)
      have hl256 := usedL_len (bytesOf o)
      have h0 := implGetOrder_any (strOf D) (strOf (usedL (bytesOf o))) 0 W h1 (by rw [strOf_size]; omega) (Nat.zero_le _) (by rw [hbs]; exact hset)
      rw [hbs] at h0
      refine Calls.mono h0 ?_
      intro e w' hp
      have h3 := gg7_yes hp h2
      rw [strOf_bytesOf] at h3
      exact h3
    obtain ⟨L, hL⟩ : ∃ L, putO (usedL (bytesOf o)) (bytesOf o) = L := ⟨_, rfl⟩
    obtain ⟨N, hN⟩ : ∃ N, L.length = N := ⟨_, rfl⟩
    obtain ⟨V, hV⟩ : ∃ V, strOf (usedL (bytesOf o)) = V := ⟨_, rfl⟩
    rw [hL, hN] at KI KG
    rw [hV] at KG KV
    clear hok hL hN hV hset
    go_wp2_with fail
    refine (KI.out _).mono ?_
    rintro e wb ⟨D, hD, rfl, Bb⟩
    have HD := hidden hD
    have Bw := Ba.trans (Bb.mono ba)
    have bb := Bw.size
    have hB := Has.fresh wb 25 #[.string (strOf D), .int .i64 (N : Int)]
    have bB := Bw.alloc Bw.size (.cells #[.string (strOf D), .int .i64 (N : Int)] 25)
    clear Ba Bb hD Bw
    go_wp2_with fail
    refine (KS.out _).mono ?_
    rintro e wc ⟨rfl, Bc⟩
    have bc := Bc.size
    simp at bc
    replace hB := hB.below Bc (by simp)
    replace bB := bel_then Bc bB.size bB
    clear Bc
    have hcode2 := code_up (HCO.out.below bB) bB.size
    go_wp2_with fail
    refine (drawByCount_any _ _ _ _ _ hcode2).mono ?_
    rintro e wd ⟨s, rfl, hs, Bd⟩
    have bd := Bd.size
    replace hB := hB.below Bd (by omega)
    replace bB := bel_then Bd bB.size bB
    clear Bd hcode2 HCO
    have KC := hidden (fun W => implByCount_any s W (by omega))
    go_wp2_with fail
    refine (KC.out _).mono ?_
    rintro e we ⟨R, hR, rfl, Be⟩
    have be := Be.size
    replace hB := hB.below Be (by omega)
    replace bB := bel_then Be bB.size bB
    have hRl := ranked_len (byt_bytesOf s) hR
    have hul := usedL_len (bytesOf s)
    have KU : Hid (∀ (W : World), Calls Try.prog 19 #[.string (strOf R)] W fun e w' => e = .returned (.string (strOf (usedL (bytesOf s)))) ∧ Below W.heap.size W w') := hidden fun W => by
      have := implUsed_any (strOf R) W (by rw [strOf_size]; omega)
      rw [bytes_str (ranked_byt (byt_bytesOf s) hR), ranked_used (byt_bytesOf s) hR] at this
      exact this
    have KSU := hidden (fun W => specUsed_any s W (by omega))
    have KSB : Hid (∀ (W : World), Calls Try.prog 26 #[.string s] W fun e w' => e = .returned (.string (strOf R)) ∧ Below W.heap.size W w') := hidden fun W => by
      refine Calls.mono (specByCount_any s W (by omega)) ?_
      rintro e w' ⟨R2, hR2, rfl, hb⟩
      rw [ranked_unique hR2 hR]
      exact ⟨rfl, hb⟩
    have hz1 : (strOf R).size ≤ (strOf (usedL (bytesOf s))).size := by rw [strOf_size, strOf_size]; omega
    have hz2 : (strOf (usedL (bytesOf s))).size ≤ (strOf R).size := by rw [strOf_size, strOf_size]; omega
    clear hR hRl hul KC Be
    generalize strOf R = C at hz1 hz2 KU KSB ⊢
    generalize strOf (usedL (bytesOf s)) = U at hz1 hz2 KU KSU ⊢
    go_wp2_with fail
    refine (KU.out _).mono ?_
    rintro e wf ⟨rfl, Bf⟩
    have bf := Bf.size
    replace hB := hB.below Bf (by omega)
    replace bB := bel_then Bf bB.size bB
    clear Bf
    go_wp2_with fail
    refine (KSU.out _).mono ?_
    rintro e wg ⟨rfl, Bg⟩
    have bg := Bg.size
    replace hB := hB.below Bg (by omega)
    replace bB := bel_then Bg bB.size bB
    clear Bg
    go_wp2_with fail
    refine (KSU.out _).mono ?_
    rintro e wh ⟨rfl, Bh⟩
    have bh := Bh.size
    replace hB := hB.below Bh (by omega)
    replace bB := bel_then Bh bB.size bB
    clear Bh
    have hcu : ((C.size : Int) != (U.size : Int)) = false := by simp; omega
    go_wp2_with fail
    refine (KSB.out _).mono ?_
    rintro e wi ⟨rfl, Bi⟩
    have bi := Bi.size
    replace hB := hB.below Bi (by omega)
    replace bB := bel_then Bi bB.size bB
    clear Bi KU KSU KSB hcu
    have bI := bB.size
    have hlt := hB.lt
    have mI : ¬ wb.heap.size = wi.heap.size := by omega
    have mI2 : ¬ wi.heap.size = wb.heap.size := by omega
    have rb := hB.cell 0
    have rr := hB.cell 1
    simp at rb rr
    go_upto_region 11 with (fail)
    go_cut [8, 9, 10] (fun s8 s9 s10 wx => ∃ (g : Nat), s8 = .string o ∧ s9 = .pointer (some ⟨g, 0, none⟩) ∧ s10 = .bool true ∧ Has wx g 30 #[.string (strOf D), .int .i64 (N : Int)] ∧ Has wx wb.heap.size 25 #[.string (strOf D), .int .i64 (N : Int)] ∧ Below w.heap.size w wx)
    case first =>
      go_region_held3 (fun w' => w'.cell? ⟨wb.heap.size, 0, none⟩ = some (.string (strOf D)) ∧ w'.cell? ⟨wb.heap.size, 1, none⟩ = some (.int .i64 (N : Int))) (go_keep) (first | (go_at_call 19; (with_reducible refine (KV.out _).mono ?_); rintro e wX ⟨rfl, BX⟩; (have hBX : Has wX wb.heap.size 25 #[.string (strOf D), .int .i64 (N : Int)] := (by (refine Has.below ?_ BX ?_); (first | exact hB | exact hB.alloc (.cells #[.string ⟨#[]⟩, .int .i64 0] 30)); (first | exact hlt | (simp; done) | (simp; omega)))); (have hWX : Below w.heap.size w wX := (by (refine Below.trans ?_ (BX.mono ?_)); (first | exact ⟨bB.os, bB.tape, bB.output, bB.size, bB.block⟩ | exact ⟨(bB.alloc bB.size (.cells #[.string ⟨#[]⟩, .int .i64 0] 30)).os, (bB.alloc bB.size (.cells #[.string ⟨#[]⟩, .int .i64 0] 30)).tape, (bB.alloc bB.size (.cells #[.string ⟨#[]⟩, .int .i64 0] 30)).output, (bB.alloc bB.size (.cells #[.string ⟨#[]⟩, .int .i64 0] 30)).size, (bB.alloc bB.size (.cells #[.string ⟨#[]⟩, .int .i64 0] 30)).block⟩); (first | exact bI | (simp; done) | (simp; omega)))); (have nX : wb.heap.size < wX.heap.size := hBX.lt); (have mX : ¬ wb.heap.size = wX.heap.size := by omega); (have mX2 : ¬ wX.heap.size = wb.heap.size := by omega); (have sX : wi.heap.size ≤ wX.heap.size := (by have h := BX.size; (try simp at h); omega)); (try (have hZX : Has wX wi.heap.size 30 #[.string ⟨#[]⟩, .int .i64 0] := (by (refine Has.below ?_ BX ?_); exact Has.freshAt (w := wi) (g := wi.heap.size) rfl 30 #[.string ⟨#[]⟩, .int .i64 0]; simp))); have rb := hBX.cell 0; have rr := hBX.cell 1; simp at rb rr) | (go_at_call 27; (with_reducible refine (KG.out D _ HD.out).mono ?_); rintro e wY ⟨rfl, BY⟩; (have hBY : Has wY wb.heap.size 25 #[.string (strOf D), .int .i64 (N : Int)] := (by (refine Has.below ?_ BY ?_); (first | exact hBX | exact hBX.alloc (.cells #[.string ⟨#[]⟩, .int .i64 0] 30)); (first | exact hBX.lt | (have h := hBX.lt; simp; omega)))); (have hWY : Below w.heap.size w wY := (by (refine Below.trans ?_ (BY.mono ?_)); (first | exact ⟨hWX.os, hWX.tape, hWX.output, hWX.size, hWX.block⟩ | exact ⟨(hWX.alloc hWX.size (.cells #[.string ⟨#[]⟩, .int .i64 0] 30)).os, (hWX.alloc hWX.size (.cells #[.string ⟨#[]⟩, .int .i64 0] 30)).tape, (hWX.alloc hWX.size (.cells #[.string ⟨#[]⟩, .int .i64 0] 30)).output, (hWX.alloc hWX.size (.cells #[.string ⟨#[]⟩, .int .i64 0] 30)).size, (hWX.alloc hWX.size (.cells #[.string ⟨#[]⟩, .int .i64 0] 30)).block⟩); (first | exact hWX.size | (have h := hWX.size; simp; omega)))); (try (have hZY : Has wY wi.heap.size 30 #[.string ⟨#[]⟩, .int .i64 0] := (by (refine Has.below ?_ BY ?_); exact hZX; exact hZX.lt); have z0 := hZY.cell 0; have z1 := hZY.cell 1; have y0 := hZY.free 0; have y1 := hZY.free 1; simp at z0 z1)); (try (have hZY : Has wY wX.heap.size 30 #[.string ⟨#[]⟩, .int .i64 0] := (by (refine Has.below ?_ BY ?_); exact Has.freshAt (w := wX) (g := wX.heap.size) rfl 30 #[.string ⟨#[]⟩, .int .i64 0]; simp); have z0 := hZY.cell 0; have z1 := hZY.cell 1; have y0 := hZY.free 0; have y1 := hZY.free 1; simp at z0 z1)); have rb := hBY.cell 0; have rr := hBY.cell 1; simp at rb rr))
      all_goals
        go_wp2
        go_meet
        case rel => first
          | exact ⟨wY.heap.size, rfl, rfl, rfl, Has.fresh wY 30 #[.string (strOf D), .int .i64 (N : Int)], hBY.alloc _, hWY.alloc hWY.size _⟩
          | exact ⟨wX.heap.size, rfl, rfl, rfl, (hZY.store 0 (.string (strOf D))).store 1 (.int .i64 (N : Int)), (hBY.storeAway (p := ⟨wX.heap.size, 0, none⟩) (by simp; omega) _).storeAway (p := ⟨wX.heap.size, 1, none⟩) (by simp; omega) _, (hWY.setCell (p := ⟨wX.heap.size, 0, none⟩) (by have := hWX.size; simp; omega) _).setCell (p := ⟨wX.heap.size, 1, none⟩) (by have := hWX.size; simp; omega) _⟩
          | exact ⟨wi.heap.size, rfl, rfl, rfl, (hZY.store 0 (.string (strOf D))).store 1 (.int .i64 (N : Int)), (hBY.storeAway (p := ⟨wi.heap.size, 0, none⟩) (by simp; omega) _).storeAway (p := ⟨wi.heap.size, 1, none⟩) (by simp; omega) _, (hWY.setCell (p := ⟨wi.heap.size, 0, none⟩) (by have := hWX.size; simp; omega) _).setCell (p := ⟨wi.heap.size, 1, none⟩) (by have := hWX.size; simp; omega) _⟩
    case rest =>
      obtain ⟨g, rfl, rfl, rfl, hR6, hB6, bW6⟩ := hcut
      have f1 := hB6.cell 1
      have g1 := hR6.cell 1
      simp at f1 g1
      clear hR6 hB6 hB rb rr
      go_wp2_with fail
      refine (KL.out _).mono ?_
      rintro e wz ⟨rfl, Bz⟩
      have bW7 := bel_then Bz bW6.size bW6
      go_wp2
      go_ret
      exact ⟨rfl, bW7⟩
  · have hno := bool_false hok
    have KI := hidden (fun W => implPutOrder_no o W (by omega) hno)
    have KS := hidden (fun W => specOrderOk_any o W (by omega))
    rw [hno] at KS
    clear hok hno
    go_wp2_with fail
    refine (KI.out _).mono ?_
    rintro e wb ⟨rfl, Bb⟩
    have Bw := Ba.trans (Bb.mono ba)
    have bb := Bw.size
    have hB := Has.fresh wb 25 #[.string ⟨#[]⟩, .int .i64 0]
    have bB := Bw.alloc Bw.size (.cells #[.string ⟨#[]⟩, .int .i64 0] 25)
    clear Ba Bb Bw
    go_wp2_with fail
    refine (KS.out _).mono ?_
    rintro e wc ⟨rfl, Bc⟩
    have bc := Bc.size
    simp at bc
    replace hB := hB.below Bc (by simp)
    replace bB := bel_then Bc bB.size bB
    clear Bc
    have hcode2 := code_up (HCO.out.below bB) bB.size
    go_wp2_with fail
    refine (drawByCount_any _ _ _ _ _ hcode2).mono ?_
    rintro e wd ⟨s, rfl, hs, Bd⟩
    have bd := Bd.size
    replace hB := hB.below Bd (by omega)
    replace bB := bel_then Bd bB.size bB
    clear Bd hcode2 HCO
    have KC := hidden (fun W => implByCount_any s W (by omega))
    go_wp2_with fail
    refine (KC.out _).mono ?_
    rintro e we ⟨R, hR, rfl, Be⟩
    have be := Be.size
    replace hB := hB.below Be (by omega)
    replace bB := bel_then Be bB.size bB
    have hRl := ranked_len (byt_bytesOf s) hR
    have hul := usedL_len (bytesOf s)
    have KU : Hid (∀ (W : World), Calls Try.prog 19 #[.string (strOf R)] W fun e w' => e = .returned (.string (strOf (usedL (bytesOf s)))) ∧ Below W.heap.size W w') := hidden fun W => by
      have := implUsed_any (strOf R) W (by rw [strOf_size]; omega)
      rw [bytes_str (ranked_byt (byt_bytesOf s) hR), ranked_used (byt_bytesOf s) hR] at this
      exact this
    have KSU := hidden (fun W => specUsed_any s W (by omega))
    have KSB : Hid (∀ (W : World), Calls Try.prog 26 #[.string s] W fun e w' => e = .returned (.string (strOf R)) ∧ Below W.heap.size W w') := hidden fun W => by
      refine Calls.mono (specByCount_any s W (by omega)) ?_
      rintro e w' ⟨R2, hR2, rfl, hb⟩
      rw [ranked_unique hR2 hR]
      exact ⟨rfl, hb⟩
    have hz1 : (strOf R).size ≤ (strOf (usedL (bytesOf s))).size := by rw [strOf_size, strOf_size]; omega
    have hz2 : (strOf (usedL (bytesOf s))).size ≤ (strOf R).size := by rw [strOf_size, strOf_size]; omega
    clear hR hRl hul KC Be
    generalize strOf R = C at hz1 hz2 KU KSB ⊢
    generalize strOf (usedL (bytesOf s)) = U at hz1 hz2 KU KSU ⊢
    go_wp2_with fail
    refine (KU.out _).mono ?_
    rintro e wf ⟨rfl, Bf⟩
    have bf := Bf.size
    replace hB := hB.below Bf (by omega)
    replace bB := bel_then Bf bB.size bB
    clear Bf
    go_wp2_with fail
    refine (KSU.out _).mono ?_
    rintro e wg ⟨rfl, Bg⟩
    have bg := Bg.size
    replace hB := hB.below Bg (by omega)
    replace bB := bel_then Bg bB.size bB
    clear Bg
    go_wp2_with fail
    refine (KSU.out _).mono ?_
    rintro e wh ⟨rfl, Bh⟩
    have bh := Bh.size
    replace hB := hB.below Bh (by omega)
    replace bB := bel_then Bh bB.size bB
    clear Bh
    have hcu : ((C.size : Int) != (U.size : Int)) = false := by simp; omega
    go_wp2_with fail
    refine (KSB.out _).mono ?_
    rintro e wi ⟨rfl, Bi⟩
    have bi := Bi.size
    replace hB := hB.below Bi (by omega)
    replace bB := bel_then Bi bB.size bB
    clear Bi KU KSU KSB hcu
    have e1 := hB.cell 1
    simp at e1
    go_wp2_with fail
    refine (KL.out _).mono ?_
    rintro e wz ⟨rfl, Bz⟩
    have bW7 := bel_then Bz bB.size bB
    go_wp2
    go_ret
    exact ⟨rfl, bW7⟩
end Go.Proofs.Yteaohgipndmciaa
