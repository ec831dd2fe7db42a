/- Texts of the proof, merged. -/
import Derived.Test.YtembljihmnmmfaaGreatKS22
import Derived.Test.YtembljihmnmmfaaGreatKS4
import Derived.Test.YtembljihmnmmfaaGreatKS2
namespace Go.Proofs.YtembljihmnmmfaaGreat
set_option linter.unusedVariables false
set_option linter.unusedSimpArgs false
open Go.RowKit

/-- What stands behind the i-th: the packed rest, and nothing behind the end. -/
def pkR (r : Nat) (L : List Nat) (i : Nat) : List Nat := if i ≤ L.length then packF r (L.drop i) else []
theorem pkR_zero {r : Nat} {L : List Nat} {i : Nat} (h : i < L.length) (h0 : L.getD i 0 = 0) : pkR r L i = pkR (r + 1) L (i + 1) := by
  unfold pkR
  rw [if_pos (by omega), if_pos (by omega), drop_cons L i h, h0, packF_zero]
theorem pkR_pos {r : Nat} {L : List Nat} {i : Nat} (h : i < L.length) (h0 : 0 < L.getD i 0) : pkR r L i = rsF r ++ [L.getD i 0 + 1] ++ pkR 0 L (i + 1) := by
  unfold pkR
  rw [if_pos (by omega), if_pos (by omega), drop_cons L i h, packF_pos r h0]
  simp
theorem pkR_end {r : Nat} {L : List Nat} : pkR r L L.length = rsF r ++ pkR 0 L (L.length + 1) := by
  unfold pkR
  rw [if_pos (Nat.le_refl _), if_neg (by omega), List.drop_length, packF_nil, List.append_nil]
set_option maxHeartbeats 2000000 in
set_option maxRecDepth 100000 in
theorem specPackRuns_yes (a : Option Addr) (cap B m : Nat) (L : List Nat) (w : World) (hz : Ints w B a (ints L)) (hB : B ≤ w.heap.size) (hok : rOk (ints L) m = true) (hm1 : 1 ≤ m) (hm2 : m ≤ 256) (hL6 : L.length ≤ 600) (hLm : ∀ x ∈ L, x < m) :
    Calls Tryz.prog 22 #[.slice a L.length cap, .int .i64 m] w fun e w' => ∃ v, e = .returned v ∧ w'.ownsRow w.heap.size 3 1 v (packF 0 L ++ [m + 1]).length (natsL (packF 0 L ++ [m + 1])) ∧ Below w.heap.size w w' := by
  obtain ⟨i0, hi, hz0, hz1, hz2⟩ := info_parts Tryz.infoInt
  have KR := hidden (specRanksOk_any a cap B (ints L) m w hz (by rw [ints_len]; omega) (by omega) (by omega))
  rw [hok, ints_len] at KR
  have HZ := hidden hz
  have HLM := hidden hLm
  have HST : Hid (packF 0 L = pkR 0 L 0) := hidden (by unfold pkR; rw [if_pos (by omega), List.drop_zero])
  have HZE := hidden (fun r i (h : i < L.length) h0 => pkR_zero (r := r) h h0)
  have HPO := hidden (fun r i (h : i < L.length) h0 => pkR_pos (r := r) h h0)
  have HEN := hidden (fun r => pkR_end (r := r) (L := L))
  have HNO : Hid (pkR 0 L (L.length + 1) = []) := hidden (by unfold pkR; rw [if_neg (by omega)])
  obtain ⟨A, hA⟩ : ∃ A, packF 0 L = A := ⟨_, rfl⟩
  have HAl : Hid (A.length ≤ 600) := hidden (by rw [← hA]; have := packF_len L 0; omega)
  rw [hA] at HST ⊢
  obtain ⟨n, hn⟩ : ∃ n, L.length = n := ⟨_, rfl⟩
  have HN := hidden hn
  rw [hn] at KR hL6 HZE HPO HEN HNO ⊢
  clear hz hA hn hok hLm
  go_enter Tryz.func22, Tryz.ntmps22
  go_wp2_with fail
  refine KR.out.mono ?_
  rintro e w0 ⟨rfl, rfl⟩
  go_wp2
  go_loopw [5, 6, 7] (fun vo sr si wr => ∃ (i r : Nat) (D : List Nat), i ≤ n + 1 ∧ r ≤ n ∧ si = .int .i64 i ∧ sr = .int .i64 r ∧ Hid (r ≤ i) ∧ Hid (A = D ++ pkR r L i) ∧ wr.ownsRow w.heap.size 3 1 vo D.length (natsL D) ∧ Below w.heap.size w wr) (fun _ _ si _ => n + 1 - (intOf si).toNat)
  case atStart => exact ⟨0, 0, [], by omega, by omega, rfl, rfl, hidden (Nat.le_refl _), hidden (by rw [HST.out]; rfl), World.ownsRow_nil _ _ _ _, Below.refl _ _⟩
  case round =>
    obtain ⟨i, r, D, hin, hrn, rfl, rfl, HRI, HD, hown, hbl⟩ := hrel
    have hsz := hbl.size
    have HDl : Hid (D.length ≤ 600) := hidden (by have := HAl.out; rw [HD.out, List.length_append] at this; omega)
    have hDl := HDl.out
    by_cases hlt : i < n
    · obtain ⟨b, off, rfl, hb, hc⟩ := (HZ.out.below (hbl.mono hB)).2.2 (by rw [ints_len, HN.out]; omega)
      have ck := ints_cell (B := B) hc i (by rw [HN.out]; exact hlt)
      have HZ1 := hidden (HZE.out r i hlt)
      have HP1 := hidden (HPO.out r i hlt)
      have hxm := HLM.out _ (getD_mem7 L i (by rw [HN.out]; exact hlt))
      obtain ⟨x, hx⟩ : ∃ x, L.getD i 0 = x := ⟨_, rfl⟩
      rw [hx] at ck HZ1 HP1 hxm
      have hiI : (i : Int) ≤ n := by omega
      have hiJ : (i : Int) < n := by omega
      have hri := HRI.out
      clear hc hx
      by_cases h0 : x = 0
      · subst h0
        have HD2 : Hid (A = D ++ pkR (r + 1) L (i + 1)) := hidden (by rw [HD.out, HZ1.out rfl])
        go_wp2
        go_roundw
        case rel => exact ⟨i + 1, r + 1, D, by omega, by omega, by go_num, by go_num, hidden (by omega), HD2, hown, hbl⟩
        case measure => simp [intOf]; omega
      · have hne : ¬ (x : Int) = 0 := by omega
        have hbe : ((x : Int) == (0 : Int)) = false := by rw [beq_eq_false_iff_ne]; exact hne
        have HD2 : Hid (A = (D ++ rsF r ++ [x + 1]) ++ pkR 0 L (i + 1)) := hidden (by rw [HD.out, HP1.out (by omega)]; simp)
        have ck0 : w.cell? ⟨b, off + i, none⟩ = some (.int .i64 (x : Int)) := ((hbl.cell (p := ⟨b, off + i, none⟩) (by simp; omega)).symm).trans ck
        have KS := hidden (fun W => specRunSyms_any (r : Int) W)
        have HRS : Hid (rsZ (r : Int) = ints (rsF r)) := hidden (by
          rcases Nat.eq_zero_or_pos r with e | e
          · subst e; rw [rsZ_no (by omega), rsF_zero]; rfl
          · exact rsZ_yes e (by omega))
        rw [HRS.out, ints_len, intsV_ints] at KS
        have HO := hidden hown
        have HRL : Hid (D.length + (rsF r).length + 1 ≤ 600) := hidden (by
          have := HAl.out
          rw [HD2.out] at this
          simp only [List.length_append, List.length_cons, List.length_nil] at this
          omega)
        have hrl := HRL.out
        clear hown
        go_wp2_with fail
        refine (KS.out _).mono ?_
        rintro e w4 ⟨v4, rfl, hown4, b4⟩
        have hO4 := own_bel HO.out b4
        have hb4 := bel_then b4 hsz hbl
        have hs4 := hb4.size
        have ck4 : w4.cell? ⟨b, off + i, none⟩ = some (.int .i64 (x : Int)) := (hb4.cell (p := ⟨b, off + i, none⟩) (by simp; omega)).trans ck0
        clear HO b4 ck KS
        obtain ⟨ld, hld⟩ : ∃ ld, D.length = ld := ⟨_, rfl⟩
        obtain ⟨lr, hlr⟩ : ∃ lr, (rsF r).length = lr := ⟨_, rfl⟩
        rw [hld, hlr] at hrl
        rw [hld] at hO4
        rw [hlr] at hown4
        have HL2 : Hid ((D ++ rsF r ++ [x + 1]).length = ld + lr + 1) := hidden (by rw [List.length_append, List.length_append, hld, hlr]; rfl)
        clear hld hlr
        go_wp2_with (at_builtin; refine wpList_append_own2 rfl _ _ 24 rfl w.heap.size 3 i0 (.int .i64 0) 8 Tryz.underlying24 hi hz0 hz1 hz2 rfl _ _ _ rfl hO4 _ _ _ _ rfl hown4 (natsL_one _) ?c1 ?c2 ?c3 ?_)
        case c1 => unfold maxLen; omega
        case c2 => omega
        case c3 => omega
        intro v5 w5 hown5 hgrow5 _
        rw [← natsL_append] at hown5
        have hb5 : Below w.heap.size w w5 := hb4.grown hgrow5 hs4 (fun q hq => (hO4.lt q hq).1)
        have hs5 := hb5.size
        have ck5 : w5.cell? ⟨b, off + i, none⟩ = some (.int .i64 (x : Int)) := (hb5.cell (p := ⟨b, off + i, none⟩) (by simp; omega)).trans ck0
        clear hO4 hown4 hgrow5 hb4 ck4 ck0 hbl
        go_wp2_with (at_builtin; refine wpList_append_own _ rfl _ _ 24 rfl w.heap.size 3 i0 (.int .i64 0) 1 8 Tryz.underlying24 hi hz0 hz1 hz2 rfl (by decide) _ _ _ rfl (hown5.alloc _) ⟨w5.heap.size, 0, none⟩ 1 1 [.int .i64 ((x + 1 : Nat) : Int)] rfl rfl ?d1 ?d2 ?d3 ?d4 ?d5 ?_)
        case d1 => exact cell_one_new _ _ _
        case d2 => exact fun u hu => by simp at hu; subst hu; rfl
        case d3 => unfold maxLen; omega
        case d4 => omega
        case d5 => first | omega | (simp; omega)
        intro v6 w6 hown6 hgrow6 _
        have hb6 := bel_app hb5 hs5 hown5 hgrow6
        have hown7 : w6.ownsRow w.heap.size 3 1 v6 (ld + lr + 1) (natsL (D ++ rsF r ++ [x + 1])) := by rw [natsL_snoc8]; exact hown6
        have HO6 : Hid (w6.ownsRow w.heap.size 3 1 v6 (D ++ rsF r ++ [x + 1]).length (natsL (D ++ rsF r ++ [x + 1]))) := hidden (by rw [HL2.out]; exact hown7)
        clear hown5 hown6 hown7 hgrow6 hb5
        go_wp2
        go_roundw
        case rel => exact ⟨i + 1, 0, D ++ rsF r ++ [x + 1], by omega, by omega, by go_num, rfl, hidden (by omega), HD2, HO6.out, hb6⟩
        case measure => simp [intOf]; omega
    · by_cases hie : i = n
      · subst hie
        have HD2 : Hid (A = (D ++ rsF r) ++ pkR 0 L (i + 1)) := hidden (by
          have := HEN.out r
          rw [HD.out, this, List.append_assoc])
        have KS := hidden (fun W => specRunSyms_any (r : Int) W)
        have HRS : Hid (rsZ (r : Int) = ints (rsF r)) := hidden (by
          rcases Nat.eq_zero_or_pos r with e | e
          · subst e; rw [rsZ_no (by omega), rsF_zero]; rfl
          · exact rsZ_yes e (by omega))
        rw [HRS.out, ints_len, intsV_ints] at KS
        have HO := hidden hown
        have HRL : Hid (D.length + (rsF r).length ≤ 600) := hidden (by
          have := HAl.out
          rw [HD2.out] at this
          simp only [List.length_append] at this
          omega)
        have hrl := HRL.out
        clear hown
        go_wp2_with fail
        refine (KS.out _).mono ?_
        rintro e w4 ⟨v4, rfl, hown4, b4⟩
        have hO4 := own_bel HO.out b4
        have hb4 := bel_then b4 hsz hbl
        have hs4 := hb4.size
        clear HO b4 KS
        obtain ⟨ld, hld⟩ : ∃ ld, D.length = ld := ⟨_, rfl⟩
        obtain ⟨lr, hlr⟩ : ∃ lr, (rsF r).length = lr := ⟨_, rfl⟩
        rw [hld, hlr] at hrl
        rw [hld] at hO4
        rw [hlr] at hown4
        have HL2 : Hid ((D ++ rsF r).length = ld + lr) := hidden (by simp [hld, hlr])
        clear hld hlr
        go_wp2_with (at_builtin; refine wpList_append_own2 rfl _ _ 24 rfl w.heap.size 3 i0 (.int .i64 0) 8 Tryz.underlying24 hi hz0 hz1 hz2 rfl _ _ _ rfl hO4 _ _ _ _ rfl hown4 (natsL_one _) ?c1 ?c2 ?c3 ?_)
        case c1 => unfold maxLen; omega
        case c2 => omega
        case c3 => omega
        intro v5 w5 hown5 hgrow5 _
        rw [← natsL_append] at hown5
        have hb5 : Below w.heap.size w w5 := hb4.grown hgrow5 hs4 (fun q hq => (hO4.lt q hq).1)
        have HO6 : Hid (w5.ownsRow w.heap.size 3 1 v5 (D ++ rsF r).length (natsL (D ++ rsF r))) := hidden (by rw [HL2.out]; exact hown5)
        clear hO4 hown4 hgrow5 hb4 hbl hown5
        go_wp2
        go_roundw
        case rel => exact ⟨i + 1, 0, D ++ rsF r, by omega, by omega, by go_num, rfl, hidden (by omega), HD2, HO6.out, hb5⟩
        case measure => first | (simp [intOf]; done) | (simp [intOf]; omega)
      · have hi1 : i = n + 1 := by omega
        subst hi1
        have HE : Hid (A = D) := hidden (by
          have h1 : pkR r L (n + 1) = [] := by unfold pkR; rw [if_neg (by rw [HN.out]; omega)]
          rw [HD.out, h1, List.append_nil])
        have hle : ¬ (((n + 1 : Nat) : Int) ≤ (n : Int)) := by omega
        have hle2 : ¬ ((n : Int) + 1 ≤ (n : Int)) := by omega
        obtain ⟨ld, hld⟩ : ∃ ld, D.length = ld := ⟨_, rfl⟩
        rw [hld] at hown hDl
        have HL2 : Hid ((A ++ [m + 1]).length = ld + 1) := hidden (by rw [HE.out]; simp [hld])
        clear hld
        go_wp2_with (at_builtin; refine wpList_append_own _ rfl _ _ 24 rfl w.heap.size 3 i0 (.int .i64 0) 1 8 Tryz.underlying24 hi hz0 hz1 hz2 rfl (by decide) _ _ _ rfl (hown.alloc _) ⟨wr.heap.size, 0, none⟩ 1 1 [.int .i64 ((m + 1 : Nat) : Int)] rfl rfl ?d1 ?d2 ?d3 ?d4 ?d5 ?_)
        all_goals (try (exact cell_one_new _ _ _))
        case d2 => first | rfl | exact fun u hu => by simp at hu; subst hu; rfl
        case d3 => unfold maxLen; omega
        case d4 => omega
        case d5 => first | omega | (simp; omega)
        intro v6 w6 hown6 hgrow6 _
        have hb6 := bel_app hbl hsz hown hgrow6
        have hown7 : w6.ownsRow w.heap.size 3 1 v6 (ld + 1) (natsL (D ++ [m + 1])) := by rw [natsL_snoc8]; exact hown6
        clear hown6
        go_wp2
        go_ret
        exact ⟨_, rfl, by rw [HL2.out, HE.out]; exact hown7, hb6⟩
set_option maxHeartbeats 1000000 in
set_option maxRecDepth 100000 in
theorem specPackRuns_any (a : Option Addr) (cap B : Nat) (z : List Int) (n : Int) (w : World) (hz : Ints w B a z) (hB : B ≤ w.heap.size) (hl : z.length ≤ 1048576) (n1 : -9223372036854775808 ≤ n) (n2 : n ≤ 9223372036854775807) :
    Calls Tryz.prog 22 #[.slice a z.length cap, .int .i64 n] w fun e w' => ∃ v, e = .returned v ∧ w'.ownsRow w.heap.size 3 1 v (packZ z n).length (intsV (packZ z n)) ∧ Below w.heap.size w w' := by
  by_cases hok : rOk z n = true
  · obtain ⟨L, m, rfl, rfl, hm1, hm2, hL6, hLm⟩ := rOk_nats hok
    rw [packZ_yes hok, intsV_ints, ints_len, ints_len]
    exact specPackRuns_yes a cap B m L w hz hB hok hm1 hm2 hL6 hLm
  · have hno := bool_false hok
    have KR := hidden (specRanksOk_any a cap B z n w hz hl n1 n2)
    rw [hno] at KR
    rw [packZ_no hno]
    clear hno hok
    go_enter Tryz.func22, Tryz.ntmps22
    go_wp2_with fail
    refine KR.out.mono ?_
    rintro e w0 ⟨rfl, rfl⟩
    go_wp2
    go_ret
    exact ⟨_, rfl, World.ownsRow_nil _ _ _ _, Below.refl _ _⟩
end Go.Proofs.YtembljihmnmmfaaGreat
