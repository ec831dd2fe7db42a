/- Chapter 8, the program: the order by times as a machine. -/
import Derived.Test.YteaohgipndmciaaI8S
namespace Go.Proofs.Yteaohgipndmciaa
set_option linter.unusedVariables false
set_option linter.unusedSimpArgs false
open Go.RowKit

set_option maxHeartbeats 1000000 in
set_option maxRecDepth 100000 in
theorem eachK_any {σ : Type} (N : Nat) (p : Value) (St : Nat → World → σ → Prop) (f : σ → Nat → Nat × σ) (base E B : Nat) (a : Option Addr) (cap : Nat) (L : List Nat) (w : World) (s0 : σ)
    (hz : Ints w B a (ints L)) (hB : B ≤ base) (hbE : base ≤ E) (hE : E ≤ w.heap.size) (hL6 : L.length ≤ 600) (h0 : St 0 w s0)
    (hcf : ∀ (args : Array Value) (W : World), (callFunc N args).run Try.prog W = .ok (.enter N args) W)
    (hkeep : ∀ (W W' : World) (s : σ) (k : Nat), St k W s → (∀ i, base ≤ i → i < E → W'.heap[i]? = W.heap[i]?) → St k W' s)
    (hnext : ∀ (W : World) (s : σ) (x k : Nat), k < L.length → St k W s → x ∈ L → Calls Try.prog N #[p, .int .i64 (x : Int)] W fun e W' => e = .returned (.int .i64 ((f s x).1 : Int)) ∧ St (k + 1) W' (f s x).2 ∧ Mid base E W W') :
    Calls Try.prog 147 #[.slice a L.length cap, .func (.func N) #[p] #[]] w fun e w' => ∃ g, e = .returned (.slice (some ⟨g, 0, none⟩) L.length L.length) ∧ w'.ownsRow w.heap.size 3 1 (.slice (some ⟨g, 0, none⟩) L.length L.length) L.length (natsL (runF f s0 L)) ∧ Below base w w' := by
  obtain ⟨j0, ji, jz0, jz1, jz2⟩ := info_parts Try.infoInt
  have HZ := hidden hz
  have HK := hidden hkeep
  have HX := hidden hnext
  have H0 := hidden h0
  obtain ⟨A, hA⟩ : ∃ A, runF f s0 L = A := ⟨_, rfl⟩
  have HA := hidden hA
  rw [hA]
  obtain ⟨n, hn⟩ : ∃ n, L.length = n := ⟨_, rfl⟩
  have HN := hidden hn
  rw [hn] at hL6 ⊢
  clear hz hA hn hkeep hnext h0
  go_enter Try.func147, Try.ntmps147
  go_wp2_with (at_make; refine wpList_make_full _ rfl _ _ 39 rfl w.heap.size 3 j0 (.int .i64 0) 1 Try.underlying39 ji jz0 jz1 .i64 .i64 _ _ n rfl rfl rfl rfl ?cb1 ?cb2 ?cb3 ?_)
  case cb1 => rw [jz2]; omega
  case cb2 => unfold maxLen; omega
  case cb3 => exact Nat.le_refl _
  intro w2 hown hgrow
  have hb2 := bel_made hgrow
  rw [made_nats] at hown
  have H2 := hidden (HK.out _ w2 s0 0 H0.out (fun i _ hi => hb2.block i (by omega)))
  have hbb : Below base w w2 := hb2.mono (by omega)
  clear hgrow hb2
  go_wp2
  go_loopw [6, 7, 13] (fun _ _ sk wr => ∃ (k : Nat) (s : σ) (D : List Nat) (F : Nat → Nat), k ≤ n ∧ sk = .int .i64 k ∧ Hid (A = D ++ runF f s (L.drop k)) ∧ Hid (D.length = k ∧ ∀ j, j < k → F j = D.getD j 0) ∧ Hid (St k wr s) ∧ wr.ownsRow w.heap.size 3 1 (.slice (some ⟨w.heap.size, 0, none⟩) n n) n (nats n F) ∧ Below base w wr) (fun _ _ sk _ => n - (intOf sk).toNat)
  case atStart => exact ⟨0, s0, [], fun _ => 0, by omega, rfl, hidden (by rw [← HA.out]; rfl), hidden ⟨rfl, fun j hj => by omega⟩, H2, hown, hbb⟩
  case round =>
    obtain ⟨k, s, D, F, hk, rfl, HD, HF, HSt, hownF, hblF⟩ := hrel
    clear hown hbb
    have hsz := hblF.size
    by_cases hlt : k < n
    · obtain ⟨b, off, rfl, hb, hc⟩ := (HZ.out.below (hblF.mono hB)).2.2 (by rw [ints_len, HN.out]; omega)
      have ck := ints_cell (B := B) hc k (by rw [HN.out]; exact hlt)
      have HM := hidden (getD_mem7 L k (by rw [HN.out]; exact hlt))
      have HDR := hidden (drop_cons L k (by rw [HN.out]; exact hlt))
      obtain ⟨x, hx⟩ : ∃ x, L.getD k 0 = x := ⟨_, rfl⟩
      rw [hx] at ck HM HDR
      have KX := hidden (HX.out wr s x k (by rw [HN.out]; exact hlt) HSt.out HM.out)
      have HS2 : Hid (A = (D ++ [(f s x).1]) ++ runF f (f s x).2 (L.drop (k + 1))) := hidden (by rw [HD.out, HDR.out, runF, List.append_assoc]; rfl)
      obtain ⟨y, hy⟩ : ∃ y, (f s x).1 = y := ⟨_, rfl⟩
      obtain ⟨s2, hs2⟩ : ∃ s2, (f s x).2 = s2 := ⟨_, rfl⟩
      rw [hy, hs2] at KX HS2
      have HO := hidden hownF
      clear hx hc hy hs2 hownF
      go_wp2_with fail
      refine KX.out.mono ?_
      rintro e w3 ⟨rfl, hSt3, hm3⟩
      have hO3 := hm3.own HO.out hE
      have hb3 : Below base w w3 := hblF.trans (hm3.below (by omega))
      have HSt3 := hidden hSt3
      have d0 := hO3.cellAt k (by omega)
      rw [nats_get _ _ _ hlt] at d0
      have f0 := hO3.frozenAt k
      have hHN : Hid (w3.heap.size = w3.heap.size) := hidden rfl
      clear hSt3 hm3 hblF
      go_wp2
      go_roundw
      case rel => exact ⟨k + 1, s2, D ++ [y], fun t => if t = k then y else F t, by omega, by go_num, HS2, hidden ⟨by simp [HF.out.1], fun j hj => by
          by_cases e : j = k
          · show (if j = k then y else F j) = _
            rw [if_pos e, e]; simp [List.getD_eq_getElem?_getD, HF.out.1]
          · show (if j = k then y else F j) = _
            rw [if_neg e, HF.out.2 j (by omega)]; simp [List.getD_eq_getElem?_getD, List.getElem?_append_left (show j < D.length by rw [HF.out.1]; omega)]⟩, hidden (HK.out _ _ s2 (k + 1) HSt3.out (fun i _ hi => Below.heap_setCell _ _ _ i (by simp; omega))), by rw [← nats_set]; exact (hO3.stored k _).1, hb3.setCell (by simp; omega) _⟩
      case measure => simp [intOf]; omega
    · have hkn : k = n := by omega
      subst hkn
      have HE : Hid (nats k F = natsL A) := hidden (by
        rw [natsL_nats]
        have e : A = D := by rw [HD.out, ← HN.out, List.drop_length, runF, List.append_nil]
        rw [e, HF.out.1]
        exact nats_congr fun j hj => HF.out.2 j hj)
      go_wp2
      go_ret
      exact ⟨_, rfl, by rw [← HE.out]; exact hownF, hblF⟩
set_option maxHeartbeats 1000000 in
set_option maxRecDepth 100000 in
theorem index_any (sb n x : Nat) (S : List Nat) (w : World) (h : Has w sb 3 (syC S)) (hS : S.length = n) (hn : n ≤ 256) (hx : x ∈ S) :
    Calls Try.prog 158 #[.slice (some ⟨sb, 0, none⟩) n n, .int .i64 x] w fun e w' => e = .returned (.int .i64 ((S.idxOf x : Nat) : Int)) ∧ w = w' := by
  have HC : Hid (∀ j, j < n → w.cell? ⟨sb, j, none⟩ = some (.int .i64 ((S.getD j 0 : Nat) : Int))) := hidden (fun j hj => by
    have := h.cell j
    rwa [syC_get _ _ (by rw [hS]; exact hj)] at this)
  have HIA := hidden (idx_at S hx)
  have HIF := hidden (idx_first S x)
  have hkn : S.idxOf x < n := by rw [← hS]; exact List.idxOf_lt_length_of_mem hx
  obtain ⟨k, hk⟩ : ∃ k, S.idxOf x = k := ⟨_, rfl⟩
  rw [hk] at HIA HIF hkn ⊢
  clear h hk hx hS
  go_enter Try.func158, Try.ntmps158
  go_wp2
  go_loopw [5, 8] (fun _ sj wr => ∃ j : Nat, j ≤ k ∧ sj = .int .i64 j ∧ Hid (w = wr)) (fun _ sj _ => k - (intOf sj).toNat)
  case atStart => exact ⟨0, by omega, rfl, hidden rfl⟩
  case round =>
    obtain ⟨j, hj, rfl, HW⟩ := hrel
    have d0 := HC.out j (by omega)
    rw [HW.out] at d0
    have hjn : (j : Int) < (n : Int) := by omega
    by_cases hlt : j < k
    · have hne := HIF.out j hlt
      obtain ⟨y, hy⟩ : ∃ y, S.getD j 0 = y := ⟨_, rfl⟩
      rw [hy] at d0 hne
      have hbe : ((x : Int) == (y : Int)) = false := by rw [beq_eq_false_iff_ne]; omega
      have hbi : ¬ (x : Int) = (y : Int) := by omega
      clear hy
      go_wp2
      go_roundw
      case rel => exact ⟨j + 1, by omega, by go_num, HW⟩
      case measure => simp [intOf]; omega
    · obtain rfl : j = k := by omega
      rw [HIA.out] at d0
      go_wp2
      go_ret
      exact ⟨rfl, HW.out⟩
/-- The struct with its two rows, all from base on and below E. -/
def TO (W : World) (base E ob m k : Nat) (s : SB) : Prop := s.ok ∧ s.t = k ∧ ∃ tb sb, TOw W ob tb sb m s (byL s.sm m) ∧ ∀ b, b = ob ∨ b = tb ∨ b = sb → base ≤ b ∧ b < E
theorem TO.keep {W W' : World} {base E ob m k : Nat} {s : SB} (h : TO W base E ob m k s) (hk : ∀ i, base ≤ i → i < E → W'.heap[i]? = W.heap[i]?) : TO W' base E ob m k s := by
  obtain ⟨h1, h2, tb, sb, h3, h4⟩ := h
  have l1 := h4 ob (.inl rfl)
  have l2 := h4 tb (.inr (.inl rfl))
  have l3 := h4 sb (.inr (.inr rfl))
  exact ⟨h1, h2, tb, sb, h3.keep ⟨hk _ l1.1 l1.2, hk _ l2.1 l2.2, hk _ l3.1 l3.2⟩, h4⟩
set_option maxHeartbeats 1000000 in
set_option maxRecDepth 100000 in
theorem toRankOf_any (base E ob m k x : Nat) (s : SB) (w : World) (h : TO w base E ob m k s) (hx : x < m) (hm : m ≤ 256) (hk : k ≤ 900) :
    Calls Try.prog 156 #[.pointer (some ⟨ob, 0, none⟩), .int .i64 x] w fun e w' => e = .returned (.int .i64 ((sbrF m s x).1 : Int)) ∧ TO w' base E ob m (k + 1) (sbrF m s x).2 ∧ Mid base E w w' := by
  obtain ⟨hok, ht, tb, sb, hT, hl⟩ := h
  have hBy := (byL_by s.sm m).1
  have hxm := (hBy.mem x).2 hx
  have hym := hBy.idx hx
  have KI := hidden (index_any sb m x _ w hT.y (byL_len _ _) hm hxm)
  have KU := hidden (update_any base E ob tb sb m _ s w hT hym hm hok (by omega) hl)
  rw [idx_at _ hxm] at KU
  have HU : Hid ((sbrF m s x).2 = s.up x ∧ (sbrF m s x).1 = (byL s.sm m).idxOf x ∧ (s.up x).ok ∧ (s.up x).t = k + 1) := hidden ⟨rfl, rfl, hok.up x, by show s.t + 1 = k + 1; rw [ht]⟩
  rw [HU.out.1, HU.out.2.1]
  have HL := hidden hl
  have c1 := hT.o.cell 1
  simp at c1
  obtain ⟨y, hy⟩ : ∃ y, (byL s.sm m).idxOf x = y := ⟨_, rfl⟩
  rw [hy] at KI KU ⊢
  clear hT hy hl hok
  go_enter Try.func156, Try.ntmps156
  go_wp2_with fail
  refine KI.out.mono ?_
  rintro e w1 ⟨rfl, rfl⟩
  go_wp2_with fail
  refine KU.out.mono ?_
  rintro e w2 ⟨rfl, hT2, hM2⟩
  go_wp2
  go_ret
  exact ⟨rfl, ⟨HU.out.2.2.1, HU.out.2.2.2, tb, sb, hT2, HL.out⟩, hM2⟩
set_option maxHeartbeats 1000000 in
set_option maxRecDepth 100000 in
theorem toSymbolAt_any (base E ob m k x : Nat) (s : SB) (w : World) (h : TO w base E ob m k s) (hx : x < m) (hm : m ≤ 256) (hk : k ≤ 900) :
    Calls Try.prog 155 #[.pointer (some ⟨ob, 0, none⟩), .int .i64 x] w fun e w' => e = .returned (.int .i64 ((usbF m s x).1 : Int)) ∧ TO w' base E ob m (k + 1) (usbF m s x).2 ∧ Mid base E w w' := by
  obtain ⟨hok, ht, tb, sb, hT, hl⟩ := h
  have KU := hidden (update_any base E ob tb sb m x s w hT hx hm hok (by omega) hl)
  have d0 := hT.y.cell x
  rw [syC_get _ _ (by rw [byL_len]; exact hx)] at d0
  have HU : Hid ((usbF m s x).2 = s.up ((byL s.sm m).getD x 0) ∧ (usbF m s x).1 = (byL s.sm m).getD x 0 ∧ (s.up ((byL s.sm m).getD x 0)).ok ∧ (s.up ((byL s.sm m).getD x 0)).t = k + 1) := hidden ⟨rfl, rfl, hok.up _, by show s.t + 1 = k + 1; rw [ht]⟩
  rw [HU.out.1, HU.out.2.1]
  have HL := hidden hl
  have c1 := hT.o.cell 1
  simp at c1
  obtain ⟨y, hy⟩ : ∃ y, (byL s.sm m).getD x 0 = y := ⟨_, rfl⟩
  rw [hy] at KU d0 HU ⊢
  have hxI : (x : Int) < (m : Int) := by omega
  clear hT hy hl hok
  go_enter Try.func155, Try.ntmps155
  go_wp2_with fail
  refine KU.out.mono ?_
  rintro e w2 ⟨rfl, hT2, hM2⟩
  go_wp2
  go_ret
  exact ⟨rfl, ⟨HU.out.2.2.1, HU.out.2.2.2, tb, sb, hT2, HL.out⟩, hM2⟩
theorem made_tm (m : Nat) : madeCells #[Value.int .i64 0, Value.int .i64 0] (m * 2) = tmC m (fun _ => 0) (fun _ => 0) := by
  apply Array.ext_getElem?
  intro i
  by_cases hi : i < m * 2
  · obtain ⟨y, hy | hy⟩ : ∃ y, i = y * 2 ∨ i = y * 2 + 1 := ⟨i / 2, by omega⟩
    · subst hy
      rw [tmC_a _ _ _ _ (by omega)]
      simp [madeCells, hi]
    · subst hy
      rw [tmC_b _ _ _ _ (by omega)]
      have : (y * 2 + 1) % 2 = 1 := by omega
      simp [madeCells, hi, this]
  · have e1 : (madeCells #[Value.int .i64 0, Value.int .i64 0] (m * 2))[i]? = none := by rw [Array.getElem?_eq_none_iff]; simp [madeCells]; omega
    have e2 : (tmC m (fun _ => 0) (fun _ => 0))[i]? = none := by rw [Array.getElem?_eq_none_iff, tmC_len]; omega
    rw [e1, e2]
theorem made_sy (m : Nat) : madeCells #[Value.int .i64 0] m = syC (List.replicate m 0) := by
  have := made_nats m
  have h2 : (madeCells #[Value.int .i64 0] m) = (nats m (fun _ => 0)).toArray := by rw [← this]
  rw [h2]
  unfold syC
  rw [natsL_nats, List.length_replicate]
  congr 1
  exact nats_congr fun s hs => by simp [List.getD_eq_getElem?_getD, hs]
theorem Try.infoTimes : (Try.prog.info? 178).map (fun i => (i.zero, i.size, i.bytes)) = some (some (.agg #[.int .i64 0, .int .i64 0]), 2, 16) := by kernel_rfl
theorem mk_times (m : Nat) (hm : m ≤ 256) (w : World) : (Instr.makeSlice 173 (.int .i64 (m : Int)) (.int .i64 (m : Int))).run Try.prog w = .ok (.slice (some ⟨w.heap.size, 0, none⟩) m m) (w.alloc (.cells (tmC m (fun _ => 0) (fun _ => 0)) 178)) := by
  obtain ⟨i, hi, h1, h2, h3⟩ := info_parts Try.infoTimes
  have := run_make (P := Try.prog) w 173 178 i (.agg #[.int .i64 0, .int .i64 0]) Try.underlying173 hi h1 .i64 .i64 m m (by omega) (Int.le_refl _) (by rw [h3]; omega) (by omega)
  have hz : (Value.agg #[.int .i64 0, .int .i64 0]).cells = #[Value.int .i64 0, Value.int .i64 0] := rfl
  simp only [Int.toNat_natCast, h2, hz, made_tm] at this
  exact this
theorem mk_syms (m : Nat) (hm : m ≤ 256) (w : World) : (Instr.makeSlice 39 (.int .i64 (m : Int)) (.int .i64 (m : Int))).run Try.prog w = .ok (.slice (some ⟨w.heap.size, 0, none⟩) m m) (w.alloc (.cells (syC (List.replicate m 0)) 3)) := by
  obtain ⟨i, hi, h1, h2, h3⟩ := info_parts Try.infoInt
  have := run_make (P := Try.prog) w 39 3 i (.int .i64 0) Try.underlying39 hi h1 .i64 .i64 m m (by omega) (Int.le_refl _) (by rw [h3]; omega) (by omega)
  have hz : (Value.int .i64 0).cells = #[Value.int .i64 0] := rfl
  simp only [Int.toNat_natCast, h2, Nat.mul_one, hz, made_sy] at this
  exact this
theorem byL_zero (m : Nat) : byL sb0.sm m = List.range m := byS_unique (byL_by _ m) (by_zero m)
set_option maxHeartbeats 1000000 in
set_option maxRecDepth 100000 in
theorem timedOrderOf_any (m : Nat) (w : World) (hm1 : 1 ≤ m) (hm : m ≤ 256) (g : Nat) (hg : w.heap.size = g) :
    Calls Try.prog 154 #[.int .i64 m] w fun e w' => ∃ ob, e = .returned (.pointer (some ⟨ob, 0, none⟩)) ∧ TO w' g w'.heap.size ob m 0 sb0 ∧ Below g w w' := by
  subst hg
  have hmt := mk_times m hm
  have hms := mk_syms m hm
  have stA : TOw (((w.alloc (.cells (tmC m (fun _ => 0) (fun _ => 0)) 178)).alloc (.cells (syC (List.replicate m 0)) 3)).alloc (.cells #[.slice (some ⟨w.heap.size, 0, none⟩) m m, .slice (some ⟨w.heap.size + 1, 0, none⟩) m m, .int .i64 0] 175)).drew (w.heap.size + 1 + 1) w.heap.size (w.heap.size + 1) m sb0 (List.replicate m 0) :=
    ⟨Has.freshAt (by simp) _ _, ((Has.fresh w _ _).alloc _).alloc _, (Has.freshAt (by simp) _ _).alloc _⟩
  have stB : TOw (((w.alloc (.cells (syC (List.replicate m 0)) 3)).alloc (.cells (tmC m (fun _ => 0) (fun _ => 0)) 178)).alloc (.cells #[.slice (some ⟨w.heap.size + 1, 0, none⟩) m m, .slice (some ⟨w.heap.size, 0, none⟩) m m, .int .i64 0] 175)).drew (w.heap.size + 1 + 1) (w.heap.size + 1) w.heap.size m sb0 (List.replicate m 0) :=
    ⟨Has.freshAt (by simp) _ _, (Has.freshAt (by simp) _ _).alloc _, ((Has.fresh w _ _).alloc _).alloc _⟩
  have blA : Below w.heap.size w (((w.alloc (.cells (tmC m (fun _ => 0) (fun _ => 0)) 178)).alloc (.cells (syC (List.replicate m 0)) 3)).alloc (.cells #[.slice (some ⟨w.heap.size, 0, none⟩) m m, .slice (some ⟨w.heap.size + 1, 0, none⟩) m m, .int .i64 0] 175)).drew :=
    ((((Below.refl _ _).alloc (Nat.le_refl _) _).alloc (by simp) _).alloc (by simp; omega) _).drew
  have blB : Below w.heap.size w (((w.alloc (.cells (syC (List.replicate m 0)) 3)).alloc (.cells (tmC m (fun _ => 0) (fun _ => 0)) 178)).alloc (.cells #[.slice (some ⟨w.heap.size + 1, 0, none⟩) m m, .slice (some ⟨w.heap.size, 0, none⟩) m m, .int .i64 0] 175)).drew :=
    ((((Below.refl _ _).alloc (Nat.le_refl _) _).alloc (by simp) _).alloc (by simp; omega) _).drew
  have HSA := hidden stA
  have HSB := hidden stB
  have HBA := hidden blA
  have HBB := hidden blB
  have HZ := hidden (byL_zero m)
  clear stA stB blA blB
  go_enter Try.func154, Try.ntmps154
  go_wp2
  go_region
  all_goals
    go_wp2
    go_loopw [4, 12] (fun _ sk wr => ∃ (k tb sb : Nat) (X : List Nat), k ≤ m ∧ sk = .int .i64 k ∧ Hid (X.length = m ∧ ∀ j, j < k → X.getD j 0 = j) ∧ TOw wr (w.heap.size + 1 + 1) tb sb m sb0 X ∧ Hid (∀ b, b = w.heap.size + 1 + 1 ∨ b = tb ∨ b = sb → w.heap.size ≤ b ∧ b < w.heap.size + 3) ∧ Below w.heap.size w wr ∧ Hid (w.heap.size + 3 ≤ wr.heap.size)) (fun _ sk _ => m - (intOf sk).toNat)
    case atStart => first | exact ⟨0, _, _, List.replicate m 0, by omega, rfl, hidden ⟨by simp, fun j hj => by omega⟩, HSA.out, hidden (fun b hb => by omega), HBA.out, hidden (by simp)⟩ | exact ⟨0, _, _, List.replicate m 0, by omega, rfl, hidden ⟨by simp, fun j hj => by omega⟩, HSB.out, hidden (fun b hb => by omega), HBB.out, hidden (by simp)⟩
    case round =>
      obtain ⟨k, tb, sb, X, hk, rfl, HX, hT, HL, hbl, HE⟩ := hrel
      have hos : w.heap.size + 1 + 1 ≠ sb := hT.o.neT hT.y (by decide)
      have hts : tb ≠ sb := hT.t.neT hT.y (by decide)
      by_cases hlt : k < m
      · have c1 := hT.o.cell 1
        simp at c1
        have d0 := hT.y.cell k
        rw [syC_get _ _ (by rw [HX.out.1]; exact hlt)] at d0
        have f0 := hT.y.free k
        have o2 := hT.o.storeAway (p := ⟨sb, k, none⟩) (by simpa using hos) (.int .i64 (k : Int))
        have t2 := hT.t.storeAway (p := ⟨sb, k, none⟩) (by simpa using hts) (.int .i64 (k : Int))
        have y2 := hT.y.store k (.int .i64 (k : Int))
        rw [syC_set] at y2
        have l3 := HL.out sb (.inr (.inr rfl))
        have b2 := hbl.setCell (p := ⟨sb, k, none⟩) l3.1 (.int .i64 (k : Int))
        have HX2 : Hid ((X.set k k).length = m ∧ ∀ j, j < k + 1 → (X.set k k).getD j 0 = j) := hidden ⟨by rw [List.length_set, HX.out.1], fun j hj => by
          by_cases e : j = k
          · subst e
            have : j < X.length := by rw [HX.out.1]; exact hlt
            simp [List.getD_eq_getElem?_getD, this]
          · have := HX.out.2 j (by omega)
            rw [List.getD_eq_getElem?_getD] at this ⊢
            rw [List.getElem?_set_ne (fun h => e h.symm)]
            exact this⟩
        clear hT hbl
        go_wp2
        go_roundw
        case rel => exact ⟨k + 1, tb, sb, X.set k k, by omega, by go_num, HX2, ⟨o2, t2, y2⟩, HL, b2, hidden (by simpa using HE.out)⟩
        case measure => simp [intOf]; omega
      · have hkm : k = m := by omega
        subst hkm
        have HE2 : Hid (X = byL sb0.sm k) := hidden (by
          rw [HZ.out]
          apply List.ext_getElem
          · rw [HX.out.1, List.length_range]
          · intro j h1 h2
            have := HX.out.2 j (by rw [HX.out.1] at h1; exact h1)
            rw [List.getElem_range]
            simpa [List.getD_eq_getElem?_getD, h1] using this)
        go_wp2
        go_ret
        refine ⟨_, rfl, ⟨sb0_ok, rfl, tb, sb, by rw [← HE2.out]; exact hT, fun b hb => ?_⟩, hbl⟩
        have := HL.out b hb
        have := HE.out
        omega
end Go.Proofs.Yteaohgipndmciaa
