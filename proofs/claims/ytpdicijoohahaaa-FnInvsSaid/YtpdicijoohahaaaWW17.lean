/- Merged: I8Y, I8Z. -/
import Derived.Test.YtpdicijoohahaaaWW8
import Derived.Test.YtpdicijoohahaaaWW3
import Derived.Test.YtpdicijoohahaaaWW12
import Derived.Shelf.Bits.Mul64
namespace Go.Proofs.Ytpdicijoohahaaa
set_option linter.unusedVariables false
set_option linter.unusedSimpArgs false
open Go.RowKit Go.Shelf

def rhoMul : Ren := ⟨fun n => match n with | 212 => 85 | 263 => 87 | 264 => 88 | n => n,
  fun n => match n with | 46 => 76 | 51 => 84 | 53 => 99 | 146 => 97 | 148 => 100 | n => n, fun n => n⟩
set_option maxRecDepth 100000 in
theorem laysMul : Lays.n212 Try.prog rhoMul where
  mixed := by kernel_rfl
  f212 := by kernel_rfl
  f263 := by kernel_rfl
  f264 := by kernel_rfl
  t46 := by kernel_rfl
  a46 := fun w => by kernel_rfl
  z46 := fun w => by kernel_rfl
  v46 := fun w => by kernel_rfl
  t51 := by kernel_rfl
  a51 := fun w => by kernel_rfl
  z51 := fun w => by kernel_rfl
  v51 := fun w => by kernel_rfl
  t53 := by kernel_rfl
  a53 := fun w => by kernel_rfl
  z53 := fun w => by kernel_rfl
  v53 := fun w => by kernel_rfl
  t146 := by kernel_rfl
  a146 := fun w => by kernel_rfl
  z146 := fun w => by kernel_rfl
  v146 := fun w => by kernel_rfl
  t148 := by kernel_rfl
  a148 := fun w => by kernel_rfl
  z148 := fun w => by kernel_rfl
  v148 := fun w => by kernel_rfl
theorem mul_one_any (c : Nat) (hc : c ≤ 5000) (w : World) :
    Calls Try.prog 85 #[.int .u64 1, .int .u64 (c : Int)] w fun e w' => e = .returned (.tuple #[.int .u64 0, .int .u64 (c : Int)]) ∧ w = w' := by
  refine (Any.bits_Mul laysMul 1 c (by omega) (by omega) w).mono ?_
  rintro e w' ⟨rfl, rfl⟩
  refine ⟨?_, rfl⟩
  have h1 : 1 * c / 18446744073709551616 = 0 := by omega
  have h2 : 1 * c % 18446744073709551616 = c := by omega
  rw [h1, h2]
  rfl
set_option maxHeartbeats 2000000 in
set_option maxRecDepth 100000 in
theorem repeat_any (c x vb : Nat) (tv : TypeId) (w : World) (hc : c ≤ 5000) (hv : Has w vb tv #[.int .i64 (x : Int)]) :
    Calls Try.prog 82 #[.slice (some ⟨vb, 0, none⟩) 1 1, .int .i64 c] w fun e w' => ∃ g, e = .returned (.slice (some ⟨g, 0, none⟩) c c) ∧ w'.ownsRow w.heap.size 3 1 (.slice (some ⟨g, 0, none⟩) c c) c (natsL (List.replicate c x)) ∧ Below w.heap.size w w' := by
  obtain ⟨i0, hi, hz0, hz1, hz2⟩ := info_parts Try.infoInt
  have KM := hidden (fun W => mul_one_any c hc W)
  have hvl := hv.lt
  have HV := hidden hv
  have mixed := laysMul.mixed
  have hsz : (Try.prog.info? 3).map (·.size) = some 1 := by rw [hi]; simp [hz1]
  have hwc : IntKind.u64.wrap (c : Int) = (c : Int) := by rw [IntKind.wrap_u64]; omega
  have hwd : IntKind.i64.wrap (c : Int) = (c : Int) := by rw [IntKind.wrap_i64]; omega
  clear hv
  by_cases h0 : c = 0
  · subst h0
    have hcp : ∀ (W : World) d ty, (Builtin.copy_ #[22, 22] ty #[.slice d 0 0, .slice (some ⟨vb, 0, none⟩) 1 1]).run Try.prog W = .ok (goInt 0) W := fun W d ty => run_copy_none W _ _ ty 3 d (some ⟨vb, 0, none⟩) 0 0 1 1 Try.underlying22 hsz rfl
    go_enter Try.func82, Try.ntmps82
    go_wp2_with fail
    refine (KM.out _).mono ?_
    rintro e w1 ⟨rfl, rfl⟩
    go_wp2_with (at_make; refine wpList_make_full _ rfl _ _ 22 rfl w.heap.size 3 i0 (.int .i64 0) 1 Try.underlying22 hi hz0 hz1 .i64 .i64 _ _ 0 rfl rfl rfl rfl ?cb1 ?cb2 ?cb3 ?_)
    case cb1 => rw [hz2]; omega
    case cb2 => unfold maxLen; omega
    case cb3 => exact Nat.le_refl _
    intro w2 hown hgrow
    have hbl := bel_made hgrow
    rw [made_nats] at hown
    clear hgrow
    go_wp2_with (at_builtin; refine wpList_copy_runI _ rfl _ _ 22 22 rfl _ _ rfl rfl (hcp _ _ _) ?_)
    go_loopw [8] (fun sk wr => sk = .int .i64 0 ∧ w2 = wr) (fun _ _ => 0)
    case atStart => exact ⟨rfl, rfl⟩
    case round =>
      obtain ⟨rfl, rfl⟩ := hrel
      go_wp2
      go_ret
      exact ⟨_, rfl, hown, hbl⟩
  · have hcp0 : ∀ (W : World) (f : Nat → Value), W.rowIs w.heap.size 3 c f → W.cell? ⟨vb, 0, none⟩ = some (.int .i64 (x : Int)) → ∀ ty, (Builtin.copy_ #[22, 22] ty #[.slice (some ⟨w.heap.size, 0, none⟩) c c, .slice (some ⟨vb, 0, none⟩) 1 1]).run Try.prog W = .ok (.int .i64 1) (W.setCells w.heap.size 0 [.int .i64 (x : Int)]) := fun W f hr hcv ty =>
      run_copy_cells W _ _ ty 3 w.heap.size 0 c c ⟨vb, 0, none⟩ 1 1 [.int .i64 (x : Int)] Try.underlying22 hsz (by simp only [List.length_cons, List.length_nil, Nat.min_def]; split <;> omega)
        (fun j v hj => by
          have h1 : j = 0 := by
            have := (List.getElem?_eq_some_iff.1 hj).1
            simpa using this
          subst h1
          have e1 : (⟨vb, 0, none⟩ : Addr).add 0 = ⟨vb, 0, none⟩ := by simp [Addr.add]
          rw [e1, hcv]
          simpa using hj)
        (fun j hj => by rw [Nat.zero_add, row_some8 hr (by simp at hj; omega)]; rfl) (fun j hj => by rw [Nat.zero_add]; exact row_free8 hr _) (fun v h => by simp at h; subst h; rfl)
    have hcp1 : ∀ (W : World) (f : Nat → Value) (k : Nat), W.rowIs w.heap.size 3 c f → k ≤ c → (∀ j, j < k → f j = .int .i64 (x : Int)) → ∀ ty, (Builtin.copy_ #[22, 22] ty #[.slice (some ⟨w.heap.size, k, none⟩) (c - k) (c - k), .slice (some ⟨w.heap.size, 0, none⟩) k c]).run Try.prog W = .ok (.int .i64 ((min k (c - k) : Nat) : Int)) (W.setCells w.heap.size k (List.replicate (min k (c - k)) (.int .i64 (x : Int)))) := fun W f k hr hk hf ty => by
      have := run_copy_cells W 22 22 ty 3 w.heap.size k (c - k) (c - k) ⟨w.heap.size, 0, none⟩ k c (List.replicate (min k (c - k)) (.int .i64 (x : Int))) Try.underlying22 hsz (by rw [List.length_replicate])
        (fun j v hj => by
          have h1 : j < min k (c - k) := by
            have := (List.getElem?_eq_some_iff.1 hj).1
            simpa using this
          rw [List.getElem?_replicate, if_pos h1] at hj
          have e1 : (⟨w.heap.size, 0, none⟩ : Addr).add j = ⟨w.heap.size, j, none⟩ := by unfold Addr.add; split <;> simp_all
          rw [e1, row_some8 hr (by omega), hf j (by omega)]
          exact hj)
        (fun j hj => by rw [List.length_replicate] at hj; rw [row_some8 hr (by omega)]; rfl) (fun j hj => row_free8 hr _) (fun v h => by rw [List.eq_of_mem_replicate h]; rfl)
      rw [this, List.length_replicate]
      rfl
    go_enter Try.func82, Try.ntmps82
    go_wp2_with fail
    refine (KM.out _).mono ?_
    rintro e w1 ⟨rfl, rfl⟩
    go_wp2_with (at_make; refine wpList_make_full _ rfl _ _ 22 rfl w.heap.size 3 i0 (.int .i64 0) 1 Try.underlying22 hi hz0 hz1 .i64 .i64 _ _ c rfl rfl rfl rfl ?ca1 ?ca2 ?ca3 ?_)
    case ca1 => rw [hz2]; omega
    case ca2 => unfold maxLen; omega
    case ca3 => exact Nat.le_refl _
    intro w2 hown hgrow
    have hbl := bel_made hgrow
    obtain ⟨_, _, hcm, _, f, hrow, _⟩ := own_row8 hown
    have hcv := (HV.out.below hbl hvl).cell 0
    simp at hcv
    have hcq := hcp0 w2 f hrow hcv
    have hrow1 := rowIs_setCells [Value.int .i64 (x : Int)] 0 w2 f hrow
    have hb1 := below_setCells (B := w.heap.size) (Nat.le_refl _) [Value.int .i64 (x : Int)] 0 w2 hbl
    obtain ⟨W1, hW1⟩ : ∃ W1, w2.setCells w.heap.size 0 [.int .i64 (x : Int)] = W1 := ⟨_, rfl⟩
    rw [hW1] at hcq hrow1 hb1
    obtain ⟨f1, hf1, hx1⟩ : ∃ f1 : Nat → Value, W1.rowIs w.heap.size 3 c f1 ∧ ∀ j, j < 1 → f1 j = .int .i64 (x : Int) := ⟨_, hrow1, fun j hj => by
      have : j = 0 := by omega
      subst this
      rfl⟩
    clear hgrow hcp0 hrow hcv hrow1 hown hW1 hbl
    go_wp2_with (at_builtin; refine wpList_copy_runI _ rfl _ _ 22 22 rfl _ _ rfl rfl (hcq _) ?_)
    go_loopw [8] (fun sk wr => ∃ (k : Nat) (f : Nat → Value), 1 ≤ k ∧ k ≤ c ∧ sk = .int .i64 k ∧ Hid (∀ j, j < k → f j = .int .i64 (x : Int)) ∧ wr.rowIs w.heap.size 3 c f ∧ Below w.heap.size w wr) (fun sk _ => c - (intOf sk).toNat)
    case atStart => exact ⟨1, f1, by omega, by omega, rfl, hidden hx1, hf1, hb1⟩
    case round =>
      obtain ⟨k, f, hk1, hk2, rfl, HX, hrow, hbl⟩ := hrel
      clear hf1 hb1 hx1 hcq
      by_cases hlt : k < c
      · have hltI : (k : Int) < (c : Int) := by omega
        have hck : ¬ c = k := by omega
        have hq := hcp1 wr.drew f k (row_drew8 hrow) hk2 HX.out
        obtain ⟨m, hm⟩ : ∃ m, min k (c - k) = m := ⟨_, rfl⟩
        have hm1 : 1 ≤ m ∧ k + m ≤ c := by omega
        rw [hm] at hq
        have r1 := rowIs_setCells (List.replicate m (Value.int .i64 (x : Int))) k wr.drew f (row_drew8 hrow)
        have b1 := below_setCells (B := w.heap.size) (Nat.le_refl _) (List.replicate m (Value.int .i64 (x : Int))) k wr.drew hbl.drew
        obtain ⟨W2, hW2⟩ : ∃ W2, wr.drew.setCells w.heap.size k (List.replicate m (.int .i64 (x : Int))) = W2 := ⟨_, rfl⟩
        rw [hW2] at hq r1 b1
        obtain ⟨f2, hf2, HX2⟩ : ∃ f2 : Nat → Value, W2.rowIs w.heap.size 3 c f2 ∧ Hid (∀ j, j < k + m → f2 j = .int .i64 (x : Int)) := ⟨_, r1, hidden (fun j hj => by
          simp only [List.length_replicate]
          by_cases h : k ≤ j ∧ j < k + m
          · rw [if_pos h, List.getElem?_replicate, if_pos (by omega)]; rfl
          · rw [if_neg h]; exact HX.out j (by omega))⟩
        have hkI : (k : Int) ≤ (c : Int) := by omega
        have hwk : IntKind.i64.wrap ((k : Int) + (m : Int)) = (k : Int) + (m : Int) := by rw [IntKind.wrap_i64]; omega
        clear hm hW2 r1 hrow hbl HX hcp1
        go_wp2
        go_region_law_o (refine step_copy_runI rfl _ _ 22 22 rfl _ _ (by simp [Act.eval, Act.put]) (by simp [Act.eval, Act.put]) (hq _) ?_)
        go_wp2
        go_roundw
        case rel =>
          repeat apply Exists.intro
          refine ⟨?_, rfl⟩
          refine ⟨k + m, f2, by omega, by omega, ?_, HX2, hf2, b1⟩
          exact congrArg (Value.int .i64) (Int.natCast_add k m).symm
        case measure =>
          show c - (intOf (Value.int .i64 ((k : Int) + (m : Int)))).toNat < c - (intOf (Value.int .i64 (k : Int))).toNat
          simp only [intOf]
          omega
      · have hkc : k = c := by omega
        subst hkc
        have hfin : wr.ownsRow w.heap.size 3 1 (.slice (some ⟨w.heap.size, 0, none⟩) k k) k (natsL (List.replicate k x)) := row_own8 hrow (Nat.le_refl _) (Nat.le_refl _) hcm (by rw [natsL_len, List.length_replicate]) (fun j hj => by
          rw [HX.out j hj]
          simp [natsL, hj])
        go_wp2
        go_ret
        exact ⟨_, rfl, hfin, hbl⟩
end Go.Proofs.Ytpdicijoohahaaa
namespace Go.Proofs.Ytpdicijoohahaaa
set_option linter.unusedVariables false
set_option linter.unusedSimpArgs false
open Go.RowKit

theorem insF_step {x : Nat} {T : Option (List Nat)} {pre rest : List Nat} {y : Nat} {gs : List Int} (hT : T = (insF x rest ((y : Int) :: gs)).map (pre ++ ·)) (h : y ≤ rest.length) : T = (insF x (rest.drop y) gs).map ((pre ++ rest.take y ++ [x]) ++ ·) := by
  rw [hT, insF_yes gs h]
  cases insF x (rest.drop y) gs <;> simp
theorem ins_list {pre rest : List Nat} {x y : Nat} (h : y ≤ rest.length) : (pre ++ rest).take (pre.length + y) ++ x :: (pre ++ rest).drop (pre.length + y) = (pre ++ rest.take y ++ [x]) ++ rest.drop y := by
  rw [List.take_length_add_append, List.drop_length_add_append]
  simp
theorem bel_grown8 {base : Nat} {a b w : World} {g : Nat} (h : Below base w a) (k : a.grownBy b (some g)) (hg : base ≤ g) (hb : base ≤ w.heap.size) : Below base w b :=
  ⟨k.os.trans h.os, k.tape.trans h.tape, k.output.trans h.output, Nat.le_trans h.size k.size, fun i hi => (k.block i (Nat.lt_of_lt_of_le (Nat.lt_of_lt_of_le hi hb) h.size) (by simp; omega)).trans (h.block i hi)⟩
set_option maxHeartbeats 2000000 in
set_option maxRecDepth 100000 in
theorem inserted_any (base g n c B x : Nat) (L : List Nat) (a2 : Option Addr) (c2 : Nat) (gz : List Int) (w : World) (hown : w.ownsRow base 3 1 (.slice (some ⟨g, 0, none⟩) n c) n (natsL L)) (hbase : base ≤ w.heap.size) (hL : L.length = n) (hz : Ints w B a2 gz) (hB : B ≤ base) (hn : n ≤ 600) (hm : gz.length ≤ 600) (hx : x ≤ 256) :
    Calls Try.prog 83 #[.slice (some ⟨g, 0, none⟩) n c, .int .i64 x, .slice a2 gz.length c2] w fun e w' =>
      ((∃ R g2 c2, insF x L gz = some R ∧ e = .returned (.tuple #[.slice (some ⟨g2, 0, none⟩) R.length c2, .bool true]) ∧ w'.ownsRow base 3 1 (.slice (some ⟨g2, 0, none⟩) R.length c2) R.length (natsL R)) ∨ (insF x L gz = none ∧ e = .returned (.tuple #[.slice none 0 0, .bool false]))) ∧ Below base w w' := by
  have HZ := hidden hz
  have HST : Hid (insF x L gz = (insF x L (gz.drop 0)).map ([] ++ ·)) := hidden (by rw [List.drop_zero]; cases insF x L gz <;> rfl)
  have HDR := hidden (fun i (h : i < gz.length) => dropZ_cons gz i h)
  have HEND : Hid (gz.drop gz.length = []) := hidden (List.drop_length)
  obtain ⟨T, hT⟩ : ∃ T, insF x L gz = T := ⟨_, rfl⟩
  rw [hT] at HST ⊢
  obtain ⟨q, hq⟩ : ∃ q, gz.length = q := ⟨_, rfl⟩
  have HQ := hidden hq
  rw [hq] at hm HDR HEND ⊢
  have HL0 := hidden hL
  clear hz hT hq hL
  go_enter Try.func83, Try.ntmps83
  go_wp2
  go_loopw [0, 8, 10, 13] (fun sl sp _ si wr => ∃ (i p ln g1 c1 : Nat) (pre rest : List Nat), i ≤ q ∧ si = .int .i64 i ∧ sp = .int .i64 p ∧ sl = .slice (some ⟨g1, 0, none⟩) ln c1 ∧ p ≤ ln ∧ Hid (ln = n + i) ∧ Hid (pre.length = p ∧ pre.length + rest.length = ln) ∧ Hid (T = (insF x rest (gz.drop i)).map (pre ++ ·)) ∧ wr.ownsRow base 3 1 (.slice (some ⟨g1, 0, none⟩) ln c1) ln (natsL (pre ++ rest)) ∧ Below base w wr) (fun _ _ _ si _ => q - (intOf si).toNat)
  case atStart => exact ⟨0, 0, n, g, c, [], L, by omega, rfl, rfl, rfl, by omega, hidden (by omega), hidden ⟨rfl, by simp [HL0.out]⟩, HST, hown, Below.refl _ _⟩
  case round =>
    obtain ⟨i, p, ln, g1, c1, pre, rest, hiq, rfl, rfl, rfl, hpl, hln, HLN, HT, hO, hbl⟩ := hrel
    clear hown
    have hsz : base ≤ wr.heap.size := Nat.le_trans hbase hbl.size
    by_cases hlt : i < q
    · obtain ⟨b, off, rfl, hb, hc⟩ := (HZ.out.below (hbl.mono hB)).2.2 (by rw [HQ.out]; omega)
      have ck := hc i (by rw [HQ.out]; exact hlt)
      have HD := hidden (HDR.out i hlt)
      obtain ⟨y, hy⟩ : ∃ y, gz.getD i 0 = y := ⟨_, rfl⟩
      rw [hy] at ck HD
      clear hy hc
      have hiI : (i : Int) < (q : Int) := by omega
      have hln6 : ln ≤ 1200 := by have := hln.out; omega
      by_cases hy0 : y < 0
      · have HF : Hid (T = none) := hidden (by rw [HT.out, HD.out, insF_no _ (by omega)]; rfl)
        go_wp2
        go_ret2
        exact ⟨.inr ⟨HF.out, rfl⟩, hbl⟩
      · by_cases hyr : (ln : Int) - (p : Int) < y
        · have HF : Hid (T = none) := hidden (by rw [HT.out, HD.out, insF_no _ (by have := HLN.out; omega)]; rfl)
          go_wp2
          go_ret2
          exact ⟨.inr ⟨HF.out, rfl⟩, hbl⟩
        · obtain ⟨k, rfl⟩ : ∃ k : Nat, y = k := ⟨y.toNat, by omega⟩
          have hkr : p + k ≤ ln := by omega
          have HT2 : Hid (T = (insF x (rest.drop k) (gz.drop (i + 1))).map ((pre ++ rest.take k ++ [x]) ++ ·)) := hidden (insF_step (by rw [HT.out, HD.out]) (by have := HLN.out; omega))
          have HIL := hidden (ins_list (pre := pre) (rest := rest) (x := x) (y := k) (by have := HLN.out; omega))
          have HLN2 : Hid ((pre ++ rest.take k ++ [x]).length = p + k + 1 ∧ (pre ++ rest.take k ++ [x]).length + (rest.drop k).length = ln + 1) := hidden (by
            have := HLN.out
            simp only [List.length_append, List.length_take, List.length_cons, List.length_nil, List.length_drop]
            omega)
          have hgl := (hO.lt g1 rfl).2
          have hgb := (hO.lt g1 rfl).1
          have hO1 := hO.alloc (.cells #[.int .i64 (x : Int)] 3)
          have hv := Has.fresh wr 3 #[.int .i64 (x : Int)]
          have hb1 : Below base w (wr.alloc (.cells #[.int .i64 (x : Int)] 3)) := hbl.alloc hsz _
          have KI := hidden (insert_any base g1 ln c1 (p + k) x wr.heap.size (pre ++ rest) 3 _ hO1 (by simp; omega) (by rw [List.length_append]; exact HLN.out.2) hkr (by omega) hv (by omega))
          rw [HLN.out.1] at HIL
          rw [HIL.out] at KI
          rw [Int.natCast_add] at KI
          clear hO hO1 hv HT HIL HD
          go_wp2_with fail
          refine KI.out.mono ?_
          rintro e w4 ⟨g4, c4, rfl, hO4, hgr4⟩
          have hb4 := bel_grown8 hb1 hgr4 hgb hbase
          clear hgr4 hb1 hbl KI
          go_wp2
          go_roundw
          case rel => exact ⟨i + 1, p + k + 1, ln + 1, g4, c4, pre ++ rest.take k ++ [x], rest.drop k, by omega, by go_num, by go_num, rfl, by omega, hidden (by have := hln.out; omega), HLN2, HT2, hO4, hb4⟩
          case measure => first | (simp [intOf]; done) | (simp [intOf]; omega)
    · have hie : i = q := by omega
      subst hie
      have HF : Hid (T = some (pre ++ rest)) := hidden (by rw [HT.out, HEND.out, insF]; rfl)
      have HFL : Hid ((pre ++ rest).length = ln) := hidden (by rw [List.length_append]; exact HLN.out.2)
      go_wp2
      go_ret2
      exact ⟨.inl ⟨pre ++ rest, g1, c1, HF.out, by rw [HFL.out]; rfl, by rw [HFL.out]; exact hO⟩, hbl⟩
end Go.Proofs.Ytpdicijoohahaaa
