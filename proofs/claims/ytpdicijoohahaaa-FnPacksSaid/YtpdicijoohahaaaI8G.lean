/- Chapter 8, the program: a new front list; a machine run over a list. -/
import Derived.Test.YtpdicijoohahaaaI8F
import Derived.Test.YtpdicijoohahaaaC8M
namespace Go.Proofs.Ytpdicijoohahaaa
set_option linter.unusedVariables false
set_option linter.unusedSimpArgs false
open Go.RowKit

theorem seg_of {W : World} : ∀ (m : Nat) (f : Nat → Nat × Nat), (∀ i, i < m → Nd W (f i).1 (f i).2 (if i + 1 < m then some ⟨(f (i + 1)).1, 0, none⟩ else none)) → Seg W none ((List.range m).map f)
  | 0, _, _ => trivial
  | m + 1, f, h => by
    rw [List.range_succ_eq_map, List.map_cons, List.map_map]
    refine ⟨?_, seg_of m (f ∘ Nat.succ) (fun i hi => ?_)⟩
    · have := h 0 (by omega)
      cases m with
      | zero => simpa [hdP] using this
      | succ m =>
        rw [if_pos (by omega)] at this
        rw [List.range_succ_eq_map]
        exact this
    · have := h (i + 1) (by omega)
      by_cases h2 : i + 1 < m
      · rw [if_pos (by omega)] at this
        rw [if_pos h2]
        exact this
      · rw [if_neg (by omega)] at this
        rw [if_neg h2]
        exact this
theorem fl_new {W : World} {h n : Nat} (hsz : W.heap.size = h + 1 + n) (hN : ∀ i, i ≤ n → Nd W (h + i) (i - 1) (if i < n then some ⟨h + i + 1, 0, none⟩ else none)) : FL W h W.heap.size h (List.range n) := by
  have e : ((h, 0) :: (List.range n).map fun i => (h + (i + 1), i)) = (List.range (n + 1)).map fun i => (h + i, i - 1) := by
    rw [List.range_succ_eq_map, List.map_cons, List.map_map]
    rfl
  have em : (h :: ((List.range n).map fun i => (h + (i + 1), i)).map Prod.fst) = (List.range (n + 1)).map fun i => h + i := by
    rw [List.range_succ_eq_map, List.map_cons, List.map_map, List.map_map]
    rfl
  refine ⟨(List.range n).map fun i => (h + (i + 1), i), ?_, ?_, ?_, ?_⟩
  · rw [List.map_map]
    conv => rhs; rw [← List.map_id (List.range n)]
    rfl
  · rw [em]
    unfold List.Nodup
    rw [List.pairwise_map]
    refine List.Pairwise.imp ?_ List.nodup_range
    intro a b hab he
    exact hab (by omega)
  · rw [em]
    intro b hb
    obtain ⟨i, hi, rfl⟩ := List.mem_map.1 hb
    have := List.mem_range.1 hi
    omega
  · rw [e]
    refine seg_of (n + 1) _ fun i hi => ?_
    have := hN i (by omega)
    by_cases h2 : i < n
    · rw [if_pos h2] at this
      rw [if_pos (by omega)]
      exact this
    · rw [if_neg h2] at this
      rw [if_neg (by omega)]
      exact this
set_option maxHeartbeats 1000000 in
set_option maxRecDepth 100000 in
theorem frontListOf_any (n : Nat) (w : World) (hn : n ≤ 256) :
    Calls Try.prog 96 #[.int .i64 n] w fun e w' => e = .returned (.pointer (some ⟨w.heap.size, 0, none⟩)) ∧ FL w' w.heap.size w'.heap.size w.heap.size (List.range n) ∧ Below w.heap.size w w' := by
  have hH := Has.fresh w 112 #[.int .i64 0, .pointer none]
  have hb0 : Below w.heap.size w (w.alloc (.cells #[.int .i64 0, .pointer none] 112)) := (Below.refl _ _).alloc (Nat.le_refl _) _
  have HH0 : Hid (∀ i, i ≤ 0 → Nd (w.alloc (.cells #[.int .i64 0, .pointer none] 112)) (w.heap.size + i) (i - 1) (if i < 0 then some ⟨w.heap.size + i + 1, 0, none⟩ else none)) := hidden (by
    intro i hi
    have h0 : i = 0 := by omega
    subst h0
    exact ⟨_, hH⟩)
  go_enter Try.func96, Try.ntmps96
  go_wp2
  go_loopw [4, 5, 12] (fun sl _ sk wr => ∃ k : Nat, k ≤ n ∧ sk = .int .i64 k ∧ sl = .pointer (some ⟨w.heap.size + k, 0, none⟩) ∧ Hid (wr.heap.size = w.heap.size + 1 + k) ∧ Hid (∀ i, i ≤ k → Nd wr (w.heap.size + i) (i - 1) (if i < k then some ⟨w.heap.size + i + 1, 0, none⟩ else none)) ∧ Below w.heap.size w wr) (fun _ _ sk _ => n - (intOf sk).toNat)
  case atStart => exact ⟨0, by omega, rfl, rfl, hidden (by simp), HH0, hb0⟩
  case round =>
    obtain ⟨k, hk, rfl, rfl, HS, HN, hbl⟩ := hrel
    clear hH hb0
    by_cases hlt : k < n
    · have hl := HN.out k (Nat.le_refl _)
      rw [if_neg (by omega)] at hl
      have d1 := hl.next
      have f1 := hl.free 1
      obtain ⟨lb, hlb⟩ : ∃ lb, w.heap.size + k = lb := ⟨_, rfl⟩
      have HLB := hidden hlb
      rw [hlb] at d1 f1 ⊢
      have hll : lb < wr.heap.size := by have := HS.out; omega
      have hN2 : Hid (∀ i, i ≤ k + 1 → Nd ((wr.setCell ⟨lb, 1, none⟩ (.pointer (some ⟨wr.heap.size, 0, none⟩))).alloc (.cells #[.int .i64 (k : Int), .pointer none] 110)) (w.heap.size + i) (i - 1) (if i < k + 1 then some ⟨w.heap.size + i + 1, 0, none⟩ else none)) := hidden (by
        intro i hi
        by_cases h1 : i = k + 1
        · subst h1
          rw [if_neg (by omega)]
          exact ⟨110, Has.freshAt (by have := HS.out; simp; omega) _ _⟩
        · have hN1 := HN.out i (by omega)
          by_cases h2 : i = k
          · subst h2
            rw [if_pos (by omega)]
            have := hN1.store (some ⟨wr.heap.size, 0, none⟩)
            rw [HLB.out] at this ⊢
            rw [show lb + 1 = wr.heap.size by have := HS.out; have := HLB.out; omega]
            exact this.keep (Below.heap_alloc _ _ _ this.lt)
          · rw [if_pos (by omega)] at hN1 ⊢
            have := hN1.away (a := ⟨lb, 1, none⟩) (by have := HLB.out; simp; omega) (.pointer (some ⟨wr.heap.size, 0, none⟩))
            exact this.keep (Below.heap_alloc _ _ _ this.lt))
      have hb2 : Below w.heap.size w ((wr.setCell ⟨lb, 1, none⟩ (.pointer (some ⟨wr.heap.size, 0, none⟩))).alloc (.cells #[.int .i64 (k : Int), .pointer none] 110)) := (hbl.setCell (by have := HLB.out; simp; omega) _).alloc (by simpa using hbl.size) _
      clear hl hlb
      go_wp2
      go_roundw
      case rel => exact ⟨k + 1, by omega, by go_num, by rw [HS.out, Nat.add_right_comm, Nat.add_assoc], hidden (by simp; have := HS.out; omega), hN2, hb2⟩
      case measure => simp [intOf]; omega
    · have hkn : k = n := by omega
      subst hkn
      have HF := hidden (fl_new HS.out HN.out)
      go_wp2
      go_ret
      exact ⟨rfl, HF.out, hbl⟩
set_option maxHeartbeats 1000000 in
set_option maxRecDepth 100000 in
theorem each_any {σ : Type} (N : Nat) (p : Value) (St : World → σ → Prop) (f : σ → Nat → Nat × σ) (base E B : Nat) (a : Option Addr) (cap : Nat) (L : List Nat) (w : World) (s0 : σ)
    (hz : Ints w B a (ints L)) (hB : B ≤ base) (hbE : base ≤ E) (hE : E ≤ w.heap.size) (hL6 : L.length ≤ 600) (h0 : St w s0)
    (hcf : ∀ (args : Array Value) (W : World), (callFunc N args).run Try.prog W = .ok (.enter N args) W)
    (hkeep : ∀ (W W' : World) (s : σ), St W s → (∀ i, base ≤ i → i < E → W'.heap[i]? = W.heap[i]?) → St W' s)
    (hnext : ∀ (W : World) (s : σ) (x : Nat), St W s → x ∈ L → Calls Try.prog N #[p, .int .i64 (x : Int)] W fun e W' => e = .returned (.int .i64 ((f s x).1 : Int)) ∧ St W' (f s x).2 ∧ Mid base E W W') :
    Calls Try.prog 95 #[.slice a L.length cap, .func (.func N) #[p] #[]] w fun e w' => ∃ g, e = .returned (.slice (some ⟨g, 0, none⟩) L.length L.length) ∧ w'.ownsRow w.heap.size 3 1 (.slice (some ⟨g, 0, none⟩) L.length L.length) L.length (natsL (runF f s0 L)) ∧ Below base w w' := by
  obtain ⟨j0, ji, jz0, jz1, jz2⟩ := info_parts Try.infoInt
  have HZ := hidden hz
  have HK := hidden hkeep
  have HX := hidden hnext
  have H0 := hidden h0
  obtain ⟨A, hA⟩ : ∃ A, runF f s0 L = A := ⟨_, rfl⟩
  have HA := hidden hA
  rw [hA]
  obtain ⟨n, hn⟩ : ∃ n, L.length = n := ⟨_, rfl⟩
  have HN := hidden hn
  rw [hn] at hL6 ⊢
  clear hz hA hn hkeep hnext h0
  go_enter Try.func95, Try.ntmps95
  go_wp2_with (at_make; refine wpList_make_full _ rfl _ _ 22 rfl w.heap.size 3 j0 (.int .i64 0) 1 Try.underlying22 ji jz0 jz1 .i64 .i64 _ _ n rfl rfl rfl rfl ?cb1 ?cb2 ?cb3 ?_)
  case cb1 => rw [jz2]; omega
  case cb2 => unfold maxLen; omega
  case cb3 => exact Nat.le_refl _
  intro w2 hown hgrow
  have hb2 := bel_made hgrow
  rw [made_nats] at hown
  have H2 := hidden (HK.out _ w2 s0 H0.out (fun i _ hi => hb2.block i (by omega)))
  have hbb : Below base w w2 := hb2.mono (by omega)
  clear hgrow hb2
  go_wp2
  go_loopw [6, 7, 13] (fun _ _ sk wr => ∃ (k : Nat) (s : σ) (D : List Nat) (F : Nat → Nat), k ≤ n ∧ sk = .int .i64 k ∧ Hid (A = D ++ runF f s (L.drop k)) ∧ Hid (D.length = k ∧ ∀ j, j < k → F j = D.getD j 0) ∧ Hid (St wr s) ∧ wr.ownsRow w.heap.size 3 1 (.slice (some ⟨w.heap.size, 0, none⟩) n n) n (nats n F) ∧ Below base w wr) (fun _ _ sk _ => n - (intOf sk).toNat)
  case atStart => exact ⟨0, s0, [], fun _ => 0, by omega, rfl, hidden (by rw [← HA.out]; rfl), hidden ⟨rfl, fun j hj => by omega⟩, H2, hown, hbb⟩
  case round =>
    obtain ⟨k, s, D, F, hk, rfl, HD, HF, HSt, hownF, hblF⟩ := hrel
    clear hown hbb
    have hsz := hblF.size
    by_cases hlt : k < n
    · obtain ⟨b, off, rfl, hb, hc⟩ := (HZ.out.below (hblF.mono hB)).2.2 (by rw [ints_len, HN.out]; omega)
      have ck := ints_cell (B := B) hc k (by rw [HN.out]; exact hlt)
      have HM := hidden (getD_mem7 L k (by rw [HN.out]; exact hlt))
      have HDR := hidden (drop_cons L k (by rw [HN.out]; exact hlt))
      obtain ⟨x, hx⟩ : ∃ x, L.getD k 0 = x := ⟨_, rfl⟩
      rw [hx] at ck HM HDR
      have KX := hidden (HX.out wr s x HSt.out HM.out)
      have HS2 : Hid (A = (D ++ [(f s x).1]) ++ runF f (f s x).2 (L.drop (k + 1))) := hidden (by rw [HD.out, HDR.out, runF, List.append_assoc]; rfl)
      obtain ⟨y, hy⟩ : ∃ y, (f s x).1 = y := ⟨_, rfl⟩
      obtain ⟨s2, hs2⟩ : ∃ s2, (f s x).2 = s2 := ⟨_, rfl⟩
      rw [hy, hs2] at KX HS2
      have HO := hidden hownF
      clear hx hc hy hs2 hownF
      go_wp2_with fail
      refine KX.out.mono ?_
      rintro e w3 ⟨rfl, hSt3, hm3⟩
      have hO3 := hm3.own HO.out hE
      have hb3 : Below base w w3 := hblF.trans (hm3.below (by omega))
      have HSt3 := hidden hSt3
      have d0 := hO3.cellAt k (by omega)
      rw [nats_get _ _ _ hlt] at d0
      have f0 := hO3.frozenAt k
      have hHN : Hid (w3.heap.size = w3.heap.size) := hidden rfl
      clear hSt3 hm3 hblF
      go_wp2
      go_roundw
      case rel => exact ⟨k + 1, s2, D ++ [y], fun t => if t = k then y else F t, by omega, by go_num, HS2, hidden ⟨by simp [HF.out.1], fun j hj => by
          by_cases e : j = k
          · show (if j = k then y else F j) = _
            rw [if_pos e, e]; simp [List.getD_eq_getElem?_getD, HF.out.1]
          · show (if j = k then y else F j) = _
            rw [if_neg e, HF.out.2 j (by omega)]; simp [List.getD_eq_getElem?_getD, List.getElem?_append_left (show j < D.length by rw [HF.out.1]; omega)]⟩, hidden (HK.out _ _ s2 HSt3.out (fun i _ hi => Below.heap_setCell _ _ _ i (by simp; omega))), by rw [← nats_set]; exact (hO3.stored k _).1, hb3.setCell (by simp; omega) _⟩
      case measure => simp [intOf]; omega
    · have hkn : k = n := by omega
      subst hkn
      have HE : Hid (nats k F = natsL A) := hidden (by
        rw [natsL_nats]
        have e : A = D := by rw [HD.out, ← HN.out, List.drop_length, runF, List.append_nil]
        rw [e, HF.out.1]
        exact nats_congr fun j hj => HF.out.2 j hj)
      go_wp2
      go_ret
      exact ⟨_, rfl, by rw [← HE.out]; exact hownF, hblF⟩
end Go.Proofs.Ytpdicijoohahaaa
