/- Chapter 3, the program: weights, symbols in order, packages, all rows. -/
import Derived.Test.YtpmiphnjnbkjlaaI3MN
import Derived.Test.YtpmiphnjnbkjlaaI3W
import Derived.WalkLawsBesides
import Derived.Lib.MinMax
namespace Go.Proofs.Ytpmiphnjnbkjlaa
set_option linter.unusedVariables false
set_option linter.unusedSimpArgs false
open Go.RowKit

theorem natsL_nats (L : List Nat) : natsL L = nats L.length (fun s => L.getD s 0) := by
  apply List.ext_getElem (by simp [natsL, nats])
  intro i h1 h2
  have h : i < L.length := by simpa [natsL] using h1
  simp [natsL, nats, List.getD_eq_getElem?_getD, h]
theorem wl_nats (zs : List Int) (n : Nat) : natsL (wl zs n) = nats n (fun s => wgt (zs.getD s 0)) := by simp [natsL, wl, nats]
theorem Ints.lies {w : World} {B : Nat} {a : Option Addr} {zs : List Int} (h : Ints w B a zs) (h0 : ∀ k, k < zs.length → 0 ≤ zs.getD k 0) : Lies w B a (natsL (zs.map Int.toNat)) := fun hp => by
  rw [natsL_len, List.length_map] at hp
  obtain ⟨b, off, e, hb, hc⟩ := h.2.2 hp
  refine ⟨b, off, e, hb, fun i hi => ?_⟩
  rw [natsL_len, List.length_map] at hi
  have hx := h0 i hi
  have e2 : zs.getD i 0 = zs[i] := by simp [List.getD_eq_getElem?_getD, hi]
  rw [hc i hi, natsL_get _ i (by simpa using hi), List.getElem_map, e2]
  rw [e2] at hx
  rw [Int.toNat_of_nonneg hx]
set_option maxHeartbeats 2000000 in
theorem weightsOf_any (a : Option Addr) (cap B : Nat) (zs : List Int) (w : World) (hz : Ints w B a zs) (hB : B ≤ w.heap.size) (hlen : zs.length ≤ 260) (hr : ∀ k, k < zs.length → 0 ≤ zs.getD k 0 ∧ zs.getD k 0 ≤ 1000000) :
    Calls Try.prog 42 #[.slice a zs.length cap] w fun e w' => ∃ v, e = .returned v ∧ w'.ownsRow w.heap.size 3 1 v zs.length (natsL (wl zs zs.length)) ∧ Below w.heap.size w w' := by
  have KD := hidden (dupN_any a cap B (zs.map Int.toNat) w (hz.lies fun k hk => (hr k hk).1) hB (by simp; omega))
  rw [List.length_map] at KD
  obtain ⟨n, hn⟩ : ∃ n, zs.length = n := ⟨_, rfl⟩
  have HN := hidden hn
  have HR := hidden hr
  rw [hn] at hlen KD ⊢
  have HE : Hid (natsL (zs.map Int.toNat) = nats n (fun s => (zs.getD s 0).toNat)) := hidden (by
    rw [natsL_nats, List.length_map, hn]
    refine nats_congr fun s hs => ?_
    have : s < zs.length := by omega
    simp [List.getD_eq_getElem?_getD, this])
  clear hn hz hr
  go_enter Try.func42, Try.ntmps42
  go_wp2_with fail
  refine KD.out.mono ?_
  rintro e w1 ⟨v, rfl, hown, hbl⟩
  rw [HE.out] at hown
  rcases Nat.eq_zero_or_pos n with h0 | h0
  · subst h0
    obtain ⟨a3, c3, rfl⟩ := own_shape hown
    go_wp2
    go_loopw [9] (fun si wr => si = .int .i64 0 ∧ wr = w1) (fun _ _ => 0)
    case atStart => exact ⟨rfl, rfl⟩
    case round =>
      obtain ⟨rfl, rfl⟩ := hrel
      go_wp2
      go_ret
      exact ⟨_, rfl, by rw [wl_nats]; exact hown, hbl⟩
  · obtain ⟨g, c, hv⟩ := Joins.ownsRow_form hown h0
    subst hv
    have hg := (hown.lt g rfl).1
    go_wp2
    go_loopw [9] (fun si wr => ∃ k : Nat, k ≤ n ∧ si = .int .i64 k ∧ wr.ownsRow w.heap.size 3 1 (.slice (some ⟨g, 0, none⟩) n c) n (nats n fun s => if s < k then wgt (zs.getD s 0) else (zs.getD s 0).toNat) ∧ Below w.heap.size w wr) (fun si _ => n - (intOf si).toNat)
    case atStart => exact ⟨0, Nat.zero_le _, rfl, by rw [nats_congr (g := fun s => (zs.getD s 0).toNat) fun s hs => by rw [if_neg (by omega)]]; exact hown, hbl⟩
    case round =>
      obtain ⟨k, hk, rfl, hownD, hblD⟩ := hrel
      by_cases hlt : k < n
      · have hxr := HR.out k (by rw [HN.out]; exact hlt)
        have d0 := hownD.cellAt k (by omega)
        rw [nats_get _ _ k hlt, if_neg (Nat.lt_irrefl _)] at d0
        have f0 := hownD.frozenAt k
        obtain ⟨x, hx⟩ : ∃ x, (zs.getD k 0).toNat = x := ⟨_, rfl⟩
        rw [hx] at d0
        obtain ⟨W, hW⟩ : ∃ W, wgt (zs.getD k 0) = W := ⟨_, rfl⟩
        have HST : Hid ((nats n fun s => if s < k then wgt (zs.getD s 0) else (zs.getD s 0).toNat).set k (.int .i64 (W : Int)) = nats n fun s => if s < k + 1 then wgt (zs.getD s 0) else (zs.getD s 0).toNat) := hidden (by
          rw [nats_set]
          refine nats_congr fun s hs => ?_
          by_cases e : s = k
          · subst e; rw [if_pos rfl, if_pos (by omega), hW]
          · rw [if_neg e]
            by_cases h : s < k
            · rw [if_pos h, if_pos (by omega)]
            · rw [if_neg h, if_neg (by omega)])
        have hW1 : max (x : Int) 1 = (W : Int) := by
          rw [← hW, ← hx]
          unfold wgt
          by_cases h : zs.getD k 0 = 0
          · rw [if_pos h, h]; decide
          · rw [if_neg h]; omega
        have HW1 := hidden hW1
        clear hx hW hxr hW1
        go_wp2
        go_roundw
        case rel => exact ⟨k + 1, by omega, by go_num, by
          have := (hownD.stored k (.int .i64 (W : Int))).1
          rw [HST.out] at this
          rw [HW1.out]
          simpa using this, hblD.setCell hg _⟩
        case measure => simp [intOf]; omega
      · have hkn : k = n := by omega
        subst hkn
        go_wp2
        go_ret
        exact ⟨_, rfl, by rw [wl_nats, nats_congr (f := fun s => wgt (zs.getD s 0)) (g := fun s => if s < k then wgt (zs.getD s 0) else (zs.getD s 0).toNat) fun s hs => by rw [if_pos hs]]; exact hownD, hblD⟩
theorem made_items (n : Nat) : (madeCells #[Value.int .i64 0, Value.int .i64 0] (n * 2)).toList = icells (List.replicate n ((0, 0) : Item)) := by
  have hl : (icells (List.replicate n ((0, 0) : Item))).length = n * 2 := by rw [icells_len, List.length_replicate]
  apply List.ext_getElem
  · rw [hl]; simp [madeCells]
  · intro i h1 h2
    have hall : ∀ (m : Nat), ∀ u ∈ icells (List.replicate m ((0, 0) : Item)), u = Value.int .i64 0 := by
      intro m
      induction m with
      | zero => intro u hu; simp [icells] at hu
      | succ m ih =>
        intro u hu
        simp only [List.replicate_succ, icells, List.mem_cons] at hu
        rcases hu with rfl | rfl | hu
        · rfl
        · rfl
        · exact ih u hu
    rw [hall n _ (List.getElem_mem h2)]
    have : i % 2 = 0 ∨ i % 2 = 1 := by omega
    rcases this with h | h <;> simp [madeCells, h]
theorem put_next {α : Type} (X : List α) (z x : α) (k n : Nat) (hX : X.length = k) (hk : k < n) : (X ++ List.replicate (n - k) z).set k x = X ++ [x] ++ List.replicate (n - (k + 1)) z := by
  rw [List.set_append_right _ _ (by omega), hX, Nat.sub_self, show n - k = (n - (k + 1)) + 1 by omega, List.replicate_succ, List.set_cons_zero]
  simp
theorem own_away {w : World} {base n S : Nat} {E : TypeId} {v : Value} {xs : List Value} (h : w.ownsRow base E S v n xs) {p : Addr} (hp : p.block < base) (u : Value) : (w.setCell p u).ownsRow base E S v n xs :=
  h.kept ((Only.refl p.block w).store (.inl rfl) u) (.inr (fun he => by have := (h.lt _ he).1; omega))
set_option maxHeartbeats 2000000 in
theorem symbolsOf_any (a : Option Addr) (cap B : Nat) (zs : List Int) (w : World) (hz : Ints w B a zs) (hB : B ≤ w.heap.size) (hlen : zs.length ≤ 260) (hr : ∀ k, k < zs.length → 0 ≤ zs.getD k 0 ∧ zs.getD k 0 ≤ 1000000) :
    Calls Try.prog 36 #[.slice a zs.length cap] w fun e w' => ∃ v, e = .returned v ∧ w'.ownsRow w.heap.size 65 2 v zs.length (icells (leafL zs)) ∧ Below w.heap.size w w' := by
  obtain ⟨j0, ji, jz0, jz1, jz2⟩ := info_parts Try.infoIt
  have KW := hidden (fun (W : World) (hW : Below w.heap.size w W) => weightsOf_any a cap B zs W (hz.below (hW.mono hB)) (Nat.le_trans hB hW.size) hlen hr)
  obtain ⟨n, hn⟩ : ∃ n, zs.length = n := ⟨_, rfl⟩
  have HN := hidden hn
  have HL : Hid (srt ltI (items zs n) = leafL zs) := hidden (by rw [← hn]; exact srt_items zs)
  have KS : Hid (∀ (W : World) (v : Value) (base : Nat), W.ownsRow base 65 2 v n (icells (items zs n)) → Calls Try.prog 52 #[v, .func (.func 51) #[] #[]] W fun e w' => ∃ v, e = .returned v ∧ w'.ownsRow W.heap.size 65 2 v n (icells (srt ltI (items zs n))) ∧ Below W.heap.size W w') := hidden (fun W v base h => by
    obtain ⟨a3, c3, rfl, h1, h2⟩ := own_full h
    exact sortedI_any n a3 c3 W.heap.size (items zs n) W (items_len zs n) (Lies.own h) (Nat.le_refl _) h1 h2 (by omega))
  rw [HL.out] at KS
  rw [hn] at hlen KW ⊢
  clear hn hz hr
  go_enter Try.func36, Try.ntmps36
  go_wp2_with (at_make; refine wpList_make_full _ rfl _ _ 45 rfl w.heap.size 65 j0 (.agg #[.int .i64 0, .int .i64 0]) 2 Try.underlying45 ji jz0 jz1 .i64 .i64 _ _ n rfl rfl rfl rfl ?cb1 ?cb2 ?cb3 ?_)
  case cb1 => rw [jz2]; omega
  case cb2 => unfold maxLen; omega
  case cb3 => exact Nat.le_refl _
  intro w1 hown1 hgrow
  have hbl1 : Below w.heap.size w w1 := ⟨hgrow.os, hgrow.tape, hgrow.output, hgrow.size, fun i hi => hgrow.block i hi (by simp)⟩
  have hown1' : w1.ownsRow w.heap.size 65 2 (.slice (some ⟨w.heap.size, 0, none⟩) n n) n (icells (List.replicate n ((0, 0) : Item))) := by rw [← made_items]; exact hown1
  clear hgrow hown1
  go_wp2_with fail
  refine (KW.out _ hbl1).mono ?_
  rintro e w2 ⟨v, rfl, hown, hb2⟩
  have hI := own_bel hown1' hb2
  have hI1 := hown1'
  have hbl2 : Below w.heap.size w w2 := bel_then hb2 hbl1.size hbl1
  have hsz1 := hbl1.size
  clear hown1' hb2 hbl1
  rcases Nat.eq_zero_or_pos n with h0 | h0
  · subst h0
    obtain ⟨a3, c3, rfl⟩ := own_shape hown
    go_wp2
    go_loopw [12] (fun si wr => si = .int .i64 0 ∧ wr = w2) (fun _ _ => 0)
    case atStart => exact ⟨rfl, rfl⟩
    case round =>
      obtain ⟨rfl, rfl⟩ := hrel
      go_wp2_with fail
      refine (KS.out _ _ _ (by simpa [items, icells] using hI)).mono ?_
      rintro e w3 ⟨v3, rfl, hown3, hb3⟩
      go_wp2
      go_ret
      exact ⟨_, rfl, Joins.ownsRow_le hown3 hbl2.size, bel_then hb3 hbl2.size hbl2⟩
  · obtain ⟨g, c, hv⟩ := Joins.ownsRow_form hown h0
    subst hv
    have hg := (hown.lt g rfl)
    have hl1 := (hI1.lt w.heap.size rfl).2
    go_wp2
    go_loopw [12] (fun si wr => ∃ k : Nat, k ≤ n ∧ si = .int .i64 k ∧ wr.ownsRow w.heap.size 65 2 (.slice (some ⟨w.heap.size, 0, none⟩) n n) n (icells (items zs k ++ List.replicate (n - k) ((0, 0) : Item))) ∧ wr.ownsRow w1.heap.size 3 1 (.slice (some ⟨g, 0, none⟩) n c) n (natsL (wl zs n)) ∧ Below w.heap.size w wr) (fun si _ => n - (intOf si).toNat)
    case atStart => exact ⟨0, Nat.zero_le _, rfl, hI, hown, hbl2⟩
    case round =>
      obtain ⟨k, hk, rfl, hD, hW, hb⟩ := hrel
      by_cases hlt : k < n
      · have d0 := hW.cellAt k (by omega)
        rw [wl_nats, nats_get _ _ k hlt] at d0
        obtain ⟨W, hWe⟩ : ∃ W, wgt (zs.getD k 0) = W := ⟨_, rfl⟩
        rw [hWe] at d0
        have f0 := hD.frozenAt (k * 2)
        have f1 := hD.frozenAt (k * 2 + 1)
        have c0 := hD.cellAt (k * 2) (by omega)
        have c1 := hD.cellAt (k * 2 + 1) (by omega)
        have hLl : (items zs k ++ List.replicate (n - k) ((0, 0) : Item)).length = n := by rw [List.length_append, items_len, List.length_replicate]; omega
        obtain ⟨q0, hq0⟩ : ∃ y, (items zs k ++ List.replicate (n - k) ((0, 0) : Item))[k]'(by omega) = y := ⟨_, rfl⟩
        rw [icells_fst _ k (by omega), hq0] at c0
        rw [icells_snd _ k (by omega), hq0] at c1
        have HE : Hid ((items zs k ++ List.replicate (n - k) ((0, 0) : Item)).set k (W, (k : Int)) = items zs (k + 1) ++ List.replicate (n - (k + 1)) ((0, 0) : Item)) := hidden (by rw [put_next _ _ _ _ _ (items_len zs k) hlt, items_succ, hWe])
        clear hq0 hWe hLl
        go_wp2
        go_roundw
        case rel => exact ⟨k + 1, by omega, by go_num, by rw [← HE.out]; exact own_item hD 0 k (W, (k : Int)), own_away (own_away hW (p := ⟨w.heap.size, k * 2, none⟩) hl1 _) (p := ⟨w.heap.size, k * 2 + 1, none⟩) hl1 _, (hb.setCell (Nat.le_refl _) _).setCell (Nat.le_refl _) _⟩
        case measure => simp [intOf]; omega
      · have hkn : k = n := by omega
        subst hkn
        have hD2 : wr.ownsRow w.heap.size 65 2 (.slice (some ⟨w.heap.size, 0, none⟩) k k) k (icells (items zs k)) := by simpa using hD
        have hszr := hb.size
        go_wp2_with fail
        refine (KS.out _ _ _ hD2).mono ?_
        rintro e w3 ⟨v3, rfl, hown3, hb3⟩
        go_wp2
        go_ret
        exact ⟨_, rfl, Joins.ownsRow_le hown3 hszr, bel_then hb3 hszr hb⟩
end Go.Proofs.Ytpmiphnjnbkjlaa
