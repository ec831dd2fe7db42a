/- Chapter 3: the lengths (the model). -/
import Derived.Test.YtpmiphnjnbkjlaaC3Next
namespace Go.Proofs.Ytpmiphnjnbkjlaa
set_option linter.unusedVariables false
set_option linter.unusedSimpArgs false
open Go.RowKit

/-! ### what the descent counts, by symbols -/
/-- The place of a symbol among the leaves. -/
def pos (L : List Item) (s : Nat) : Nat := (L.map Prod.snd).idxOf (s : Int)
theorem leaf_syms {zs : List Int} {n : Nat} {L : List Item} (hp : L.Perm (items zs n)) : (L.map Prod.snd).Perm ((List.range n).map fun (i : Nat) => (i : Int)) := by
  have := hp.map Prod.snd
  simpa [items, Function.comp_def] using this
theorem leaf_nodup {zs : List Int} {n : Nat} {L : List Item} (hp : L.Perm (items zs n)) : (L.map Prod.snd).Nodup := by
  refine (leaf_syms hp).symm.nodup ?_
  rw [List.Nodup, List.pairwise_map]
  exact List.nodup_range.imp fun {a b} h e => h (by omega)
theorem pos_lt {zs : List Int} {n : Nat} {L : List Item} (hp : L.Perm (items zs n)) (s : Nat) (hs : s < n) : pos L s < L.length := by
  have hm : (s : Int) ∈ L.map Prod.snd := (leaf_syms hp).mem_iff.2 (List.mem_map.2 ⟨s, List.mem_range.2 hs, rfl⟩)
  have := List.idxOf_lt_length_of_mem hm
  simpa [pos] using this
theorem pos_get {zs : List Int} {n : Nat} {L : List Item} (hp : L.Perm (items zs n)) (s : Nat) (hs : s < n) : (L[pos L s]'(pos_lt hp s hs)).2 = s := by
  have hm : (s : Int) ∈ L.map Prod.snd := (leaf_syms hp).mem_iff.2 (List.mem_map.2 ⟨s, List.mem_range.2 hs, rfl⟩)
  have h := List.getElem_idxOf (List.idxOf_lt_length_of_mem hm)
  rw [List.getElem_map] at h
  exact h
theorem pos_of {zs : List Int} {n : Nat} {L : List Item} (hp : L.Perm (items zs n)) (j : Nat) (hj : j < L.length) (s : Nat) (hs : (L[j]).2 = s) : pos L s = j := by
  unfold pos
  have h : (L.map Prod.snd)[j]'(by simpa using hj) = (s : Int) := by simpa using hs
  rw [← h]
  exact List.Nodup.idxOf_getElem (leaf_nodup hp) j (by simpa using hj)
theorem leaf_isLeaf {zs : List Int} {n : Nat} {L : List Item} (hp : L.Perm (items zs n)) : ∀ x ∈ L, isLeaf x = true := by
  intro x hx
  have := items_sym zs n x (hp.mem_iff.1 hx)
  simp [isLeaf, this.1]
theorem cntL_succ (r : List Item) (i : Nat) (hi : i < r.length) : cntL r (i + 1) = cntL r i + if isLeaf r[i] = true then 1 else 0 := by
  unfold cntL
  rw [List.take_succ_eq_append_getElem hi, List.countP_append]
  simp [List.countP_cons]
/-- The leaf at place i of a row is the next one. -/
theorem row_leaf (L : List Item) (hL : ∀ x ∈ L, isLeaf x = true) (k i : Nat) (hi : i < (rowM L k).length) (h : isLeaf (rowM L k)[i] = true) :
    ∃ hc : cntL (rowM L k) i < L.length, (rowM L k)[i] = L[cntL (rowM L k) i] := by
  have h1 := rowM_filter L hL k (i + 1) hi
  have h0 := rowM_filter L hL k i (by omega)
  have hc := cntL_succ (rowM L k) i hi
  rw [if_pos h] at hc
  have hlt : cntL (rowM L k) i < L.length := by omega
  refine ⟨hlt, ?_⟩
  have e := h1.2
  rw [List.take_succ_eq_append_getElem hi, List.filter_append, h0.2, hc, List.take_succ_eq_append_getElem hlt] at e
  have e2 := List.append_cancel_left e
  simpa [h] using e2
theorem row_items (L : List Item) (k : Nat) : ∀ x ∈ rowM L k, x.2 = -1 ∨ x ∈ L := by
  have key : ∀ (L : List Item) (P : List Nat), ∀ x ∈ mergeM L P, x.2 = -1 ∨ x ∈ L := by
    intro L P
    induction L, P using mergeM.induct with
    | case1 L => intro x hx; rw [mergeM] at hx; exact .inr hx
    | case2 p P ih => intro x hx; rw [mergeM] at hx; rcases List.mem_cons.1 hx with rfl | hx
                      · exact .inl rfl
                      · exact ih x hx
    | case3 y L p P h ih => intro x hx; rw [mergeM, if_pos h] at hx; rcases List.mem_cons.1 hx with rfl | hx
                            · exact .inr (by simp)
                            · rcases ih x hx with h | h
                              · exact .inl h
                              · exact .inr (by simp [h])
    | case4 y L p P h ih => intro x hx; rw [mergeM, if_neg h] at hx; rcases List.mem_cons.1 hx with rfl | hx
                            · exact .inl rfl
                            · exact ih x hx
  cases k with
  | zero => intro x hx; exact .inr hx
  | succ k => exact key L _
/-- No row's weights grow beyond their bound. -/
theorem row_bound (L : List Item) (hL : ∀ x ∈ L, x.1 ≤ 1000000) (k : Nat) : ∀ x ∈ rowM L k, x.1 ≤ 1000000 * 2 ^ k := by
  have hpk : ∀ (R : List Item) (c : Nat), (∀ x ∈ R, x.1 ≤ c) → ∀ p ∈ packs R, p ≤ 2 * c := by
    intro R
    induction R using packs.induct with
    | case1 a b r ih =>
      intro c hc p hp
      simp only [packs, List.mem_cons] at hp
      rcases hp with rfl | hp
      · have h1 := hc a (by simp); have h2 := hc b (by simp); omega
      · exact ih c (fun x hx => hc x (by simp [hx])) p hp
    | case2 r h => intro c _ p hp; cases r with
      | nil => simp [packs] at hp
      | cons a r => cases r with
        | nil => simp [packs] at hp
        | cons b r => exact absurd rfl (h a b r)
  induction k with
  | zero => intro x hx; have := hL x hx; simpa using this
  | succ k ih =>
    intro x hx
    have := mergeM_mem L (packs (rowM L k)) x.1 (List.mem_map_of_mem hx)
    rw [Nat.pow_succ]
    have h1 : 1 ≤ 2 ^ k := Nat.one_le_two_pow
    rcases this with h | h
    · simp only [wts, List.mem_map] at h
      obtain ⟨y, hy, he⟩ := h
      have := hL y hy
      rw [← he]
      have : 1000000 * 1 ≤ 1000000 * (2 ^ k * 2) := Nat.mul_le_mul_left _ (by omega)
      omega
    · have := hpk _ _ ih x.1 h
      omega

def nats (n : Nat) (f : Nat → Nat) : List Value := (List.range n).map fun s => Value.int .i64 (f s : Int)
theorem nats_len (n : Nat) (f : Nat → Nat) : (nats n f).length = n := by simp [nats]
theorem nats_get (n : Nat) (f : Nat → Nat) (s : Nat) (h : s < n) : (nats n f)[s]? = some (.int .i64 (f s : Int)) := by simp [nats, h]
theorem nats_set (n : Nat) (f : Nat → Nat) (s : Nat) (x : Nat) : (nats n f).set s (.int .i64 (x : Int)) = nats n (fun t => if t = s then x else f t) := by
  apply List.ext_getElem (by simp [nats])
  intro i h1 h2
  by_cases e : s = i
  · subst e; simp [nats]
  · have : ¬ i = s := fun h => e h.symm
    simp [nats, List.getElem_set, e, this]
theorem nats_congr {n : Nat} {f g : Nat → Nat} (h : ∀ s, s < n → f s = g s) : nats n f = nats n g := by
  unfold nats
  exact List.map_congr_left fun s hs => by rw [h s (List.mem_range.1 hs)]
theorem Try.infoInt : (Try.prog.info? 3).map (fun i => (i.zero, i.size, i.bytes)) = some (some (.int .i64 0), 1, 8) := by kernel_rfl
theorem Try.infoRow : (Try.prog.info? 47).map (fun i => (i.zero, i.size, i.bytes)) = some (some (.slice none 0 0), 1, 24) := by kernel_rfl
theorem own_types {w : World} {b1 b2 s1 s2 n1 n2 g : Nat} {e1 e2 : TypeId} {v1 v2 : Value} {xs ys : List Value} (h : w.ownsRow b1 e1 s1 v1 n1 xs) (h' : w.ownsRow b2 e2 s2 v2 n2 ys) (hne : e1 ≠ e2) (hg : v1.ownBlock = some g) : v2.ownBlock ≠ some g := by
  intro he
  rcases h.2 with ⟨rfl, _⟩ | ⟨ga, _, ca, rfl, _, ha, _⟩
  · cases hg
  · rcases h'.2 with ⟨rfl, _⟩ | ⟨gb, _, cb, rfl, _, hb, _⟩
    · cases he
    · simp only [Value.ownBlock, Option.some.injEq] at hg he
      subst hg he
      rw [ha] at hb
      injection hb with hb
      injection hb with _ h2
      exact hne h2
theorem made_nats (n : Nat) : (madeCells #[Value.int .i64 0] n).toList = nats n (fun _ => 0) := by
  rw [toList_madeCells_one]
  apply List.ext_getElem (by simp [nats])
  intro i h1 h2
  simp [nats]
/-- One row of the descent. -/
theorem lenJ_row (L : List Item) (p m j : Nat) : lenJ L p m j = (if j < cntL (rowM L p) m then 1 else 0) + (if p = 0 then 0 else lenJ L (p - 1) (2 * (m - cntL (rowM L p) m)) j) := by
  cases p with
  | zero => rfl
  | succ p => rfl
theorem cell_one (w : World) (u : Value) (T : TypeId) : ∀ (j : Nat) (v : Value), [u][j]? = some v → (w.alloc (.cells #[u] T)).cell? ((⟨w.heap.size, 0, none⟩ : Addr).add j) = some v := by
  intro j v hv
  have hj : j = 0 := by
    have := (List.getElem?_eq_some_iff.1 hv).1
    simpa using this
  subst hj
  have := (Has.fresh w T #[u]).cell 0
  have e : (⟨w.heap.size, 0, none⟩ : Addr).add 0 = ⟨w.heap.size, 0, none⟩ := by simp [Addr.add]
  rw [e, this]
  simpa using hv
set_option maxHeartbeats 4000000 in
theorem specLens_yes (a : Option Addr) (cap B lim : Nat) (zs : List Int) (w : World) (hz : Ints w B a zs) (hB : B ≤ w.heap.size) (hf : fOk zs = true) (h1 : 1 ≤ lim) (h2 : lim ≤ 20) (hn2 : 2 ≤ zs.length) (hpow : zs.length ≤ 2 ^ lim) :
    Calls Try.prog 14 #[.slice a zs.length cap, .int .i64 lim] w fun e w' => ∃ v L, e = .returned (.tuple #[v, .bool true]) ∧ L.Perm (items zs zs.length) ∧ LexS L ∧
      w'.ownsRow w.heap.size 3 1 v zs.length (nats zs.length fun s => lenJ L (lim - 1) (2 * zs.length - 2) (pos L s)) ∧ Below w.heap.size w w' := by
  obtain ⟨i0, hi, hz0, hz1, hz2⟩ := info_parts Try.infoRow
  obtain ⟨j0, ji, jz0, jz1, jz2⟩ := info_parts Try.infoInt
  have hfr := (fOk_iff zs).1 hf
  obtain ⟨n, hn⟩ : ∃ n, zs.length = n := ⟨_, rfl⟩
  have K1 := hidden (specFreqsOk_any a cap B zs w hz)
  have K2 := hidden (l3leaves_any a cap B zs w hz hB hfr.2.1 hfr.2.2)
  rw [hf] at K1
  have HR := hidden hfr.2.2
  have hn260 : n ≤ 260 := by rw [← hn]; exact hfr.2.1
  have hM : 2 ^ lim ≤ 2 ^ 20 := Nat.pow_le_pow_right (by omega) h2
  obtain ⟨M, hMe⟩ : ∃ M, 2 ^ lim = M := ⟨_, rfl⟩
  have hMI : wrap64 (2 ^ lim) = (M : Int) := by rw [show ((2 : Int) ^ lim) = ((2 ^ lim : Nat) : Int) by simp, hMe]; exact wrap64_n _ (by omega)
  rw [hMe] at hpow hM
  have HPOW := hidden hMe
  rw [hn] at hn2 hpow K1 K2 ⊢
  have HN := hidden hn
  clear hf hfr hn hz hMe
  have g1 : ¬ (M : Int) < (n : Int) := by omega
  have g2 : ((n : Int) == 1) = false := by rw [beq_eq_false_iff_ne]; omega
  go_enter Try.func14, Try.ntmps14
  go_wp2_with fail
  refine K1.out.mono ?_
  rintro e w' ⟨rfl, rfl⟩
  go_wp2_with fail
  refine K2.out.mono ?_
  rintro e w1 ⟨vL, L, rfl, hP, hS, hown, hb1⟩
  obtain ⟨gL, cL, hvL⟩ := Joins.ownsRow_form hown (by omega)
  subst hvL
  have hLl : L.length = n := by rw [hP.length_eq, items_len]
  have hLeaf := leaf_isLeaf hP
  have hLb : ∀ x ∈ L, x.1 ≤ 1000000 := by
    intro x hx
    have := hP.mem_iff.1 hx
    simp only [items, List.mem_map, List.mem_range] at this
    obtain ⟨i, hi2, rfl⟩ := this
    have hr := HR.out i (by rw [HN.out]; exact hi2)
    rcases wgt_le (zs.getD i 0) hr.2 with h | h
    · exact h.2
    · omega
  have hbd : ∀ k, k ≤ 19 → ∀ x ∈ rowM L k, x.1 ≤ 1099511627776 := by
    intro k hk x hx
    have := row_bound L hLb k x hx
    have h19 : 2 ^ k ≤ 2 ^ 19 := Nat.pow_le_pow_right (by omega) hk
    have : 1000000 * 2 ^ k ≤ 1000000 * 2 ^ 19 := Nat.mul_le_mul_left _ h19
    omega
  have HP := hidden hP
  have HS := hidden hS
  have HLl := hidden hLl
  have HLeaf := hidden hLeaf
  have HBD := hidden hbd
  have HRow : Hid (∀ k, n ≤ (rowM L k).length ∧ (rowM L k).length ≤ 2 * n) := hidden fun k => by
    have := row_most L k
    rw [hLl] at this
    refine ⟨?_, this⟩
    cases k with
    | zero => show n ≤ L.length; omega
    | succ k => rw [rowM_len, hLl]; omega
  have hb1s := hb1.size
  have HL1 := hidden hown
  clear hP hS hLl hLeaf hLb hbd
  go_wp2
  go_loopw [7, 8] (fun vr sk wr => ∃ (k : Nat) (Vs : List Value), 1 ≤ k ∧ k ≤ lim ∧ sk = .int .i64 k ∧ Hid (Vs.length = k) ∧ wr.ownsRow w1.heap.size 47 1 vr k Vs ∧ Hid (∀ i, (h : i < Vs.length) → wr.ownsRow w'.heap.size 52 2 Vs[i] (rowM L i).length (icells (rowM L i))) ∧ Hid (∀ u ∈ Vs, u.oneCell' = true) ∧ Below w1.heap.size w1 wr) (fun _ sk _ => lim - (intOf sk).toNat)
  case atStart => exact ⟨1, [.slice (some ⟨gL, 0, none⟩) n cL], by omega, h1, rfl, hidden rfl, World.ownsRow_lit _ _ _ (Nat.le_refl _) (by decide) rfl, hidden (fun i hi => by
      have : i = 0 := by simpa using hi
      subst this
      show World.ownsRow _ _ _ _ _ L.length _
      rw [HLl.out]
      exact hown.alloc _), hidden (by simp [Value.oneCell']), (Below.refl _ _).alloc (Nat.le_refl _) _⟩
  case round =>
    obtain ⟨k, Vs, hk1, hk2, rfl, HV, hrows, HVs, HV1, hbl⟩ := hrel
    have hsz := hbl.size
    obtain ⟨gr, cr, hvr⟩ := Joins.ownsRow_form hrows (by omega)
    subst hvr
    by_cases hlt : k < lim
    · obtain ⟨q, rfl⟩ : ∃ q, k = q + 1 := ⟨k - 1, by omega⟩
      have hq : q < Vs.length := by rw [HV.out]; omega
      obtain ⟨V, hVe⟩ : ∃ V, Vs[q] = V := ⟨_, rfl⟩
      have hV := HVs.out q hq
      rw [hVe] at hV
      obtain ⟨r, hr⟩ : ∃ r, (rowM L q).length = r := ⟨_, rfl⟩
      have hrr := HRow.out q
      rw [hr] at hrr hV
      obtain ⟨gv, cv, hv⟩ := Joins.ownsRow_form hV (by omega)
      subst hv
      have crow := hrows.cellAt q (by omega)
      rw [List.getElem?_eq_getElem hq, hVe] at crow
      have hLw := own_bel HL1.out hbl
      have K3 := hidden (l3next_any _ _ _ n r L (rowM L q) wr HLl.out hr hLw hV (by omega) (by omega) hn260 (by omega) (HBD.out q (by omega)) (HBD.out 0 (by omega)))
      have hlen3 : (rowM L (q + 1)).length = n + r / 2 := by rw [rowM_len, HLl.out, hr]
      have HLEN := hidden hlen3
      clear hV hLw hr hVe hlen3
      go_wp2_with fail
      refine K3.out.mono ?_
      rintro e w3 ⟨v3, rfl, hown3, hb3⟩
      obtain ⟨g3, c3, hv3⟩ := Joins.ownsRow_form hown3 (by omega)
      subst hv3
      have hrows3 := own_bel hrows hb3
      have hsz3 := hb3.size
      clear crow
      go_wp2_with (at_builtin; refine wpList_append_own_at _ rfl _ _ 49 rfl w1.heap.size 47 i0 (.slice none 0 0) 1 24 Try.underlying49 hi hz0 hz1 hz2 rfl (by decide) _ _ _ rfl (hrows3.alloc _) ⟨w3.heap.size, 0, none⟩ 1 1 [.slice (some ⟨g3, 0, none⟩) (n + r / 2) c3] rfl rfl ?ca2 ?ca3 ?ca4 ?ca5 ?ca6 ?_)
      case ca2 => exact cell_one _ _ _
      case ca3 => exact fun u hu => by simp at hu; subst hu; rfl
      case ca4 => unfold maxLen; omega
      case ca5 => omega
      case ca6 => simp; omega
      intro v4 w4 hown4 hgrow _ _
      have hbl4 : Below w1.heap.size w1 w4 := ((hbl.trans (hb3.mono hsz)).alloc (by omega) _).grown hgrow (by simp; omega) (fun b hb => (hrows.lt b hb).1)
      have HVn : Hid (∀ i, (h : i < (Vs ++ [Value.slice (some ⟨g3, 0, none⟩) (n + r / 2) c3]).length) → w4.ownsRow w'.heap.size 52 2 ((Vs ++ [Value.slice (some ⟨g3, 0, none⟩) (n + r / 2) c3])[i]'h) (rowM L i).length (icells (rowM L i))) := hidden (by
        intro i h
        rcases Nat.lt_or_ge i Vs.length with hi | hi
        · rw [List.getElem_append_left hi]
          have o1 := (own_bel (HVs.out i hi) hb3)
          exact (o1.alloc _).kept hgrow (.inr (own_types hrows3 o1 (by decide) rfl))
        · have e : i = Vs.length := by simp at h; omega
          subst e
          rw [List.getElem_append_right (Nat.le_refl _)]
          simp only [Nat.sub_self, List.getElem_cons_zero]
          rw [HV.out, HLEN.out]
          have o1 := Joins.ownsRow_le hown3 (show w'.heap.size ≤ wr.heap.size by omega)
          exact (o1.alloc _).kept hgrow (.inr (own_types hrows3 o1 (by decide) rfl)))
      have HV1n : Hid (∀ u ∈ Vs ++ [Value.slice (some ⟨g3, 0, none⟩) (n + r / 2) c3], u.oneCell' = true) := hidden (by
        intro u hu
        rcases List.mem_append.1 hu with h | h
        · exact HV1.out u h
        · simp at h; subst h; rfl)
      clear hgrow hrows3 hown3 hb3 hbl hrows
      go_wp2
      go_roundw
      case rel => exact ⟨q + 1 + 1, Vs ++ [.slice (some ⟨g3, 0, none⟩) (n + r / 2) c3], by omega, by omega, by go_num, hidden (by simp [HV.out]), hown4, HVn, HV1n, hbl4⟩
      case measure => simp [intOf]; omega
    · have hkl : k = lim := by omega
      subst hkl
      have hsz1 : w'.heap.size ≤ w1.heap.size := hb1s
      go_wp2_with (at_make; refine wpList_make_full _ rfl _ _ 23 rfl w'.heap.size 3 j0 (.int .i64 0) 1 Try.underlying23 ji jz0 jz1 .i64 .i64 _ _ n rfl rfl rfl rfl ?cb1 ?cb2 ?cb3 ?_)
      case cb1 => rw [jz2]; omega
      case cb2 => unfold maxLen; omega
      case cb3 => omega
      intro w5 hown5 hgrow5
      have hb5 : Below wr.heap.size wr w5 := ⟨hgrow5.os, hgrow5.tape, hgrow5.output, hgrow5.size, fun i hi => hgrow5.block i hi (by simp)⟩
      rw [made_nats] at hown5
      have hbl5 : Below w'.heap.size w' w5 := (hb1.trans (hbl.mono hsz1)).trans (hb5.mono (by omega))
      clear hgrow5
      obtain ⟨go, hgo⟩ : ∃ go, wr.heap.size = go := ⟨_, rfl⟩
      have HM2 : Hid ((2 : Int) * (n : Int) - 2 = ((2 * n - 2 : Nat) : Int)) := hidden (by omega)
      have hbw : Below wr.heap.size wr w5 := hb5
      have HROWS := hidden hrows
      have HBW := hidden (hb1.trans (hbl.mono hsz1))
      have HPOS := hidden (fun s hs => pos_lt HP.out s hs)
      clear hb5 hb1 hown hrows g1 g2 hbl hbl5
      rw [hgo] at hown5 ⊢
      obtain ⟨W0, hW0⟩ : ∃ W0, W0 = wr := ⟨_, rfl⟩
      rw [← hW0] at hbw HROWS HVs hgo HBW
      clear hW0
      have HGO := hidden hgo
      clear hgo hsz hsz1
      go_wp2
      go_loopw [10, 11] (fun sm sk wx => ∃ (q m : Nat) (O : Nat → Nat), q ≤ k ∧ sk = .int .i64 ((q : Int) - 1) ∧ sm = .int .i64 m ∧ m ≤ 2 * n ∧
        Hid (∀ s, s < n → O s + (if q = 0 then 0 else lenJ L (q - 1) m (pos L s)) = lenJ L (k - 1) (2 * n - 2) (pos L s)) ∧ Hid (0 < q → m ≤ (rowM L (q - 1)).length) ∧ Hid (∀ s, s < n → O s ≤ 40) ∧
        wx.ownsRow w'.heap.size 3 1 (.slice (some ⟨go, 0, none⟩) n n) n (nats n O) ∧ Below W0.heap.size W0 wx) (fun _ sk _ => (intOf sk + 1).toNat)
      case atStart => exact ⟨k, 2 * n - 2, fun _ => 0, Nat.le_refl _, rfl, by rw [HM2.out], by omega, hidden (fun s hs => by show 0 + (if k = 0 then 0 else _) = _; rw [if_neg (by omega), Nat.zero_add]), hidden (fun _ => by have := row_big L (k - 1) (by rw [HLl.out, show k - 1 + 1 = k by omega, HPOW.out]; exact hpow); rw [HLl.out] at this; exact this), hidden (fun _ _ => Nat.zero_le _), hown5, hbw⟩
      case round =>
        obtain ⟨q, m, O, hq, rfl, rfl, hm, HO, Hm, HO40, hownO, hblx⟩ := hrel
        clear hMI hM hpow hown5 hbw hb1s
        by_cases hq0 : q = 0
        · subst hq0
          have HO2 := HO
          go_wp2
          refine bodyPost_ret (v := .tuple #[.slice (some ⟨go, 0, none⟩) n n, .bool true]) (by simp [results, Try.results14, go_sem]) rfl ⟨_, rfl, L, HP.out, HS.out, ?_, ?_⟩
          · rw [← nats_congr (f := O) fun s hs => by have := HO.out s hs; simpa using this]; exact hownO
          · exact HBW.out.trans (hblx.mono HBW.out.size)
        · obtain ⟨p, rfl⟩ : ∃ p, q = p + 1 := ⟨q - 1, by omega⟩
          have hpk : p < k := by omega
          have hmr : m ≤ (rowM L p).length := Hm.out (by omega)
          have hVp : p < Vs.length := by rw [HV.out]; omega
          obtain ⟨V, hVe⟩ : ∃ V, Vs[p] = V := ⟨_, rfl⟩
          have hV := HVs.out p hVp
          rw [hVe] at hV
          obtain ⟨r, hr⟩ : ∃ r, (rowM L p).length = r := ⟨_, rfl⟩
          have hrr := HRow.out p
          rw [hr] at hrr hV hmr
          obtain ⟨gv, cv, hv⟩ := Joins.ownsRow_form hV (by omega)
          subst hv
          have HVV := hidden hV
          have HVE := hidden hVe
          have HRR := hidden hr
          clear hV hVe hr hq0
          go_wp2
          go_loopw [12, 13] (fun sp si wy => ∃ (i c : Nat), i ≤ m ∧ c ≤ i ∧ Hid (c = cntL (rowM L p) i) ∧ si = .int .i64 i ∧ sp = .int .i64 ((i - c : Nat) : Int) ∧
            wy.ownsRow w'.heap.size 3 1 (.slice (some ⟨go, 0, none⟩) n n) n (nats n fun s => O s + if pos L s < c then 1 else 0) ∧ Below W0.heap.size W0 wy) (fun _ si _ => m - (intOf si).toNat)
          case atStart => exact ⟨0, 0, Nat.zero_le _, Nat.le_refl _, hidden rfl, rfl, rfl, by rw [nats_congr (g := O) fun s hs => by rw [if_neg (by omega)]; rfl]; exact hownO, hblx⟩
          case round =>
            obtain ⟨i, c, hi3, hc3, HC, rfl, rfl, hownY, hblY⟩ := hrel
            have hrowsY := own_bel HROWS.out hblY
            have hVY := own_bel HVV.out hblY
            have crow := hrowsY.cellAt p (by omega)
            rw [List.getElem?_eq_getElem hVp, HVE.out] at crow
            by_cases him : i < m
            · have hir : i < (rowM L p).length := by rw [HRR.out]; omega
              obtain ⟨x, hx⟩ : ∃ x, (rowM L p)[i]'hir = x := ⟨_, rfl⟩
              have c1 := hVY.cellAt (i * 2 + 1) (by omega)
              rw [icells_snd (rowM L p) i hir, hx] at c1
              have hcs := cntL_succ (rowM L p) i hir
              rw [hx, ← HC.out] at hcs
              by_cases hlf : isLeaf x = true
              · obtain ⟨hcl, hxe⟩ := row_leaf L HLeaf.out p i hir (by rw [hx]; exact hlf)
                have hxL : x ∈ L := by rw [← hx, hxe]; exact List.getElem_mem _
                have hxs := items_sym zs n x (HP.out.mem_iff.1 hxL)
                obtain ⟨t, ht⟩ : ∃ t : Nat, x.2 = t := ⟨x.2.toNat, by omega⟩
                have htn : t < n := by omega
                have hpos : pos L t = c := by rw [pos_of HP.out _ hcl t (by rw [← hxe, hx]; exact ht), HC.out]
                rw [if_pos hlf] at hcs
                rw [ht] at c1
                have d0 := hownY.cellAt t (by omega)
                rw [nats_get _ _ _ htn] at d0
                obtain ⟨y, hy⟩ : ∃ y, O t + (if pos L t < c then 1 else 0) = y := ⟨_, rfl⟩
                have hy2 : y = O t := by rw [← hy, hpos, if_neg (Nat.lt_irrefl _)]; rfl
                have hy40 : y ≤ 40 := by rw [hy2]; exact HO40.out t htn
                rw [hy] at d0
                have f0 := hownY.frozenAt t
                have HCS := hidden hcs
                have HST : Hid ((nats n fun s => O s + if pos L s < c then 1 else 0).set t (.int .i64 ((y + 1 : Nat) : Int)) = nats n fun s => O s + if pos L s < c + 1 then 1 else 0) := hidden (by
                  rw [nats_set]
                  refine nats_congr fun s hs => ?_
                  by_cases e : s = t
                  · subst e; rw [if_pos rfl, if_pos (by omega), hy2]
                  · rw [if_neg e]
                    have hne : pos L s ≠ c := by
                      intro hc
                      have h1 := pos_get HP.out s hs
                      have h2 := pos_get HP.out t htn
                      simp only [hc] at h1
                      simp only [hpos] at h2
                      rw [h1] at h2
                      exact e (by exact_mod_cast h2)
                    congr 1
                    by_cases h : pos L s < c
                    · rw [if_pos h, if_pos (by omega)]
                    · rw [if_neg h, if_neg (by omega)])
                clear hx hxe hxL hxs ht hpos hcs hy hy2 hlf hcl hir
                go_wp2
                go_roundw
                case rel => exact ⟨i + 1, c + 1, by omega, by omega, hidden (by rw [HCS.out]), by go_num, by rw [Nat.add_sub_add_right], by
                  have := (hownY.stored t (.int .i64 ((y + 1 : Nat) : Int))).1
                  rw [HST.out] at this
                  simpa using this, hblY.setCell (by show W0.heap.size ≤ go; rw [HGO.out]; exact Nat.le_refl _) _⟩
                case measure => simp [intOf]; omega
              · have hx2 : x.2 = -1 := by
                  rcases row_items L p x (by rw [← hx]; exact List.getElem_mem _) with h | h
                  · exact h
                  · exact absurd (HLeaf.out x h) hlf
                rw [if_neg hlf] at hcs
                rw [hx2] at c1
                have HCS := hidden hcs
                clear hx hx2 hcs hlf hir
                go_wp2
                go_roundw
                case rel => exact ⟨i + 1, c, by omega, by omega, hidden HCS.out.symm, by go_num, by rw [show ((i + 1 - c : Nat) : Int) = ((i - c : Nat) : Int) + 1 by omega], hownY, hblY⟩
                case measure => simp [intOf]; omega
            · have hime : i = m := by omega
              subst hime
              have HN2 : Hid (∀ s, s < n → (O s + if pos L s < c then 1 else 0) + (if p = 0 then 0 else lenJ L (p - 1) (2 * (i - c)) (pos L s)) = lenJ L (k - 1) (2 * n - 2) (pos L s)) := hidden (by
                intro s hs
                have := HO.out s hs
                rw [if_neg (by omega), Nat.add_sub_cancel, lenJ_row, ← HC.out] at this
                omega)
              have HM2' : Hid (0 < p → 2 * (i - c) ≤ (rowM L (p - 1)).length) := hidden (by
                intro hp
                obtain ⟨p', rfl⟩ : ∃ p', p = p' + 1 := ⟨p - 1, by omega⟩
                rw [HC.out]
                exact pm_room L HLeaf.out p' i (by rw [HRR.out]; exact hmr))
              have H40 : Hid (∀ s, s < n → (O s + if pos L s < c then 1 else 0) ≤ 40) := hidden (by
                intro s hs
                have := HN2.out s hs
                have h2 := lenJ_le L (k - 1) (2 * n - 2) (pos L s)
                omega)
              have H2n : Hid (2 * (i - c) ≤ 2 * n) := hidden (by
                rcases Nat.eq_zero_or_pos p with h0 | h0
                · subst h0
                  have : cntL (rowM L 0) i = i := cntL_all L HLeaf.out i (by have h9 := HRR.out; rw [show (rowM L 0).length = L.length from rfl] at h9; omega)
                  rw [HC.out, this]; omega
                · have h8 := HM2'.out h0
                  have h9 := (HRow.out (p - 1)).2
                  omega)
              go_wp2
              refine ⟨⟨p, 2 * (i - c), _, by omega, rfl, ?_, H2n.out, HN2, HM2', H40, hownY, hblY⟩, ?_⟩
              · rw [Int.natCast_mul]; rfl
              · show ((p : Int) - 1 + 1).toNat < (((p + 1 : Nat) : Int) - 1 + 1).toNat
                omega

theorem specLens_one (a : Option Addr) (cap B lim : Nat) (zs : List Int) (w : World) (hz : Ints w B a zs) (hB : B ≤ w.heap.size) (hf : fOk zs = true) (h1 : 1 ≤ lim) (h2 : lim ≤ 20) (hn1 : zs.length = 1) :
    Calls Try.prog 14 #[.slice a zs.length cap, .int .i64 lim] w fun e w' => e = .returned (.tuple #[.slice (some ⟨w.heap.size, 0, none⟩) 1 1, .bool true]) ∧ w' = w.alloc (.cells #[.int .i64 1] 3) := by
  have K1 := hidden (specFreqsOk_any a cap B zs w hz)
  rw [hf] at K1
  have hM : 2 ^ lim ≤ 2 ^ 20 := Nat.pow_le_pow_right (by omega) h2
  have hM0 : 2 ^ 1 ≤ 2 ^ lim := Nat.pow_le_pow_right (by omega) h1
  obtain ⟨M, hMe⟩ : ∃ M, 2 ^ lim = M := ⟨_, rfl⟩
  have hMI : wrap64 (2 ^ lim) = (M : Int) := by rw [show ((2 : Int) ^ lim) = ((2 ^ lim : Nat) : Int) by simp, hMe]; exact wrap64_n _ (by omega)
  rw [hMe] at hM hM0
  rw [hn1] at K1 ⊢
  clear hz hf hMe hn1
  go_enter Try.func14, Try.ntmps14
  go_wp2_with fail
  refine K1.out.mono ?_
  rintro e w' ⟨rfl, rfl⟩
  go_wp2
  refine bodyPost_ret (v := .tuple #[.slice (some ⟨w'.heap.size, 0, none⟩) 1 1, .bool true]) (by simp [results, Try.results14, go_sem]) rfl ⟨rfl, rfl⟩
theorem specLens_no (a : Option Addr) (cap B : Nat) (lim : Int) (zs : List Int) (w : World) (hz : Ints w B a zs) (b1 : -9223372036854775808 ≤ lim) (b2 : lim ≤ 9223372036854775807)
    (h : ¬ (fOk zs = true ∧ 1 ≤ lim ∧ lim ≤ 20 ∧ zs.length ≤ 2 ^ lim.toNat)) :
    Calls Try.prog 14 #[.slice a zs.length cap, .int .i64 lim] w fun e w' => e = .returned (.tuple #[.slice none 0 0, .bool false]) ∧ w' = w := by
  have K1 := hidden (specFreqsOk_any a cap B zs w hz)
  obtain ⟨f, hf⟩ : ∃ f, fOk zs = f := ⟨_, rfl⟩
  rw [hf] at K1 h
  obtain ⟨n, hn⟩ : ∃ n, zs.length = n := ⟨_, rfl⟩
  have hl := hz.1
  rw [hn] at K1 h hl ⊢
  clear hz hf hn
  cases f
  · go_enter Try.func14, Try.ntmps14
    go_wp2_with fail
    refine K1.out.mono ?_
    rintro e w' ⟨rfl, rfl⟩
    go_wp2
    refine bodyPost_ret (v := .tuple #[.slice none 0 0, .bool false]) (by simp [results, Try.results14, go_sem]) rfl ⟨rfl, rfl⟩
  · by_cases h1 : lim < 1
    · clear h
      go_enter Try.func14, Try.ntmps14
      go_wp2_with fail
      refine K1.out.mono ?_
      rintro e w' ⟨rfl, rfl⟩
      go_wp2
      refine bodyPost_ret (v := .tuple #[.slice none 0 0, .bool false]) (by simp [results, Try.results14, go_sem]) rfl ⟨rfl, rfl⟩
    · by_cases h2 : 20 < lim
      · clear h
        go_enter Try.func14, Try.ntmps14
        go_wp2_with fail
        refine K1.out.mono ?_
        rintro e w' ⟨rfl, rfl⟩
        go_wp2
        refine bodyPost_ret (v := .tuple #[.slice none 0 0, .bool false]) (by simp [results, Try.results14, go_sem]) rfl ⟨rfl, rfl⟩
      · obtain ⟨q, rfl⟩ : ∃ q : Nat, lim = q := ⟨lim.toNat, by omega⟩
        have hM : 2 ^ q ≤ 2 ^ 20 := Nat.pow_le_pow_right (by omega) (by omega)
        obtain ⟨M, hMe⟩ : ∃ M, 2 ^ q = M := ⟨_, rfl⟩
        have hMI : wrap64 (2 ^ q) = (M : Int) := by rw [show ((2 : Int) ^ q) = ((2 ^ q : Nat) : Int) by simp, hMe]; exact wrap64_n _ (by omega)
        have hlt : (M : Int) < (n : Int) := by
          rw [← hMe]
          rcases Nat.lt_or_ge (2 ^ q) n with h3 | h3
          · exact_mod_cast h3
          · exact absurd ⟨rfl, by omega, by omega, by simpa using h3⟩ h
        clear h hM hMe b1 b2
        go_enter Try.func14, Try.ntmps14
        go_wp2_with fail
        refine K1.out.mono ?_
        rintro e w' ⟨rfl, rfl⟩
        go_wp2
        refine bodyPost_ret (v := .tuple #[.slice none 0 0, .bool false]) (by simp [results, Try.results14, go_sem]) rfl ⟨rfl, rfl⟩
end Go.Proofs.Ytpmiphnjnbkjlaa
