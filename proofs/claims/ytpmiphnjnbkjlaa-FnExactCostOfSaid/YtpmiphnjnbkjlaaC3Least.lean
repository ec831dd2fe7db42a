/- Chapter 3: the least number of a list, and the rest (the model). -/
import Derived.Test.YtpmiphnjnbkjlaaC3Lens
import Derived.Deep.RegionHeld3
import Derived.Deep.DrawnRows
namespace Go.Proofs.Ytpmiphnjnbkjlaa
set_option linter.unusedVariables false
set_option linter.unusedSimpArgs false
open Go.RowKit

def natsL (D : List Nat) : List Value := D.map fun (x : Nat) => Value.int .i64 (x : Int)
theorem natsL_len (D : List Nat) : (natsL D).length = D.length := by simp [natsL]
theorem natsL_get (D : List Nat) (j : Nat) (h : j < D.length) : (natsL D)[j]? = some (.int .i64 (D[j] : Int)) := by simp [natsL, h]
theorem natsL_append (D E : List Nat) : natsL (D ++ E) = natsL D ++ natsL E := by simp [natsL]
theorem natsL_one (D : List Nat) : ∀ u ∈ natsL D, u.oneCell' = true := by
  intro u hu
  simp only [natsL, List.mem_map] at hu
  obtain ⟨x, _, rfl⟩ := hu
  rfl
theorem own_neq {w : World} {base size n g m c : Nat} {e : TypeId} {v : Value} {xs : List Value} (h : w.ownsRow base e size v n xs) (hg : g < base) : Value.ownBlock (.slice (some ⟨g, 0, none⟩) m c) ≠ v.ownBlock := by
  intro he
  have := (h.lt g (by rw [← he]; rfl)).1
  omega
theorem natsL_take {w : World} {base g n c : Nat} {E : TypeId} {D : List Nat} (h : w.ownsRow base E 1 (.slice (some ⟨g, 0, none⟩) n c) n (natsL D)) (k : Nat) : ∀ (j : Nat) (u : Value), (natsL (D.take k))[j]? = some u → w.cell? ((⟨g, 0, none⟩ : Addr).add j) = some u := by
  intro j u hu
  refine h.cells (g := g) rfl j u ?_
  simp only [natsL, List.map_take, List.getElem?_take] at hu ⊢
  split at hu
  · exact hu
  · cases hu
theorem natsL_drop {w : World} {base g n c : Nat} {E : TypeId} {D : List Nat} (h : w.ownsRow base E 1 (.slice (some ⟨g, 0, none⟩) n c) n (natsL D)) (k : Nat) : ∀ (j : Nat) (u : Value), (natsL (D.drop k))[j]? = some u → w.cell? ((⟨g, k, none⟩ : Addr).add j) = some u := by
  intro j u hu
  have e : (⟨g, k, none⟩ : Addr).add j = ⟨g, k + j, none⟩ := by unfold Addr.add; split <;> simp_all
  have hu2 : (natsL D)[k + j]? = some u := by
    simp only [natsL, List.map_drop, List.getElem?_drop] at hu ⊢; exact hu
  have hl := h.1
  have hj : k + j < n * 1 := by rw [← hl]; exact (List.getElem?_eq_some_iff.1 hu2).1
  rw [e, h.cellAt _ hj, hu2]
theorem step_append_at {P : Program} (w : World) {ops : Array Oper} {o : Oper} {a : Act} {K : Act → World → Prop} {Q : Exit → Act → World → Prop} {E : Prop} (hgd : o.guard = none) (s x : Operand) (t : TypeId)
    (ho : o.op = .call { callee := .builtin .append, args := #[s, x], argTypes := #[t, t] })
    (base : Nat) (e : TypeId) (i : TypeInfo) (z : Value) (size bytes : Nat) (ht : P.underlying t = some (.slice e)) (hi : P.info? e = some i) (hz : i.zero = some z)
    (hsize : i.size = size) (hby : i.bytes = bytes) (hzs : z.cells.size = size) (hsz : 0 < size)
    (v : Value) (n : Nat) (xs : List Value) (hs : a.eval s = v) (hown : w.ownsRow base e size v n xs)
    (ad : Addr) (m c : Nat) (news : List Value) (hx : a.eval x = .slice (some ad) m c) (hl : news.length = m * size) (hnews : ∀ j u, news[j]? = some u → w.cell? (ad.add j) = some u) (h1 : ∀ u ∈ news, u.oneCell' = true)
    (h63 : n + m ≤ maxLen) (hbytes : (n + m) * bytes ≤ 140737488355328) (hbase : base ≤ w.heap.size)
    (h : ∀ v' w', w'.ownsRow base e size v' (n + m) (xs ++ news) → w.grownBy w' v.ownBlock → K (a.put o.dst v') w') :
    if Region.wanted o (yielded ops a.tmps) = true then Oper.wp P o a w K Q else E := by
  have hw : Region.wanted o (yielded ops a.tmps) = true := by simp [Region.wanted, hgd]
  rw [if_pos hw]
  exact wp_append_own w s x t ho base e i z size bytes ht hi hz hsize hby hzs hsz v n xs hs hown ad m c news hx hl hnews h1 h63 hbytes hbase fun v' w' h2 h3 _ => h v' w' h2 h3
attribute [local go_sem ↓] Go.wp_at_zero Go.wp_at_succ
set_option maxHeartbeats 2000000 in
theorem l3least_any (base g n c : Nat) (D : List Nat) (w : World) (hn : D.length = n) (h : w.ownsRow base 3 1 (.slice (some ⟨g, 0, none⟩) n c) n (natsL D)) (hn0 : 0 < n) (hn2 : n ≤ 1000) :
    Calls Try.prog 46 #[.slice (some ⟨g, 0, none⟩) n c] w fun e w' => ∃ (k x : Nat) (v : Value), e = .returned (.tuple #[.int .i64 x, v]) ∧ k < n ∧ D[k]? = some x ∧ (∀ z ∈ D, x ≤ z) ∧ w'.ownsRow w.heap.size 3 1 v (n - 1) (natsL (D.take k ++ D.drop (k + 1))) ∧ Below w.heap.size w w' := by
  obtain ⟨i0, hi, hz0, hz1, hz2⟩ := info_parts Try.infoInt
  have hg := (h.lt g rfl).2
  have HN := hidden hn
  have H0 := hidden h
  have hcn : n ≤ c := by
    rcases h.2 with ⟨h, _⟩ | ⟨g, cap, cur, h, _, _, h5, _⟩
    · cases h
    · simp only [Value.slice.injEq] at h; omega
  clear hn h
  go_enter Try.func46, Try.ntmps46
  go_wp2
  go_loopw [4, 5] (fun sk si wr => ∃ k i nq : Nat, k < i ∧ i ≤ n ∧ sk = .int .i64 k ∧ si = .int .i64 i ∧ Hid (∀ j, j < i → (D.getD k 0) ≤ D.getD j 0) ∧ wr = w.drewN nq) (fun _ si _ => n - (intOf si).toNat)
  case atStart => exact ⟨0, 1, 0, by omega, by omega, rfl, rfl, hidden (fun j hj => by rw [show j = 0 by omega]; exact Nat.le_refl _), rfl⟩
  case round =>
    obtain ⟨k, i, nq, hki, hin, rfl, rfl, HL, rfl⟩ := hrel
    have hk : k < n := by omega
    obtain ⟨x, hx⟩ : ∃ x, D[k]'(by rw [HN.out]; exact hk) = x := ⟨_, rfl⟩
    have ck := H0.out.cellAt k (by omega)
    rw [natsL_get D k (by rw [HN.out]; exact hk), hx] at ck
    have hxg : D.getD k 0 = x := by rw [List.getD_eq_getElem?_getD, List.getElem?_eq_getElem (by rw [HN.out]; exact hk), hx]; rfl
    rw [hxg] at HL
    by_cases hlt : i < n
    · obtain ⟨y, hy⟩ : ∃ y, D[i]'(by rw [HN.out]; exact hlt) = y := ⟨_, rfl⟩
      have ci := H0.out.cellAt i (by omega)
      rw [natsL_get D i (by rw [HN.out]; exact hlt), hy] at ci
      have hyg : D.getD i 0 = y := by rw [List.getD_eq_getElem?_getD, List.getElem?_eq_getElem (by rw [HN.out]; exact hlt), hy]; rfl
      have HX := hidden hxg
      have HY := hidden hyg
      clear hx hy hxg hyg
      by_cases hyx : y < x
      · have HL2 : Hid (∀ j, j < i + 1 → D.getD i 0 ≤ D.getD j 0) := hidden fun j hj => by
          rw [HY.out]
          rcases Nat.lt_or_ge j i with h | h
          · have := HL.out j h; omega
          · rw [show j = i by omega, HY.out]; exact Nat.le_refl _
        go_wp2
        go_quiet (fail)
        go_wp2
        exact ⟨⟨i, i + 1, _, by omega, by omega, rfl, by go_num, HL2, rfl⟩, by simp [intOf]; omega⟩
      · have HL2 : Hid (∀ j, j < i + 1 → D.getD k 0 ≤ D.getD j 0) := hidden fun j hj => by
          rw [HX.out]
          rcases Nat.lt_or_ge j i with h | h
          · exact HL.out j h
          · rw [show j = i by omega, HY.out]; omega
        go_wp2
        go_quiet (fail)
        go_wp2
        exact ⟨⟨k, i + 1, _, by omega, by omega, rfl, by go_num, HL2, rfl⟩, by simp [intOf]; omega⟩
    · have hie : i = n := by omega
      subst hie
      have hO : (w.drewN (nq + 1)).ownsRow base 3 1 (.slice (some ⟨g, 0, none⟩) i c) i (natsL D) := H0.out
      have hckx := natsL_get D k (by rw [HN.out]; exact hk)
      rw [hx] at hckx
      have hk1 : k < i * 1 := by omega
      have hlt1 : (natsL (D.take k)).length = k * 1 := by rw [natsL_len, List.length_take, HN.out]; omega
      have hlt2 : (natsL (D.drop (k + 1))).length = (i - (k + 1)) * 1 := by rw [natsL_len, List.length_drop, HN.out]; omega
      have hm1 : 0 + k ≤ maxLen := by unfold maxLen; omega
      have hm2 : (0 + k) * 8 ≤ 140737488355328 := by omega
      have hm3 : 0 + k + (i - (k + 1)) ≤ maxLen := by unfold maxLen; omega
      have hm4 : (0 + k + (i - (k + 1))) * 8 ≤ 140737488355328 := by omega
      have hE := World.ownsRow_lit (base := w.heap.size) (e := 3) (size := 1) (w.drewN (nq + 1)) #[] 0 (Nat.le_refl _) (by decide) rfl
      have bE : Below w.heap.size w ((w.drewN (nq + 1)).alloc (.cells #[] 3)) := (bel_drewN (Below.refl _ _) (nq + 1)).alloc (Nat.le_refl _) _
      have hneE : Value.ownBlock (.slice (some ⟨g, 0, none⟩) i c) ≠ Value.ownBlock (.slice (some ⟨w.heap.size, 0, none⟩) 0 0) := by
        simp [Value.ownBlock]; omega
      replace hO := hO.alloc (.cells #[] 3)
      have hb0 : w.heap.size ≤ ((w.drewN (nq + 1)).alloc (.cells #[] 3)).heap.size := bE.size
      have hki1 : (k : Int) + 1 ≤ (i : Int) := by omega
      have hk0 : (0 : Int) ≤ (k : Int) := by omega
      have hk2 : (k : Int) < (i : Int) := by omega
      have hkc : (k : Int) + 1 ≤ (c : Int) := by omega
      have hkc0 : (k : Int) ≤ (c : Int) := by omega
      have hk10 : (0 : Int) ≤ (k : Int) + 1 := by omega
      have hic : (i : Int) ≤ (c : Int) := by omega
      have hw1 : IntKind.i64.wrap ((k : Int) + 1) = (k : Int) + 1 := IntWalk.i64_in _ (by omega)
      have HLE : Hid (∀ z ∈ D, x ≤ z) := hidden (by
        intro z hz
        obtain ⟨j, hj, rfl⟩ := List.getElem_of_mem hz
        have := HL.out j (by rw [HN.out] at hj; exact hj)
        rwa [List.getD_eq_getElem?_getD, List.getElem?_eq_getElem hj] at this)
      by_cases hcap : c = k + 1
      · have hik : i = k + 1 := by omega
        have hdn : natsL (D.drop (k + 1)) = [] := by rw [List.drop_eq_nil_of_le (by rw [HN.out]; omega)]; rfl
        have hnews0 : ∀ (W : World) (j : Nat) (u : Value), (natsL (D.drop (k + 1)))[j]? = some u → W.cell? ((⟨g, 0, none⟩ : Addr).add j) = some u := by
          intro W j u hu; rw [hdn] at hu; simp at hu
        have hlt0 : (natsL (D.drop (k + 1))).length = 0 * 1 := by rw [hdn]; rfl
        have hm0 : 0 + k + 0 ≤ maxLen := by unfold maxLen; omega
        have hm0' : (0 + k + 0) * 8 ≤ 140737488355328 := by omega
        clear hdn
        have hx1 : (k : Int) < (k : Int) + 1 := by omega
        have hx2 : (k : Int) ≤ (k : Int) + 1 := by omega
        have hx3 : (k : Int) + 1 ≤ (k : Int) + 1 := Int.le_refl _
        go_wp2
        go_region_held3 (fun w' => w'.cell? ⟨g, k, none⟩ = some (.int .i64 (x : Int))) (go_keep) (first | (refine step_append_at _ (by rfl) _ _ _ (by rfl) w.heap.size 3 i0 (.int .i64 0) 1 8 Try.underlying23 hi hz0 hz1 hz2 (by rfl) (by decide) v1 (0 + k) _ (by rfl) (by exact oA) ⟨g, 0, none⟩ 0 _ (natsL (D.drop (k + 1))) (by rfl) hlt0 (hnews0 _) (natsL_one _) hm0 hm0' (by exact bA.size) ?_; intro v2 wB oB gB; replace hO : wB.ownsRow base 3 1 _ _ _ := hO.kept gB (.inr (own_neq oA hg)); have bB : Below w.heap.size w wB := bA.grown gB (by omega) (fun b hb => (oA.lt b hb).1); have ckB := hO.cellAt k hk1; rw [hckx] at ckB) | (refine step_append_at _ (by rfl) _ _ _ (by rfl) w.heap.size 3 i0 (.int .i64 0) 1 8 Try.underlying23 hi hz0 hz1 hz2 (by rfl) (by decide) (.slice (some ⟨w.heap.size, 0, none⟩) 0 0) 0 [] (by rfl) (by exact hE) ⟨g, 0, none⟩ k _ (natsL (D.take k)) (by rfl) hlt1 (by exact natsL_take hO k) (natsL_one _) hm1 hm2 (by exact hb0) ?_; intro v1 wA oA gA; replace hO : wA.ownsRow base 3 1 _ _ _ := hO.kept gA (.inr hneE); have hszA := gA.size; (try simp at hszA); have bA : Below w.heap.size w wA := bE.grown gA hb0 (fun b hb => by simp only [Value.ownBlock, Option.some.injEq] at hb; omega); have ckA := hO.cellAt k hk1; rw [hckx] at ckA))
        all_goals
          go_wp2
          refine bodyPost_ret (v := .tuple #[.int .i64 x, v2]) (by simp [results, Try.results46, go_sem]) rfl ⟨k, x, v2, rfl, hk, by rw [List.getElem?_eq_getElem (by rw [HN.out]; exact hk), hx], HLE.out, ?_, ⟨bB.os, bB.tape, bB.output, bB.size, bB.block⟩⟩
          rw [show i - 1 = 0 + k + 0 by omega, natsL_append]
          simpa using oB
      · go_wp2
        go_region_held3 (fun w' => w'.cell? ⟨g, k, none⟩ = some (.int .i64 (x : Int))) (go_keep) (first | (refine step_append_at _ (by rfl) _ _ _ (by rfl) w.heap.size 3 i0 (.int .i64 0) 1 8 Try.underlying23 hi hz0 hz1 hz2 (by rfl) (by decide) v1 (0 + k) _ (by rfl) (by exact oA) ⟨g, k + 1, none⟩ (i - (k + 1)) _ (natsL (D.drop (k + 1))) (by rfl) hlt2 (by exact natsL_drop hO (k + 1)) (natsL_one _) hm3 hm4 (by exact bA.size) ?_; intro v2 wB oB gB; replace hO : wB.ownsRow base 3 1 _ _ _ := hO.kept gB (.inr (own_neq oA hg)); have bB : Below w.heap.size w wB := bA.grown gB (by omega) (fun b hb => (oA.lt b hb).1); have ckB := hO.cellAt k hk1; rw [hckx] at ckB) | (refine step_append_at _ (by rfl) _ _ _ (by rfl) w.heap.size 3 i0 (.int .i64 0) 1 8 Try.underlying23 hi hz0 hz1 hz2 (by rfl) (by decide) (.slice (some ⟨w.heap.size, 0, none⟩) 0 0) 0 [] (by rfl) (by exact hE) ⟨g, 0, none⟩ k _ (natsL (D.take k)) (by rfl) hlt1 (by exact natsL_take hO k) (natsL_one _) hm1 hm2 (by exact hb0) ?_; intro v1 wA oA gA; replace hO : wA.ownsRow base 3 1 _ _ _ := hO.kept gA (.inr hneE); have hszA := gA.size; (try simp at hszA); have bA : Below w.heap.size w wA := bE.grown gA hb0 (fun b hb => by simp only [Value.ownBlock, Option.some.injEq] at hb; omega); have ckA := hO.cellAt k hk1; rw [hckx] at ckA))
        all_goals
          go_wp2
          refine bodyPost_ret (v := .tuple #[.int .i64 x, v2]) (by simp [results, Try.results46, go_sem]) rfl ⟨k, x, v2, rfl, hk, by rw [List.getElem?_eq_getElem (by rw [HN.out]; exact hk), hx], HLE.out, ?_, ⟨bB.os, bB.tape, bB.output, bB.size, bB.block⟩⟩
          rw [show i - 1 = 0 + k + (i - (k + 1)) by omega, natsL_append]
          simpa using oB
end Go.Proofs.Ytpmiphnjnbkjlaa
