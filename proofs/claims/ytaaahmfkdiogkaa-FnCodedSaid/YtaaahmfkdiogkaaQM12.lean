/- Merged: C1Close, C1W, C6. -/
import Derived.Test.YtaaahmfkdiogkaaQM4
import Derived.Test.YtaaahmfkdiogkaaQM1
import Derived.Test.YtaaahmfkdiogkaaQM6
import Derived.RegionTactic
import Derived.ChangeAlike
import Derived.Deep.QuietTactic
import Derived.BigQuiet
import Derived.Maps.AppendAt
import Derived.BigRegion
namespace Go.Proofs.Ytaaahmfkdiogkaa
set_option linter.unusedVariables false
set_option linter.unusedSimpArgs false
open Go.RowKit

/-- The first k bits of v (n bits), then zeros. -/
def half (v n k : Nat) : List Nat := nbits (v / 2 ^ (n - k)) k ++ List.replicate (n - k) 0
theorem half_len (v n k : Nat) (h : k ≤ n) : (half v n k).length = n := by simp [half, nbits_len]; omega
theorem half_zero (v n : Nat) : half v n 0 = List.replicate n 0 := by simp [half, nbits]
theorem half_all (v n : Nat) : half v n n = nbits v n := by simp [half]
theorem half_set (v n k : Nat) (h : k < n) : (half v n k).set k (v / 2 ^ (n - 1 - k) % 2) = half v n (k + 1) := by
  have e : nbits (v / 2 ^ (n - (k + 1))) (k + 1) = nbits (v / 2 ^ (n - k)) k ++ [v / 2 ^ (n - 1 - k) % 2] := by
    rw [nbits_add, Nat.div_div_eq_div_mul, ← Nat.pow_add, show n - (k + 1) + 1 = n - k by omega, show n - (k + 1) = n - 1 - k by omega]
    simp [nbits]
  unfold half
  rw [e, show n - k = (n - (k + 1)) + 1 by omega, List.replicate_succ, List.set_append_right _ _ (by rw [nbits_len]; exact Nat.le_refl _), nbits_len]
  simp
theorem made_u8s (n : Nat) : (madeCells #[Value.int .u8 0] n).toList = u8s (List.replicate n 0) := by
  rw [toList_madeCells_one]; simp [u8s]

set_option maxHeartbeats 1000000 in
set_option maxRecDepth 100000 in
theorem l1num_any (v n : Nat) (w : World) (hn : n ≤ 40) (hv : v < 2 ^ 32) :
    Calls Try.prog 114 #[.int .i64 v, .int .i64 n] w fun e w' =>
      e = .returned (.slice (some ⟨w.heap.size, 0, none⟩) n n) ∧ w'.ownsRow w.heap.size 5 1 (.slice (some ⟨w.heap.size, 0, none⟩) n n) n (u8s (nbits v n)) ∧ Below w.heap.size w w' := by
  obtain ⟨i0, hi, hz0, hz1, hz2⟩ := info_parts Try.info5
  go_enter Try.func114, Try.ntmps114
  go_wp2_with (at_make; refine wpList_make_full _ rfl _ _ 59 rfl w.heap.size 5 i0 (.int .u8 0) 1 Try.underlying59 hi hz0 hz1 .i64 .i64 _ _ n rfl rfl rfl rfl ?c1 ?c2 ?c3 ?_)
  case c1 => rw [hz2]; omega
  case c2 => unfold maxLen; omega
  case c3 => exact Nat.le_refl _
  intro w1 hown1 hg1
  have hb1 : Below w.heap.size w w1 := (Below.refl _ _).grown hg1 (Nat.le_refl _) (by simp)
  rw [made_u8s] at hown1
  clear hg1
  go_wp2
  go_loopw [6] (fun i wr => ∃ k : Nat, k ≤ n ∧ i = .int .i64 k ∧ wr.ownsRow w.heap.size 5 1 (.slice (some ⟨w.heap.size, 0, none⟩) n n) n (u8s (half v n k)) ∧ Below w.heap.size w wr) (fun i _ => n - (intOf i).toNat)
  case atStart => exact ⟨0, Nat.zero_le _, rfl, by rw [half_zero]; exact hown1, hb1⟩
  case round =>
    obtain ⟨k, hk, rfl, hown, hbl⟩ := hrel
    clear hb1 hown1
    by_cases hlt : k < n
    · have c0 := hown.cellAt k (by omega)
      rw [u8s_get _ _ (by rw [half_len _ _ _ hk]; exact hlt)] at c0
      have f0 := hown.frozenAt k
      go_wp2
      refine ⟨⟨k + 1, by omega, by go_num, ?_, hbl.setCell (Nat.le_refl _) _⟩, by simp [intOf]; omega⟩
      have hs := hown.stored k (.int .u8 ((v / 2 ^ (n - 1 - k) % 2 : Nat) : Int))
      rw [← u8s_set, half_set v n k hlt] at hs
      have hv2 : v / 2 ^ (n - 1 - k) ≤ v := Nat.div_le_self _ _
      have e2 : bits BinOp.and IntKind.i64 ((v : Int) / 2 ^ (n - 1 - k)) 1 % 256 = ((v / 2 ^ (n - 1 - k) % 2 : Nat) : Int) := by
        have := i64_and_nat (v / 2 ^ (n - 1 - k)) 1 (by omega) (by omega)
        rw [nat_mask1] at this
        rw [show ((v : Int) / 2 ^ (n - 1 - k)) = ((v / 2 ^ (n - 1 - k) : Nat) : Int) by simp, show (1 : Int) = ((1 : Nat) : Int) by rfl, this]
        omega
      rw [e2]; exact hs.1
    · have hkn : k = n := by omega
      subst hkn
      go_wp2
      go_ret
      rw [half_all] at hown
      exact ⟨rfl, hown, hbl⟩

set_option maxHeartbeats 1000000 in
set_option maxRecDepth 100000 in
theorem l1close_any (l : List Nat) (hl1 : ∀ b ∈ l, b < 2) (g c base : Nat) (w : World) (hl : l.length ≤ 1000000) (hg0 : g < w.heap.size)
    (hown0 : w.ownsRow base 5 1 (.slice (some ⟨g, 0, none⟩) l.length c) l.length (u8s l)) :
    Calls Try.prog 66 #[.slice (some ⟨g, 0, none⟩) l.length c] w fun e w' =>
      ∃ D, Packs D l ∧ e = .returned (.agg #[.string (strOf D), .int .i64 l.length]) ∧ Below w.heap.size w w' := by
  obtain ⟨i0, hi, hz0, hz1, hz2⟩ := info_parts Try.info5
  obtain ⟨m, hm⟩ : ∃ m, m = (l.length + 7) / 8 := ⟨_, rfl⟩
  have hm2 : l.length ≤ 8 * m := by omega
  have hm3 : m ≤ 1000000 := by omega
  have HM := hidden hm
  clear hm
  go_enter Try.func66, Try.ntmps66
  go_wp2_with (at_make; refine wpList_make_full _ rfl _ _ 59 rfl (w.heap.size + 1) 5 i0 (.int .u8 0) 1 Try.underlying59 hi hz0 hz1 .i64 .i64 _ _ m rfl rfl ?c4 ?c5 ?c1 ?c2 ?c3 ?_)
  case c4 => have := HM.out; omega
  case c5 => have := HM.out; omega
  case c1 => rw [hz2]; omega
  case c2 => unfold maxLen; omega
  case c3 => simp
  intro w1 hown1 hg1
  have hb1 : Below w.heap.size w w1 := ((Below.refl _ _).alloc (Nat.le_refl _) _).grown hg1 (by simp) (by simp)
  have hR1 : Has w1 w.heap.size 40 #[.string ⟨#[]⟩, .int .i64 0] := (Has.fresh w _ _).grown hg1 (by simp)
  rw [made_u8s] at hown1
  (try simp only [World.size_alloc] at hown1)
  clear hg1
  go_wp2
  go_loopw [4] (fun i wr => ∃ (k : Nat) (D : List Nat), k ≤ l.length ∧ i = .int .i64 k ∧ D.length = m ∧ (∀ j, D.getD j 0 < 256) ∧ Hid (∀ j, j < 8 * m → bitL D j = (l.take k).getD j 0) ∧ wr.ownsRow (w.heap.size + 1) 5 1 (.slice (some ⟨w.heap.size + 1, 0, none⟩) m m) m (u8s D) ∧ Has wr w.heap.size 40 #[.string ⟨#[]⟩, .int .i64 0] ∧ Below w.heap.size w wr) (fun i _ => l.length - (intOf i).toNat)
  case atStart => exact ⟨0, List.replicate m 0, Nat.zero_le _, rfl, by simp, fun j => by simp [List.getD_eq_getElem?_getD, List.getElem?_replicate]; split <;> simp, hidden fun j hj => by simp [bitL, List.getD_eq_getElem?_getD, List.getElem?_replicate]; split <;> simp, hown1, hR1, hb1⟩
  case round =>
    obtain ⟨k, D, hk, rfl, hD, hDs, hDb, hown, hR, hbl⟩ := hrel
    clear hb1 hown1 hR1
    by_cases hlt : k < l.length
    · have HD := hidden hD
      have c0 : wr.cell? ⟨g, k, none⟩ = some (.int .u8 ((l.getD k 0 : Nat) : Int)) := by
        rw [hbl.cell (p := ⟨g, k, none⟩) hg0, hown0.cellAt k (by omega), u8s_get _ _ hlt]
      have c1 := hown.cellAt (k / 8) (by omega)
      rw [u8s_get _ _ (by omega)] at c1
      have f1 := hown.frozenAt (k / 8)
      have hi1 : 0 ≤ (k : Int) / 8 ∧ (k : Int) / 8 < m := by omega
      clear hD
      obtain ⟨W0, HW0⟩ : ∃ W0, Hid (W0 = wr) := ⟨_, hidden rfl⟩
      go_wp2
      go_region
      all_goals go_wp2
      have hb2 : l[k] < 2 := hl1 _ (List.getElem_mem _)
      have hp := packs_or (D := D) (l := l.take k) l[k] hb2 HD.out hDs (by rw [List.length_take]; omega) hDb.out
      rw [List.length_take, Nat.min_eq_left (by omega), ← List.take_succ_eq_append_getElem hlt] at hp
      refine ⟨⟨k + 1, D.set (k / 8) (D.getD (k / 8) 0 ||| l[k] * 2 ^ (7 - k % 8)), by omega, by go_num, ?_, hp.1, hidden hp.2, ?_, ?_, ?_⟩, by simp [intOf]; omega⟩
      · rw [List.length_set]; exact HD.out
      · have hs := (hown.stored (k / 8) (.int .u8 ((D.getD (k / 8) 0 ||| l[k] * 2 ^ (7 - k % 8) : Nat) : Int))).1
        rw [← u8s_set] at hs
        have hx : l[k] * 2 ^ (7 - k % 8) < 256 := by
          have h1 : 2 ^ (7 - k % 8) ≤ 2 ^ 7 := Nat.pow_le_pow_right (by omega) (by omega)
          have := Nat.mul_le_mul (show l[k] ≤ 1 by omega) h1
          omega
        have e2 : bits BinOp.or IntKind.u8 (↑(D[k / 8]?.getD 0)) ((l[k] : Int) * 2 ^ (7 - k % 8) % 256) = ((D.getD (k / 8) 0 ||| l[k] * 2 ^ (7 - k % 8) : Nat) : Int) := by
          rw [← u8_or_nat _ _ (hDs _) hx, List.getD_eq_getElem?_getD]
          congr 1
          rw [show ((l[k] : Int) * 2 ^ (7 - k % 8)) = ((l[k] * 2 ^ (7 - k % 8) : Nat) : Int) by simp]
          omega
        rw [e2]; exact hs
      · exact (hR.storeAway (by simp) _).drew
      · exact (hbl.setCell (by simp) _).drew
    · have hkn : k = l.length := by omega
      subst hkn
      have HD := hidden hD
      have e0 := hR.cell 0
      have e1 := hR.cell 1
      have g0 := hR.free 0
      have g1 := hR.free 1
      simp at e0 e1
      have hrun := run_string_own (P := Try.prog) (src := 59) (dst := 9) Try.underlying59 Try.underlying5 Try.underlying9 hown hD
      have hP : Packs D l := ⟨hD.trans HM.out, hDs, fun j hj => by have := hDb.out j (by omega); rwa [List.take_length] at this⟩
      clear hDs hown hR hD
      go_wp2
      refine bodyPost_ret (v := .agg #[.string (strOf D), .int .i64 l.length]) (by simp [results, Try.results66, go_sem, e0, e1, g0, g1]) rfl ⟨D, hP, rfl, ?_⟩
      repeat (first | exact Below.refl _ _ | refine Below.alloc ?_ (by (try simp); (try omega)) _ | refine Below.setCell ?_ (by (try simp); (try omega)) _ | refine Below.drew ?_ | refine bel_then (by assumption) (by (try simp); (try omega)) ?_ | refine only_then (by assumption) (by (try simp); (try omega)) (by (try simp); (try omega)) ?_)

theorem packs_nil : Packs [] [] := ⟨rfl, fun j => by simp, fun j hj => by simp at hj⟩
theorem l1close_nil (w : World) :
    Calls Try.prog 66 #[.slice none 0 0] w fun e w' =>
      e = .returned (.agg #[.string (strOf []), .int .i64 0]) ∧ Below w.heap.size w w' := by
  obtain ⟨i0, hi, hz0, hz1, hz2⟩ := info_parts Try.info5
  go_enter Try.func66, Try.ntmps66
  go_wp2_with (at_make; refine wpList_make_full _ rfl _ _ 59 rfl (w.heap.size + 1) 5 i0 (.int .u8 0) 1 Try.underlying59 hi hz0 hz1 .i64 .i64 _ _ 0 rfl rfl ?c4 ?c5 ?c1 ?c2 ?c3 ?_)
  case c4 => rfl
  case c5 => rfl
  case c1 => rw [hz2]; omega
  case c2 => unfold maxLen; omega
  case c3 => simp
  intro w1 hown1 hg1
  have hb1 : Below w.heap.size w w1 := ((Below.refl _ _).alloc (Nat.le_refl _) _).grown hg1 (by simp) (by simp)
  have hR : Has w1 w.heap.size 40 #[.string ⟨#[]⟩, .int .i64 0] := (Has.fresh w _ _).grown hg1 (by simp)
  rw [made_u8s] at hown1
  (try simp only [World.size_alloc] at hown1)
  have e0 := hR.cell 0
  have e1 := hR.cell 1
  have g0 := hR.free 0
  have g1 := hR.free 1
  simp at e0 e1
  have hrun := run_string_own (P := Try.prog) (src := 59) (dst := 9) Try.underlying59 Try.underlying5 Try.underlying9 hown1 (by simp)
  simp only [List.replicate_zero] at hrun
  clear hg1 hown1 hR
  go_wp2
  refine wp_loop_rounds 1 ?_
  rw [rounds_succ]
  go_wp2
  refine bodyPost_ret (v := .agg #[.string (strOf []), .int .i64 0]) (by simp [results, Try.results66, go_sem, e0, e1, g0, g1]) rfl ⟨rfl, ?_⟩
  repeat (first | exact Below.refl _ _ | refine Below.alloc ?_ (by (try simp); (try omega)) _ | refine Below.setCell ?_ (by (try simp); (try omega)) _ | refine Below.drew ?_ | refine bel_then (by assumption) (by (try simp); (try omega)) ?_ | refine only_then (by assumption) (by (try simp); (try omega)) (by (try simp); (try omega)) ?_)
theorem l1close_own (l : List Nat) (hl1 : ∀ b ∈ l, b < 2) (v : Value) (base : Nat) (w : World) (hl : l.length ≤ 1000000)
    (hown0 : w.ownsRow base 5 1 v l.length (u8s l)) :
    Calls Try.prog 66 #[v] w fun e w' =>
      ∃ D, Packs D l ∧ e = .returned (.agg #[.string (strOf D), .int .i64 l.length]) ∧ Below w.heap.size w w' := by
  rcases hown0.2 with ⟨rfl, h0⟩ | ⟨g, c, cur, rfl, _⟩
  · obtain rfl : l = [] := List.eq_nil_of_length_eq_zero h0
    exact (l1close_nil w).mono fun e w' ⟨he, hb⟩ => ⟨[], packs_nil, he, hb⟩
  · exact l1close_any l hl1 g c base w hl (hown0.lt g rfl).2 hown0
end Go.Proofs.Ytaaahmfkdiogkaa
namespace Go.Proofs.Ytaaahmfkdiogkaa
set_option linter.unusedVariables false
set_option linter.unusedSimpArgs false
open Go.RowKit

/-- Block g is a writer of the bits l; its bytes lie in a row of the call's own, from block base on. -/
def Writes (w : World) (base g : Nat) (l : List Nat) : Prop :=
  ∃ (v : Value) (D : List Nat), Has w g 130 #[v, .int .i64 (l.length : Int)] ∧ Row w base 5 v D.length (u8s D) ∧ Packs D l ∧ some g ≠ v.ownBlock

theorem writerOf_any (s : ByteArray) (n : Nat) (w : World) (hok : okB s n = true) :
    Calls Try.prog 69 #[.agg #[.string s, .int .i64 n]] w fun e w' => ∃ g, e = .returned (.pointer (some ⟨g, 0, none⟩)) ∧ Writes w' w.heap.size g (row s 0 n) ∧ w.heap.size ≤ g ∧ Below w.heap.size w w' := by
  have hroom := okB_room hok
  have hcv := fun W : World => run_bytes_of_string (P := Try.prog) W 9 59 5 s Try.underlying9 Try.underlying59 Try.underlying5
  go_enter Try.func69, Try.ntmps69
  go_wp2
  go_ret
  have hrow := Row.ofString (w.alloc (.cells #[.string s, .int .i64 n] 40)) 5 s (by unfold maxLen; omega)
  have hpk := bitsOk_packs hok
  refine ⟨w.heap.size + 1 + 1, rfl, ⟨.slice (some ⟨w.heap.size + 1, 0, none⟩) s.size (grownCap (w.alloc (.cells #[.string s, .int .i64 n] 40)) s.size 0 5), bytesOf s, ?_, ?_, hpk, ?_⟩, by omega, ?_⟩
  · rw [row_len]
    exact Has.drew (Has.freshAt (by simp) _ _)
  · rw [bytesOf_len]
    have := ((hrow.alloc (.cells #[.slice (some ⟨w.heap.size + 1, 0, none⟩) s.size (grownCap (w.alloc (.cells #[.string s, .int .i64 n] 40)) s.size 0 5), .int .i64 n] 130)).mono (show w.heap.size ≤ _ by simp)).drew
    simpa using this
  · simp [Value.ownBlock]
  · repeat (first | exact Below.refl _ _ | assumption | refine Below.alloc ?_ (by (try simp); (try omega)) _ | refine Below.setCell ?_ (by (try simp); (try omega)) _ | refine Below.drew ?_ | refine bel_then (by assumption) (by (try simp); (try omega)) ?_ | refine only_then (by assumption) (by (try simp); (try omega)) (by (try simp); (try omega)) ?_ | refine bel_thenB (by assumption) (by (try simp); (try omega)) ?_)

theorem Writes.lt {w : World} {base g : Nat} {l : List Nat} (h : Writes w base g l) : g < w.heap.size := by
  obtain ⟨v, D, hB, _⟩ := h; exact hB.lt
theorem Writes.below {w w' : World} {base g : Nat} {l : List Nat} (h : Writes w base g l) (hb : Below w.heap.size w w') : Writes w' base g l := by
  obtain ⟨v, D, hB, hR, hP, hne⟩ := h
  exact ⟨v, D, hB.below hb hB.lt, hR.belowAll hb, hP, hne⟩
theorem Writes.alloc {w : World} {base g : Nat} {l : List Nat} (h : Writes w base g l) (o : Obj) : Writes (w.alloc o) base g l := by
  obtain ⟨v, D, hB, hR, hP, hne⟩ := h
  exact ⟨v, D, hB.alloc o, hR.alloc o, hP, hne⟩

theorem bits_any (g base : Nat) (l : List Nat) (w : World) (h : Writes w base g l) :
    Calls Try.prog 72 #[.pointer (some ⟨g, 0, none⟩)] w fun e w' => ∃ D, Packs D l ∧ e = .returned (.agg #[.string (strOf D), .int .i64 l.length]) ∧ Below w.heap.size w w' := by
  obtain ⟨v, D, hB, hR, hP, hne⟩ := h
  have hcv : ∀ W : World, W.heap.size = w.heap.size + 1 → Row W base 5 v D.length (u8s D) → (convert 59 9 v).run Try.prog W = .ok (.string (strOf D)) W :=
    fun W _ h => run_string_row Try.underlying59 Try.underlying5 Try.underlying9 h
  have hB1 := hB.alloc (.cells #[.string ⟨#[]⟩, .int .i64 0] 40)
  have hlt := hB.lt
  have c0 := hB1.cell 0
  have c1 := hB1.cell 1
  simp at c0 c1
  have hq := hcv _ (by simp) (hR.alloc (.cells #[.string ⟨#[]⟩, .int .i64 0] 40)).drew
  clear hcv
  go_enter Try.func72, Try.ntmps72
  go_wp2
  go_region
  all_goals go_wp2
  all_goals
    refine bodyPost_ret (v := .agg #[.string (strOf D), .int .i64 l.length]) (by simp [results, Try.results72, go_sem]) rfl ⟨D, hP, rfl, ?_⟩
    repeat (first | exact Below.refl _ _ | assumption | refine Below.alloc ?_ (by (try simp); (try omega)) _ | refine Below.setCell ?_ (by (try simp); (try omega)) _ | refine Below.drew ?_ | refine bel_then (by assumption) (by (try simp); (try omega)) ?_ | refine only_then (by assumption) (by (try simp); (try omega)) (by (try simp); (try omega)) ?_ | refine bel_thenB (by assumption) (by (try simp); (try omega)) ?_)

/-- Every block but g, and but the rows of bytes, stays. -/
def Keeps (g : Nat) (a w : World) : Prop := ∀ b o, b ≠ g → (∀ cs fr, o ≠ Obj.cells cs 5 fr) → a.heap[b]? = some o → w.heap[b]? = some o
theorem Keeps.has {g : Nat} {a w : World} (h : Keeps g a w) {b : Nat} {T : TypeId} {cs : Array Value} (h1 : b ≠ g) (h2 : T ≠ 5) (h3 : Has a b T cs) : Has w b T cs :=
  h b _ h1 (fun cs fr e => by injection e with _ e2; exact h2 e2) h3
theorem heap_lt7 {w : World} {b : Nat} {o : Obj} (h : w.heap[b]? = some o) : b < w.heap.size := (Array.getElem?_eq_some_iff.1 h).1
theorem Keeps.refl (g : Nat) (w : World) : Keeps g w w := fun _ _ _ _ h => h
theorem Keeps.trans {g : Nat} {a b c : World} (h : Keeps g a b) (k : Keeps g b c) : Keeps g a c := fun b' o h1 h2 h3 => k b' o h1 h2 (h b' o h1 h2 h3)
theorem Keeps.alloc {g : Nat} {a w : World} (h : Keeps g a w) (o : Obj) : Keeps g a (w.alloc o) := fun b o2 h1 h2 h3 => (Below.heap_alloc w o b (heap_lt7 (h b o2 h1 h2 h3))).trans (h b o2 h1 h2 h3)
theorem Keeps.drewN {g : Nat} {a w : World} (h : Keeps g a w) (n : Nat) : Keeps g a (w.drewN n) := fun b o h1 h2 h3 => h b o h1 h2 h3
theorem Keeps.store {g : Nat} {a w : World} (h : Keeps g a w) (j : Nat) (u : Value) : Keeps g a (w.setCell ⟨g, j, none⟩ u) := fun b o h1 h2 h3 => (Below.heap_setCell w ⟨g, j, none⟩ u b h1).trans (h b o h1 h2 h3)
theorem Row.notOther {w : World} {base n : Nat} {v : Value} {xs : List Value} (hR : Row w base 5 v n xs) {b : Nat} {o : Obj} (ho : ∀ cs fr, o ≠ Obj.cells cs 5 fr) (hb : w.heap[b]? = some o) : v.ownBlock ≠ some b := by
  obtain ⟨g, cap, cur, fr, rfl, _, hh, _⟩ := hR
  intro e
  simp only [Value.ownBlock, Option.some.injEq] at e
  subst e
  rw [hh] at hb
  injection hb with hb
  exact ho _ _ hb.symm
theorem Keeps.storeRow {g gd n cp base : Nat} {xs : List Value} {a w : World} (h : Keeps g a w) (hR : Row w base 5 (.slice (some ⟨gd, 0, none⟩) n cp) n xs) (j : Nat) (u : Value) : Keeps g a (w.setCell ⟨gd, j, none⟩ u) :=
  fun b o h1 h2 h3 => (Below.heap_setCell w ⟨gd, j, none⟩ u b (fun e => hR.notOther h2 (h b o h1 h2 h3) (by rw [e]; rfl))).trans (h b o h1 h2 h3)
theorem Keeps.grown {g n base : Nat} {v : Value} {xs : List Value} {a w w' : World} (h : Keeps g a w) (hR : Row w base 5 v n xs) (hg : w.grownBy w' v.ownBlock) : Keeps g a w' :=
  fun b o h1 h2 h3 => (hg.block b (heap_lt7 (h b o h1 h2 h3)) (fun e => hR.notOther h2 (h b o h1 h2 h3) e.symm)).trans (h b o h1 h2 h3)
theorem Writes.only {w w' : World} {base g b : Nat} {l : List Nat} {T : TypeId} {cs : Array Value} (h : Writes w base g l) (ho : Only b w w') (hb : Has w b T cs) (hT : 5 ≠ T) (hne : g ≠ b) : Writes w' base g l := by
  obtain ⟨v, D, hB, hR, hP, hn⟩ := h
  refine ⟨v, D, ho.has hB hne, hR.keep fun q hq => ho.block q (hR.lt q hq).2 ?_, hP, hn⟩
  intro e
  exact hR.neHas hb hT (by rw [hq, e])
end Go.Proofs.Ytaaahmfkdiogkaa
namespace Go.Proofs.Ytaaahmfkdiogkaa
set_option linter.unusedVariables false
set_option linter.unusedSimpArgs false
open Go.RowKit

/-- How many bits a number has; -1 where it is none. -/
def gamOk (n : Int) : Bool := decide (1 ≤ n ∧ n ≤ 1048575)
theorem gamOk_iff (n : Int) : gamOk n = true ↔ 1 ≤ n ∧ n ≤ 1048575 := by simp [gamOk]
def gamB (n : Int) : Int := if gamOk n = true then ((gamL n.toNat).length : Int) else -1
end Go.Proofs.Ytaaahmfkdiogkaa
