/- Chapter 4, the program: the map from codes to symbols. -/
import Derived.Test.YtdfbpmkdmpdobaaI4K
namespace Go.Proofs.Ytdfbpmkdmpdobaa
set_option linter.unusedVariables false
set_option linter.unusedSimpArgs false
open Go.RowKit Go.Maps

/-- The map of the first k symbols. -/
def mapD (cd l : Nat → Nat) : Nat → DataW Unit
  | 0 => .map []
  | k + 1 => (mapD cd l k).put (keyL (cd k) (l k)) (.lit (.int .i64 (k : Int)))
theorem mapD_is (cd l : Nat → Nat) (k : Nat) : IsMap (mapD cd l k) := by
  induction k with
  | zero => exact isMap_empty
  | succ k ih => exact ih.put _ _
theorem mapD_no (cd l : Nat → Nat) (v m : Nat) (hv : v ≤ 4611686018427387904) (hm : m ≤ 4611686018427387904) (k : Nat) (hb : ∀ i, i < k → cd i ≤ 1048576 ∧ l i ≤ 20) (h : ∀ i, i < k → ¬ (cd i = v ∧ l i = m)) : has (mapD cd l k) (keyL v m) = false := by
  induction k with
  | zero => rfl
  | succ k ih =>
    have hne : keyL v m ≠ keyL (cd k) (l k) := fun e => by
      have hk := hb k (by omega)
      have := keyL_inj hv hm (by omega) (by omega) e
      exact h k (by omega) ⟨this.1.symm, this.2.symm⟩
    rw [mapD, has_put_other hne]
    exact ih (fun i hi => hb i (by omega)) (fun i hi => h i (by omega))
theorem mapD_yes (cd l : Nat → Nat) (z : DataW Unit) (i k : Nat) (hi : i < k) (hb : ∀ i, i < k → cd i ≤ 1048576 ∧ l i ≤ 20) (h : ∀ j, j < k → cd j = cd i → l j = l i → j = i) :
    has (mapD cd l k) (keyL (cd i) (l i)) = true ∧ (mapD cd l k).atKey (keyL (cd i) (l i)) z = .lit (.int .i64 (i : Int)) := by
  induction k with
  | zero => omega
  | succ k ih =>
    have hk := hb k (by omega)
    have hbi := hb i hi
    by_cases e : i = k
    · subst e
      exact ⟨has_put_same (mapD_is _ _ _) (keyL_lit _ _ (by omega) (by omega)) _, atKey_put_same (mapD_is _ _ _) (keyL_lit _ _ (by omega) (by omega)) _ _⟩
    · have hne : keyL (cd i) (l i) ≠ keyL (cd k) (l k) := fun e2 => by
        have := keyL_inj (by omega) (by omega) (by omega) (by omega) e2
        exact e (h k (by omega) this.1.symm this.2.symm).symm
      rw [mapD, has_put_other hne, atKey_put_other hne]
      exact ih (by omega) (fun i hi => hb i (by omega)) (fun j hj => h j (by omega))
/-- The map of all codes of lengths, in block b. -/
def MapAt (W : World) (b : Nat) (ls : List Int) : Prop := ∃ n, W.ownsMap Try.prog 90 (plainElem (H := Unit) Try.prog 3) b n (mapD (cdF ls) (lnF ls) ls.length)
theorem MapAt.below {W W' : World} {b : Nat} {ls : List Int} (h : MapAt W b ls) (hb : Below W.heap.size W W') : MapAt W' b ls := by
  obtain ⟨n, h⟩ := h
  exact ⟨n, h.kept (row := none) ⟨hb.os, hb.tape, hb.output, hb.size, fun i hi _ => hb.block i hi⟩ (by simp)⟩
theorem MapAt.lt {W : World} {b : Nat} {ls : List Int} (h : MapAt W b ls) : b < W.heap.size := by
  obtain ⟨n, h⟩ := h
  exact h.lt
theorem MapAt.only {W W' : World} {b g : Nat} {ls : List Int} (h : MapAt W b ls) (ho : Only g W W') (hne : b ≠ g) : MapAt W' b ls := by
  obtain ⟨n, h⟩ := h
  exact ⟨n, h.kept ho (by simpa using hne)⟩
theorem MapAt.alloc {W : World} {b : Nat} {ls : List Int} (h : MapAt W b ls) (o : Obj) : MapAt (W.alloc o) b ls := by
  obtain ⟨n, h⟩ := h
  exact ⟨n, h.alloc o⟩
theorem MapAt.drewN {W : World} {b : Nat} {ls : List Int} (h : MapAt W b ls) (k : Nat) : MapAt (W.drewN k) b ls := h
theorem MapAt.setCell {W : World} {b : Nat} {ls : List Int} (h : MapAt W b ls) {p : Addr} (hp : b ≠ p.block) (u : Value) : MapAt (W.setCell p u) b ls := by
  obtain ⟨n, h⟩ := h
  exact ⟨n, h.setCell hp u⟩
theorem run_makeHint (k : Int) (W : World) : (Instr.makeMap 71 (some (.int .i64 k))).run Try.prog W = .ok (.map (some W.heap.size)) (W.alloc (.map #[] 0)) := by
  simp [Instr.makeMap, run_underlying Try.underlying71, asInt, asIntOf, Result.andThen]
set_option maxHeartbeats 2000000 in
set_option maxRecDepth 100000 in
theorem codeMapOf_any (a : Option Addr) (cap B : Nat) (ls : List Int) (w : World) (hz : Ints w B a ls) (hB : B ≤ w.heap.size) (hok : lOk ls = true) :
    Calls Try.prog 55 #[.slice a ls.length cap] w fun e w' => ∃ b, e = .returned (.map (some b)) ∧ w.heap.size ≤ b ∧ MapAt w' b ls ∧ Below w.heap.size w w' := by
  have hr := lOk_range hok
  have HI := hidden hz
  have K3 := hidden (fun W h h2 => codesOf_any a cap B ls W h h2 hok)
  have HLN : Hid (∀ s, s < ls.length → ls.getD s 0 = (lnF ls s : Int) ∧ 1 ≤ lnF ls s ∧ lnF ls s ≤ 20) := hidden (fun s hs => ⟨lnF_int hr s hs, lRange_ln hr s hs⟩)
  have HLT := hidden (fun s hs => cdF_lt20 hok s hs)
  obtain ⟨b, off, rfl, hb, hc⟩ := hz.2.2 hr.1
  have HC := hidden hc
  have HMA : Hid (∀ W b, (∃ n, W.ownsMap Try.prog 90 (plainElem (H := Unit) Try.prog 3) b n (mapD (cdF ls) (lnF ls) ls.length)) → MapAt W b ls) := hidden (fun W b h => h)
  obtain ⟨cd, hcd⟩ : ∃ cd, cdF ls = cd := ⟨_, rfl⟩
  obtain ⟨l, hl⟩ : ∃ l, lnF ls = l := ⟨_, rfl⟩
  obtain ⟨n, hn⟩ : ∃ n, ls.length = n := ⟨_, rfl⟩
  have hn1 : 1 ≤ n := by rw [← hn]; exact hr.1
  have hn2 : n ≤ 260 := by rw [← hn]; exact hr.2.1
  rw [hcd] at K3 HLT HMA
  rw [hl] at HLN HMA
  rw [hn] at K3 HLN HLT HC HMA ⊢
  have hbw : b < w.heap.size := by omega
  have hmm := run_makeHint
  clear hz hr hn hc hok hcd hl
  go_enter Try.func55, Try.ntmps55
  go_wp2_with fail
  refine (K3.out _ (HI.out.below (((Below.refl w.heap.size w).alloc (Nat.le_refl _) _).mono hB)) (by simp; omega)).mono ?_
  rintro e w1 ⟨v, rfl, hown, b1⟩
  have hs1 := b1.size
  simp at hs1
  obtain ⟨gc, cc, hv⟩ := Joins.ownsRow_form hown (by omega)
  subst hv
  have hgc := hown.lt gc rfl
  simp at hgc
  have bb : Below w.heap.size w w1 := ((Below.refl w.heap.size w).alloc (Nat.le_refl _) (.map #[] 0)).trans (b1.mono (by simp))
  have hM : w1.ownsMap Try.prog 90 (plainElem (H := Unit) Try.prog 3) w.heap.size 0 (mapD cd l 0) :=
    (World.ownsMap_made w Try.prog 90 (plainElem (H := Unit) Try.prog 3)).kept (row := none) ⟨b1.os, b1.tape, b1.output, b1.size, fun i hi _ => b1.block i hi⟩ (by simp)
  have HO := hidden hown
  clear hown b1 hmm
  go_wp2
  go_loopw [4, 5, 12] (fun _ _ si wr => ∃ k : Nat, k ≤ n ∧ si = .int .i64 k ∧ wr.ownsMap Try.prog 90 (plainElem (H := Unit) Try.prog 3) w.heap.size k (mapD cd l k) ∧ Below w.heap.size w wr ∧ Hid (∀ o u, w1.cell? ⟨gc, o, none⟩ = some u → wr.cell? ⟨gc, o, none⟩ = some u)) (fun _ _ si _ => n - (intOf si).toNat)
  case atStart => exact ⟨0, by omega, rfl, hM, bb, hidden fun o u h => h⟩
  case round =>
    obtain ⟨k, hk, rfl, hown, hbl, HG⟩ := hrel
    by_cases hlt : k < n
    · have c1 := HG.out _ _ ((HO.out.cellAt k (by omega)).trans (nats_get _ _ k hlt))
      have hln := HLN.out k hlt
      have hcl := HLT.out k hlt
      have c2 := (hbl.cell (p := ⟨b, off + k, none⟩) hbw).trans (HC.out k hlt)
      rw [hln.1] at c2
      have HST : Hid ((mapD cd l k).put (keyL (cd k) (l k)) (.lit (.int .i64 (k : Int))) = mapD cd l (k + 1)) := hidden rfl
      obtain ⟨c, hc⟩ : ∃ c, cd k = c := ⟨_, rfl⟩
      obtain ⟨y, hy⟩ : ∃ y, l k = y := ⟨_, rfl⟩
      rw [hc] at c1 hcl HST
      rw [hy] at c2 hln HST
      have hkey := key_code c y (by omega) (by omega)
      have hyr := hln.2
      clear hln hc hy
      go_wp2_with (at_mapUpdate; refine wpList_mapUpdate_own _ rfl _ _ _ 71 rfl 90 3 codeLaw Try.underlying71 _ w.heap.size k _ rfl hown (by unfold maxLen; omega) _ _ _ rfl rfl hkey _ [] (plainElem_int Try.underlying3 (WalkArith.wf_i64 (by omega))) ?_; intro w2 hown2 hgrow2)
      go_roundw
      case rel => exact ⟨k + 1, by omega, by go_num, by rw [← HST.out]; exact hown2, hbl.grown hgrow2 hbl.size (fun j hj => by cases hj; exact Nat.le_refl _), hidden fun o u h => hgrow2.cell (HG.out o u h) (by simp; omega)⟩
      case measure => simp [intOf]; omega
    · have e : k = n := by omega
      subst e
      go_wp2
      go_ret
      exact ⟨_, rfl, Nat.le_refl _, HMA.out _ _ ⟨_, hown⟩, hbl⟩
end Go.Proofs.Ytdfbpmkdmpdobaa
