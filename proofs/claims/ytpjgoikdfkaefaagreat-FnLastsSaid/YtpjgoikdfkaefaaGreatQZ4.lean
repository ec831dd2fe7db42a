/- Merged: Mrg, Suf. -/
import Derived.Test.YtpjgoikdfkaefaaGreatQZ1
import Derived.WalkKit
import GoSem.Op.String
namespace Go.Proofs.YtpjgoikdfkaefaaGreat
set_option linter.unusedVariables false
set_option linter.unusedSimpArgs false

/-- Two lists merged; of equal ones the first list's come first. -/
def mrg {α : Type} (lt : α → α → Bool) : List α → List α → List α
  | [], M => M
  | x :: L, [] => x :: L
  | x :: L, y :: M => if lt y x = true then y :: mrg lt (x :: L) M else x :: mrg lt L (y :: M)
termination_by L M => L.length + M.length
theorem mrg_nil {α : Type} (lt : α → α → Bool) (M : List α) : mrg lt [] M = M := by rw [mrg]
theorem mrg_nil' {α : Type} (lt : α → α → Bool) (L : List α) : mrg lt L [] = L := by cases L <;> rw [mrg]
theorem mrg_perm {α : Type} (lt : α → α → Bool) (L M : List α) : (mrg lt L M).Perm (L ++ M) := by
  induction L, M using mrg.induct (lt := lt) with
  | case1 M => rw [mrg_nil]; exact List.Perm.refl _
  | case2 x L => rw [mrg_nil', List.append_nil]
  | case3 x L y M h ih => rw [mrg, if_pos h]; exact (ih.cons y).trans List.perm_middle.symm
  | case4 x L y M h ih => rw [mrg, if_neg h]; exact ih.cons x
theorem mrg_len {α : Type} (lt : α → α → Bool) (L M : List α) : (mrg lt L M).length = L.length + M.length := by rw [(mrg_perm lt L M).length_eq, List.length_append]
theorem mrg_b {α : Type} (lt : α → α → Bool) (L M : List α) (i j : Nat) (hi : i < L.length) (hj : j < M.length) (h : lt M[j] L[i] = true) : mrg lt (L.drop i) (M.drop j) = M[j] :: mrg lt (L.drop i) (M.drop (j + 1)) := by
  rw [← List.getElem_cons_drop (h := hi), ← List.getElem_cons_drop (h := hj), mrg, if_pos h]
theorem mrg_a {α : Type} (lt : α → α → Bool) (L M : List α) (i j : Nat) (hi : i < L.length) (hj : j < M.length) (h : lt M[j] L[i] = false) : mrg lt (L.drop i) (M.drop j) = L[i] :: mrg lt (L.drop (i + 1)) (M.drop j) := by
  rw [← List.getElem_cons_drop (h := hi), ← List.getElem_cons_drop (h := hj), mrg, if_neg (by rw [h]; decide)]
theorem mrg_end {α : Type} (lt : α → α → Bool) (L M : List α) (i j : Nat) (h : ¬ (i < L.length ∧ j < M.length)) : mrg lt (L.drop i) (M.drop j) = L.drop i ++ M.drop j := by
  rcases Nat.lt_or_ge i L.length with hi | hi
  · rw [List.drop_eq_nil_of_le (show M.length ≤ j by omega), mrg_nil', List.append_nil]
  · rw [List.drop_eq_nil_of_le hi, mrg_nil]; rfl
/-- Sorted by halves. -/
def srt {α : Type} (lt : α → α → Bool) (L : List α) : List α := if L.length < 2 then L else mrg lt (srt lt (L.take (L.length / 2))) (srt lt (L.drop (L.length / 2)))
termination_by L.length
decreasing_by all_goals simp only [List.length_take, List.length_drop]; omega
theorem srt_small {α : Type} (lt : α → α → Bool) (L : List α) (h : L.length < 2) : srt lt L = L := by rw [srt, if_pos h]
theorem srt_big {α : Type} (lt : α → α → Bool) (L : List α) (h : ¬ L.length < 2) : srt lt L = mrg lt (srt lt (L.take (L.length / 2))) (srt lt (L.drop (L.length / 2))) := by rw [srt, if_neg h]
theorem srt_perm {α : Type} (lt : α → α → Bool) (L : List α) : (srt lt L).Perm L := by
  induction L using srt.induct with
  | case1 L h => rw [srt_small lt L h]
  | case2 L h ih1 ih2 =>
    rw [srt_big lt L h]
    refine (mrg_perm _ _ _).trans ((ih1.append ih2).trans ?_)
    rw [List.take_append_drop]
theorem srt_len {α : Type} (lt : α → α → Bool) (L : List α) : (srt lt L).length = L.length := (srt_perm lt L).length_eq

end Go.Proofs.YtpjgoikdfkaefaaGreat
namespace Go.Proofs.YtpjgoikdfkaefaaGreat
set_option linter.unusedVariables false
set_option linter.unusedSimpArgs false

/-- The suffix at a stands ahead of the one at b. -/
def slt (S : List Nat) (a b : Nat) : Prop := S.drop a < S.drop b
def sufB (S : List Nat) (a b : Nat) : Bool := decide (S.drop a < S.drop b)
theorem sufB_iff (S : List Nat) (a b : Nat) : sufB S a b = true ↔ slt S a b := by unfold sufB slt; exact decide_eq_true_iff
theorem slt_irr (S : List Nat) (a : Nat) : ¬ slt S a a := fun h => List.lt_irrefl _ h
theorem slt_trans {S : List Nat} {a b c : Nat} (h : slt S a b) (h2 : slt S b c) : slt S a c := List.lt_trans h h2
theorem slt_asym {S : List Nat} {a b : Nat} (h : slt S a b) : ¬ slt S b a := fun h2 => slt_irr S a (slt_trans h h2)
theorem slt_total {S : List Nat} {a b : Nat} (ha : a ≤ S.length) (hb : b ≤ S.length) (h : a ≠ b) : slt S a b ∨ slt S b a := by
  by_cases h1 : S.drop a < S.drop b
  · exact .inl h1
  · by_cases h2 : S.drop b < S.drop a
    · exact .inr h2
    · have e : S.drop a = S.drop b := List.le_antisymm (List.not_lt.1 h2) (List.not_lt.1 h1)
      have := congrArg List.length e
      rw [List.length_drop, List.length_drop] at this
      omega
/-- R holds the numbers of l, in the suffixes' order. -/
def SufS (S l R : List Nat) : Prop := R.Perm l ∧ R.Pairwise (slt S)
theorem sufS_unique {S l R R2 : List Nat} (h : SufS S l R) (h2 : SufS S l R2) : R = R2 := by
  refine List.Perm.eq_of_pairwise ?_ h.2 h2.2 (h.1.trans h2.1.symm)
  intro a b _ _ h3 h4
  exact absurd h4 (slt_asym h3)
/-- Two rows in order, merged, are in order. -/
theorem mrg_sufS (S : List Nat) : ∀ (A B : List Nat), A.Pairwise (slt S) → B.Pairwise (slt S) → (A ++ B).Nodup → (∀ x ∈ A ++ B, x ≤ S.length) → (mrg (sufB S) A B).Pairwise (slt S)
  | [], B, _, hB, _, _ => by rw [mrg_nil]; exact hB
  | a :: A, [], hA, _, _, _ => by rw [mrg_nil']; exact hA
  | a :: A, b :: B, hA, hB, hn, hl => by
    rw [mrg]
    have hA2 := List.pairwise_cons.1 hA
    have hB2 := List.pairwise_cons.1 hB
    have la : a ≤ S.length := hl a (by simp)
    have lb : b ≤ S.length := hl b (by simp)
    have hne : a ≠ b := by
      rintro rfl
      have := List.nodup_cons.1 (show (a :: (A ++ a :: B)).Nodup from hn)
      exact this.1 (by simp)
    by_cases h : sufB S b a = true
    · rw [if_pos h]
      have hba := (sufB_iff S b a).1 h
      refine List.pairwise_cons.2 ⟨fun x hx => ?_, mrg_sufS S (a :: A) B hA hB2.2 ?_ ?_⟩
      · rcases List.mem_append.1 ((mrg_perm (sufB S) (a :: A) B).mem_iff.1 hx) with hx | hx
        · rcases List.mem_cons.1 hx with rfl | hx
          · exact hba
          · exact slt_trans hba (hA2.1 x hx)
        · exact hB2.1 x hx
      · exact hn.sublist (List.Sublist.append (List.Sublist.refl _) (List.sublist_cons_self b B))
      · exact fun x hx => hl x ((List.Sublist.append (List.Sublist.refl _) (List.sublist_cons_self b B)).subset hx)
    · rw [if_neg h]
      have hab : slt S a b := (slt_total la lb hne).resolve_right fun h2 => h ((sufB_iff S b a).2 h2)
      refine List.pairwise_cons.2 ⟨fun x hx => ?_, mrg_sufS S A (b :: B) hA2.2 hB (List.nodup_cons.1 (show (a :: (A ++ b :: B)).Nodup from hn)).2 fun x hx => hl x (List.mem_cons_of_mem _ hx)⟩
      rcases List.mem_append.1 ((mrg_perm (sufB S) A (b :: B)).mem_iff.1 hx) with hx | hx
      · exact hA2.1 x hx
      · rcases List.mem_cons.1 hx with rfl | hx
        · exact hab
        · exact slt_trans hab (hB2.1 x hx)
  termination_by A B => A.length + B.length
theorem srt_sufS (S : List Nat) : ∀ (n : Nat) (L : List Nat), L.length ≤ n → L.Nodup → (∀ x ∈ L, x ≤ S.length) → SufS S L (srt (sufB S) L) := by
  intro n
  induction n with
  | zero =>
    intro L h _ _
    obtain rfl := List.eq_nil_of_length_eq_zero (Nat.le_zero.1 h)
    exact ⟨srt_perm _ _, by rw [srt_small _ _ (by simp)]; exact List.Pairwise.nil⟩
  | succ n ih =>
    intro L h hn hl
    refine ⟨srt_perm _ _, ?_⟩
    by_cases h2 : L.length < 2
    · rw [srt_small _ _ h2]
      match L, h2 with
      | [], _ => exact List.Pairwise.nil
      | [x], _ => exact List.pairwise_singleton _ _
      | x :: y :: L, h2 => simp at h2; omega
    · rw [srt_big _ _ h2]
      have a := ih (L.take (L.length / 2)) (by rw [List.length_take]; omega) (hn.sublist (List.take_sublist _ _)) (fun x hx => hl x (List.mem_of_mem_take hx))
      have b := ih (L.drop (L.length / 2)) (by rw [List.length_drop]; omega) (hn.sublist (List.drop_sublist _ _)) (fun x hx => hl x (List.mem_of_mem_drop hx))
      have p : (srt (sufB S) (L.take (L.length / 2)) ++ srt (sufB S) (L.drop (L.length / 2))).Perm L := by
        have := a.1.append b.1
        rwa [List.take_append_drop] at this
      exact mrg_sufS S _ _ a.2 b.2 (p.nodup_iff.2 hn) (fun x hx => hl x (p.mem_iff.1 hx))
/-- All suffixes in order. -/
def sufO (S : List Nat) : List Nat := srt (sufB S) (List.range S.length)
theorem sufO_srt (S : List Nat) : SufS S (List.range S.length) (sufO S) := srt_sufS S _ _ (Nat.le_refl _) List.nodup_range (fun x hx => Nat.le_of_lt (List.mem_range.1 hx))
theorem sufO_is {S R : List Nat} (h : SufS S (List.range S.length) R) : R = sufO S := sufS_unique h (sufO_srt S)
theorem sufO_len (S : List Nat) : (sufO S).length = S.length := by unfold sufO; rw [srt_len, List.length_range]
theorem sufO_lt (S : List Nat) : ∀ x ∈ sufO S, x < S.length := fun x hx => by
  have := (sufO_srt S).1.mem_iff.1 hx
  rwa [List.mem_range] at this
theorem bless_eq : ∀ (x y : List UInt8), Op.bytesLess x y = decide (x.map UInt8.toNat < y.map UInt8.toNat)
  | [], [] => by simp [Op.bytesLess]
  | _ :: _, [] => by simp [Op.bytesLess]
  | [], _ :: _ => by simp [Op.bytesLess]
  | a :: x, b :: y => by
    rw [Op.bytesLess, bless_eq x y]
    simp only [List.map_cons, List.cons_lt_cons_iff]
    have e1 : (a < b) = (a.toNat < b.toNat) := by rw [UInt8.lt_iff_toNat_lt]
    have e2 : (a = b) = (a.toNat = b.toNat) := by rw [UInt8.toNat_inj]
    have e3 : (a == b) = decide (a.toNat = b.toNat) := by
      by_cases h : a = b
      · simp [h]
      · have h' : ¬ a.toNat = b.toNat := fun e => h (UInt8.toNat_inj.1 e)
        simp [h, h']
    rw [e3]
    by_cases h1 : a.toNat < b.toNat <;> by_cases h2 : a.toNat = b.toNat <;> by_cases h3 : x.map UInt8.toNat < y.map UInt8.toNat <;> simp [h1, h2, h3, UInt8.lt_iff_toNat_lt]
theorem bytesOf_from (s : ByteArray) (x : Nat) : bytesOf (s.extract x s.size) = (bytesOf s).drop x := by
  unfold bytesOf
  rw [ByteArray.data_extract, Array.toList_extract, List.extract_eq_take_drop, List.map_take, List.map_drop]
  apply List.take_of_length_le
  rw [List.length_drop, List.length_map]
  show s.data.toList.length - x ≤ s.size - x
  exact Nat.le_refl _
theorem str_less (X Y : ByteArray) : Op.bytesLess X.toList Y.toList = decide (bytesOf X < bytesOf Y) := by
  rw [ByteArray.toList_eq, ByteArray.toList_eq, bless_eq]; rfl
theorem suf_less (s : ByteArray) (x y : Nat) : Op.bytesLess (s.extract x s.size).toList (s.extract y s.size).toList = sufB (bytesOf s) x y := by
  rw [str_less, bytesOf_from, bytesOf_from]; rfl
theorem suf_ba : sufO [98, 97] = [1, 0] := by
  refine (sufO_is ⟨by decide, ?_⟩).symm
  refine List.pairwise_cons.2 ⟨fun x hx => ?_, List.pairwise_singleton _ _⟩
  obtain rfl := List.mem_singleton.1 hx
  show [97] < [98, 97]
  decide
end Go.Proofs.YtpjgoikdfkaefaaGreat
