/- Texts of the proof, merged. -/
import Derived.Laws.CopyOwn
import Derived.Maps.AppendAt
import Derived.Test.YtembljihmnmmfaaGreatKS4
namespace Go.Proofs.YtembljihmnmmfaaGreat
set_option linter.unusedVariables false
set_option linter.unusedSimpArgs false
open Go.RowKit

/-- The cells cs of a slice that lies at a, in a block below B (or is empty). -/
def Lies (w : World) (B : Nat) (a : Option Addr) (cs : List Value) : Prop :=
  0 < cs.length → ∃ b off, a = some ⟨b, off, none⟩ ∧ b < B ∧ ∀ i, i < cs.length → w.cell? ⟨b, off + i, none⟩ = cs[i]?
theorem Lies.below {w w' : World} {B : Nat} {a : Option Addr} {cs : List Value} (h : Lies w B a cs) (hb : Below B w w') : Lies w' B a cs := fun h0 => by
  obtain ⟨b, off, e, hB, hc⟩ := h h0
  exact ⟨b, off, e, hB, fun i hi => (hb.cell (p := ⟨b, off + i, none⟩) hB).trans (hc i hi)⟩
theorem Lies.mono {w : World} {B B' : Nat} {a : Option Addr} {cs : List Value} (h : Lies w B a cs) (hB : B ≤ B') : Lies w B' a cs := fun h0 => by
  obtain ⟨b, off, e, hb, hc⟩ := h h0
  exact ⟨b, off, e, by omega, hc⟩
theorem Lies.nil (w : World) (B : Nat) (a : Option Addr) : Lies w B a [] := fun h => by simp at h
theorem Lies.own {w : World} {base n c S : Nat} {a : Option Addr} {E : TypeId} {cs : List Value} (h : w.ownsRow base E S (.slice a n c) n cs) : Lies w w.heap.size a cs := fun h0 => by
  have hl := h.1
  rcases h.2 with ⟨hv, hn0⟩ | ⟨g, cap, cur, hv, _⟩
  · rw [hn0, Nat.zero_mul] at hl; omega
  · simp only [Value.slice.injEq] at hv
    obtain ⟨rfl, _, rfl⟩ := hv
    exact ⟨g, 0, rfl, (h.lt g rfl).2, fun i hi => by rw [Nat.zero_add]; exact h.cellAt i (by omega)⟩
theorem Lies.take {w : World} {B : Nat} {a : Option Addr} {cs : List Value} (h : Lies w B a cs) (k : Nat) : Lies w B a (cs.take k) := fun h0 => by
  rw [List.length_take] at h0
  obtain ⟨b, off, e, hB, hc⟩ := h (by omega)
  refine ⟨b, off, e, hB, fun i hi => ?_⟩
  rw [List.length_take] at hi
  rw [List.getElem?_take, if_pos (by omega)]
  exact hc i (by omega)
theorem Lies.drop {w : World} {B b off : Nat} {cs : List Value} (h : Lies w B (some ⟨b, off, none⟩) cs) (k : Nat) : Lies w B (some ⟨b, off + k, none⟩) (cs.drop k) := fun h0 => by
  rw [List.length_drop] at h0
  obtain ⟨b', off', e, hB, hc⟩ := h (by omega)
  injection e with e
  injection e with e1 e2
  subst e1 e2
  refine ⟨b, off + k, rfl, hB, fun i hi => ?_⟩
  rw [List.length_drop] at hi
  rw [List.getElem?_drop, Nat.add_assoc]
  exact hc (k + i) (by omega)
theorem Lies.news {w : World} {B : Nat} {ad : Addr} {cs : List Value} (h : Lies w B (some ad) cs) : ∀ (j : Nat) (u : Value), cs[j]? = some u → w.cell? (ad.add j) = some u := by
  intro j u hu
  have hj := (List.getElem?_eq_some_iff.1 hu).1
  obtain ⟨b, off, e, hB, hc⟩ := h (by omega)
  injection e with e
  subst e
  have e : (⟨b, off, none⟩ : Addr).add j = ⟨b, off + j, none⟩ := by unfold Addr.add; split <;> simp_all
  rw [e, hc j hj, hu]
theorem Lies.ex {w : World} {B : Nat} {a : Option Addr} {cs : List Value} (h : Lies w B a cs) (h0 : 0 < cs.length) : ∃ b off, a = some ⟨b, off, none⟩ ∧ b < B := by
  obtain ⟨b, off, e, hB, _⟩ := h h0
  exact ⟨b, off, e, hB⟩
theorem Lies.cell {w : World} {B b off : Nat} {cs : List Value} (h : Lies w B (.some ⟨b, off, none⟩) cs) (i : Nat) (hi : i < cs.length) : w.cell? ⟨b, off + i, none⟩ = cs[i]? := by
  obtain ⟨b', off', e, hB, hc⟩ := h (by omega)
  injection e with e
  injection e with e1 e2
  subst e1 e2
  exact hc i hi

/-- 'copy' where elements have S cells. -/
theorem run_copy_rowS {P : Program} (w : World) (dT sT ty elem : TypeId) (S g o dLen dCap : Nat) (a : Addr) (sLen sCap : Nat) (cur : Array Value) (t : TypeId) (cs : List Value)
    (hu : P.underlying dT = some (.slice elem)) (hs : (P.info? elem).map (·.size) = some S)
    (hg : w.heap[g]? = some (.cells cur t (0, 0))) (hn : cs.length = Nat.min sLen dLen * S)
    (hsrc : ∀ j v, cs[j]? = some v → w.cell? (a.add j) = some v) (hfit : o + cs.length ≤ cur.size) (h1 : ∀ v ∈ cs, v.oneCell' = true) :
    (Builtin.copy_ #[dT, sT] ty #[.slice (some ⟨g, o, none⟩) dLen dCap, .slice (some a) sLen sCap]).run P w =
      .ok (goInt (Nat.min sLen dLen)) (w.setRow g (cur.toList.take o ++ cs ++ cur.toList.drop (o + cs.length)).toArray) := by
  have hl := run_loadCells_list (P := P) w a cs hsrc
  have hst := run_storeCells_at P g o t cs 0 cur w hg (by simpa using hfit) h1
  cases hq : P.info? elem with
  | none => simp [hq] at hs
  | some i =>
    have hi : i.size = S := by simpa [hq] using hs
    simp [Builtin.copy_, run_underlying hu, Builtin.lenOf, Builtin.firstCells, sizeOf, typeInfo, hq, hi, ← hn, hl, hst]
theorem run_copy_noneS {P : Program} (w : World) (dT sT ty elem : TypeId) (S : Nat) (d a : Option Addr) (dLen dCap sLen sCap : Nat) (hu : P.underlying dT = some (.slice elem)) (hs : (P.info? elem).map (·.size) = some S) (hn : Nat.min sLen dLen = 0) :
    (Builtin.copy_ #[dT, sT] ty #[.slice d dLen dCap, .slice a sLen sCap]).run P w = .ok (goInt 0) w := by
  cases hq : P.info? elem with
  | none => simp [hq] at hs
  | some i =>
    have hl : ∀ (x : Addr), (loadCells x 0).run P w = .ok #[] w := fun x => by simpa using run_loadCells_list (P := P) w x [] (by simp)
    cases d <;> cases a <;> simp [Builtin.copy_, run_underlying hu, Builtin.lenOf, Builtin.firstCells, sizeOf, typeInfo, hq, hn, storeCells, hl]
/-- 'copy' of n elements over a row of n of the call's own. -/
theorem run_copy_whole {P : Program} (w : World) (dT sT ty elem : TypeId) (hu : P.underlying dT = some (.slice elem)) (S : Nat) (hsz : (P.info? elem).map (·.size) = some S) (hS : 0 < S)
    (base g n c sc B : Nat) (sp : Option Addr) (xs : List Value) (hown : w.ownsRow base elem S (.slice (some ⟨g, 0, none⟩) n c) n xs)
    (news : List Value) (hl : news.length = n * S) (hsrc : Lies w B sp news) (h1 : ∀ u ∈ news, u.oneCell' = true) :
    ∃ w', (Builtin.copy_ #[dT, sT] ty #[.slice (some ⟨g, 0, none⟩) n c, .slice sp n sc]).run P w = .ok (goInt n) w' ∧ w'.ownsRow base elem S (.slice (some ⟨g, 0, none⟩) n c) n news ∧ w.grownBy w' (some g) := by
  rcases Nat.eq_zero_or_pos n with h0 | h0
  · subst h0
    have hrun := run_copy_noneS (P := P) w dT sT ty elem S (some ⟨g, 0, none⟩) sp 0 c 0 sc hu hsz (Nat.min_self 0)
    have hnews : news = [] := List.eq_nil_of_length_eq_zero (by omega)
    have hxs : xs = [] := List.eq_nil_of_length_eq_zero (by have := hown.1; omega)
    subst hnews hxs
    exact ⟨w, hrun, hown, World.grownBy.refl _ _⟩
  · have hpos : 0 < news.length := by rw [hl]; exact Nat.mul_pos h0 hS
    obtain ⟨b, off, rfl, hB⟩ := hsrc.ex hpos
    rcases hown.2 with ⟨hv, _⟩ | ⟨g', cap, cur, hv, hb, hcur, hnc, hcm, hcs, htk⟩
    · cases hv
    · simp only [Value.slice.injEq, Option.some.injEq, Addr.mk.injEq] at hv
      obtain ⟨⟨rfl, _⟩, _, rfl⟩ := hv
      have hns : n * S ≤ c * S := Nat.mul_le_mul_right _ hnc
      have hmin : Nat.min n n = n := Nat.min_self n
      have hrun := run_copy_rowS (P := P) w dT sT ty elem S g 0 n c ⟨b, off, none⟩ n sc cur elem news hu hsz hcur (by rw [hmin]; exact hl) hsrc.news (by rw [hcs, hl]; omega) h1
      rw [hmin] at hrun
      refine ⟨_, hrun, ⟨hl, .inr ⟨g, c, _, rfl, hb, setRow_heap w g cur _ elem _ hcur, hnc, hcm, ?_, ?_⟩⟩, ⟨rfl, rfl, rfl, by simp [World.setRow], fun k hk hne => setRow_other w g k _ (fun e => hne (by rw [e]))⟩⟩
      · simp [hl, hcs]; omega
      · simp [hl]
end Go.Proofs.YtembljihmnmmfaaGreat
