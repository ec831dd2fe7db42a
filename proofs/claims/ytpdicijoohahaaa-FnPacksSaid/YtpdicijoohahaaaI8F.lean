/- Chapter 8, the program: the front list. -/
import Derived.Test.YtpdicijoohahaaaI8L
namespace Go.Proofs.Ytpdicijoohahaaa
set_option linter.unusedVariables false
set_option linter.unusedSimpArgs false
open Go.RowKit

set_option maxHeartbeats 1000000 in
set_option maxRecDepth 100000 in
theorem bring_walk (h bb x s : Nat) (pB p1 : Option Addr) (w : World) (c1 : w.cell? ⟨bb, 1, none⟩ = some (.pointer (some ⟨x, 0, none⟩))) (c2 : w.cell? ⟨x, 1, none⟩ = some (.pointer pB)) (c3 : w.cell? ⟨x, 0, none⟩ = some (.int .i64 (s : Int)))
    (c4 : bb ≠ h → w.cell? ⟨h, 1, none⟩ = some (.pointer p1)) (c5 : bb = h → p1 = pB) (hxh : x ≠ h) (hxb : x ≠ bb)
    (f1 : w.frozen? ⟨bb, 1, none⟩ = false) (f2 : w.frozen? ⟨x, 1, none⟩ = false) (f3 : w.frozen? ⟨h, 1, none⟩ = false) :
    Calls Try.prog 99 #[.pointer (some ⟨h, 0, none⟩), .pointer (some ⟨bb, 0, none⟩)] w fun e w' => e = .returned (.int .i64 (s : Int)) ∧
      w' = ((w.setCell ⟨bb, 1, none⟩ (.pointer pB)).setCell ⟨x, 1, none⟩ (.pointer p1)).setCell ⟨h, 1, none⟩ (.pointer (some ⟨x, 0, none⟩)) := by
  by_cases e : bb = h
  · subst e
    obtain rfl := c5 rfl
    go_enter Try.func99, Try.ntmps99
    go_wp2
    go_ret
    exact ⟨rfl, rfl⟩
  · have c6 := c4 e
    have e2 : ¬ h = bb := fun q => e q.symm
    have e3 : ¬ h = x := fun q => hxh q.symm
    have e4 : ¬ bb = x := fun q => hxb q.symm
    go_enter Try.func99, Try.ntmps99
    go_wp2
    go_ret
    exact ⟨rfl, rfl⟩
theorem bringForward_any (base E h k : Nat) (c : List (Nat × Nat)) (r : List Nat) (w : World) (hF : FLc w base E h c r) (hk : k < r.length) :
    Calls Try.prog 99 #[.pointer (some ⟨h, 0, none⟩), .pointer (some ⟨blk h c k, 0, none⟩)] w fun e w' => e = .returned (.int .i64 ((r.getD k 0 : Nat) : Int)) ∧ FL w' base E h (frontL r k) ∧ Mid base E w w' := by
  have hl : c.length = r.length := by rw [← hF.row]; simp
  have hkc : k < c.length := by omega
  obtain ⟨A, x, B, hc, hA⟩ : ∃ A x B, c = A ++ x :: B ∧ A.length = k := ⟨c.take k, c[k], c.drop (k + 1), by rw [← List.drop_eq_getElem_cons hkc, List.take_append_drop], by rw [List.length_take]; omega⟩
  subst hA
  subst hc
  obtain ⟨p1, c1, c2, c3, c4, c5, n1, n2, f1, f2, f3, hm, hs⟩ := seg_bring hF.seg hF.nodup
  have hx2 : r.getD A.length 0 = x.2 := by rw [← hF.row]; simp [List.getD_eq_getElem?_getD]
  rw [hx2]
  refine (bring_walk h _ x.1 x.2 (hdP B none) p1 w c1 c2 c3 c4 c5 n1 n2 f1 f2 f3).mono ?_
  rintro e w' ⟨rfl, rfl⟩
  have hxm : x.1 ∈ h :: (A ++ x :: B).map Prod.fst := by simp
  have hhm : h ∈ h :: (A ++ x :: B).map Prod.fst := List.mem_cons_self ..
  have l1 := hF.lies _ hm
  have l2 := hF.lies _ hxm
  have l3 := hF.lies _ hhm
  refine ⟨rfl, ⟨x :: (A ++ B), ?_, ?_, ?_, hs⟩, (((Mid.refl base E w).store l1.1 l1.2 _).store l2.1 l2.2 _).store l3.1 l3.2 _⟩
  · unfold frontL
    rw [hx2, ← hF.row, eraseIdx_td]
    simp [List.drop_append]
  · have := hF.nodup
    have hp : (h :: (x :: (A ++ B)).map Prod.fst).Perm (h :: (A ++ x :: B).map Prod.fst) := by
      refine List.Perm.cons _ (List.Perm.map _ ?_)
      exact List.perm_middle.symm
    exact hp.nodup_iff.2 this
  · intro b hb
    apply hF.lies
    simp only [List.map_cons, List.map_append, List.mem_cons, List.mem_append] at hb ⊢
    rcases hb with h1 | h1 | h1 | h1
    · exact .inl h1
    · exact .inr (.inr (.inl h1))
    · exact .inr (.inl h1)
    · exact .inr (.inr (.inr h1))
set_option maxHeartbeats 1000000 in
set_option maxRecDepth 100000 in
theorem rankOf_any (base E h n x : Nat) (r : List Nat) (w : World) (hF : FL w base E h r) (hP : PermN n r) (hn : n ≤ 256) (hx : x < n) :
    Calls Try.prog 98 #[.pointer (some ⟨h, 0, none⟩), .int .i64 x] w fun e w' => e = .returned (.int .i64 ((mtfF r x).1 : Int)) ∧ FL w' base E h (mtfF r x).2 ∧ Mid base E w w' := by
  obtain ⟨c, hF⟩ := hF
  have HF := hidden hF
  have HL := hidden hP.len
  have hkn := hP.idx hx
  have HIA := hidden (idx_at r ((hP.mem x).2 hx))
  have HIF := hidden (idx_first r x)
  have HB := hidden (fun k hk => bringForward_any base E h k c r w hF hk)
  have HZ := hidden (blk_zero h c)
  rw [show mtfF r x = (r.idxOf x, frontL r (r.idxOf x)) from rfl]
  obtain ⟨k, hk⟩ : ∃ k, r.idxOf x = k := ⟨_, rfl⟩
  rw [hk] at hkn HIA HIF ⊢
  have HN := hidden hF.node
  clear hF hk
  go_enter Try.func98, Try.ntmps98
  go_wp2
  go_loopw [5, 6] (fun sj sb wr => ∃ j : Nat, j ≤ k ∧ sj = .int .i64 j ∧ sb = .pointer (some ⟨blk h c j, 0, none⟩) ∧ w = wr) (fun sj _ _ => k - (intOf sj).toNat)
  case atStart => exact ⟨0, by omega, rfl, by rw [HZ.out], by first | trivial | rfl⟩
  case round =>
    obtain ⟨j, hj, rfl, rfl, rfl⟩ := hrel
    obtain ⟨d1, d2⟩ := HN.out j (by rw [HL.out]; omega)
    by_cases hlt : j < k
    · have hne := HIF.out j hlt
      obtain ⟨y, hy⟩ : ∃ y, r.getD j 0 = y := ⟨_, rfl⟩
      obtain ⟨b1, hb1⟩ : ∃ b, blk h c (j + 1) = b := ⟨_, rfl⟩
      obtain ⟨b0, hb0⟩ : ∃ b, blk h c j = b := ⟨_, rfl⟩
      rw [hy] at d2 hne
      rw [hb1] at d1 d2
      rw [hb0] at d1 ⊢
      have HB1 := hidden hb1
      have hneI : ((y : Int) != (x : Int)) = true := by rw [bne_iff_ne]; omega
      clear hy hb1 hb0
      go_wp2
      go_roundw
      case rel => exact ⟨j + 1, by omega, by go_num, by rw [HB1.out], by first | trivial | rfl⟩
      case measure => simp [intOf]; omega
    · have hjk : j = k := by omega
      subst hjk
      have KB := hidden (HB.out j (by rw [HL.out]; exact hkn))
      rw [HIA.out] at d2 KB
      obtain ⟨b1, hb1⟩ : ∃ b, blk h c (j + 1) = b := ⟨_, rfl⟩
      obtain ⟨b0, hb0⟩ : ∃ b, blk h c j = b := ⟨_, rfl⟩
      rw [hb1] at d1 d2
      rw [hb0] at d1 KB ⊢
      have hneI : ((x : Int) != (x : Int)) = false := by simp
      clear hb1 hb0
      go_wp2_with fail
      refine KB.out.mono ?_
      rintro e w3 ⟨rfl, hF3, hm3⟩
      go_wp2
      go_ret
      exact ⟨rfl, hF3, hm3⟩
set_option maxHeartbeats 1000000 in
set_option maxRecDepth 100000 in
theorem symbolAt_any (base E h n k : Nat) (r : List Nat) (w : World) (hF : FL w base E h r) (hP : PermN n r) (hn : n ≤ 256) (hkn : k < n) :
    Calls Try.prog 97 #[.pointer (some ⟨h, 0, none⟩), .int .i64 k] w fun e w' => e = .returned (.int .i64 ((umtF r k).1 : Int)) ∧ FL w' base E h (umtF r k).2 ∧ Mid base E w w' := by
  obtain ⟨c, hF⟩ := hF
  have HL := hidden hP.len
  have HB := hidden (bringForward_any base E h k c r w hF (by rw [hP.len]; exact hkn))
  have HZ := hidden (blk_zero h c)
  rw [show umtF r k = (r.getD k 0, frontL r k) from rfl]
  have HN := hidden hF.node
  obtain ⟨y, hy⟩ : ∃ y, r.getD k 0 = y := ⟨_, rfl⟩
  rw [hy] at HB ⊢
  clear hF hy
  go_enter Try.func97, Try.ntmps97
  go_wp2
  go_loopw [5, 10] (fun sb sj wr => ∃ j : Nat, j ≤ k ∧ sj = .int .i64 j ∧ sb = .pointer (some ⟨blk h c j, 0, none⟩) ∧ w = wr) (fun _ sj _ => k - (intOf sj).toNat)
  case atStart => exact ⟨0, by omega, rfl, by rw [HZ.out], by first | trivial | rfl⟩
  case round =>
    obtain ⟨j, hj, rfl, rfl, rfl⟩ := hrel
    by_cases hlt : j < k
    · obtain ⟨d1, _⟩ := HN.out j (by rw [HL.out]; omega)
      obtain ⟨b1, hb1⟩ : ∃ b, blk h c (j + 1) = b := ⟨_, rfl⟩
      obtain ⟨b0, hb0⟩ : ∃ b, blk h c j = b := ⟨_, rfl⟩
      rw [hb1, hb0] at d1
      rw [hb0]
      have HB1 := hidden hb1
      clear hb1 hb0
      go_wp2
      go_roundw
      case rel => exact ⟨j + 1, by omega, by go_num, by rw [HB1.out], by first | trivial | rfl⟩
      case measure => simp [intOf]; omega
    · have hjk : j = k := by omega
      subst hjk
      go_wp2_with fail
      refine HB.out.mono ?_
      rintro e w3 ⟨rfl, hF3, hm3⟩
      go_wp2
      go_ret
      exact ⟨rfl, hF3, hm3⟩
end Go.Proofs.Ytpdicijoohahaaa
