/- Texts of one reach, one behind the other: Dr3. What each is about stands in its theorems. -/
import Derived.Test.YtdfbpmkdmpdobaaG11
import Derived.Deep.DeepCutAuto
import Derived.Deep.RegionWith
namespace Go.Proofs.Ytdfbpmkdmpdobaa
set_option linter.unusedVariables false
set_option linter.unusedSimpArgs false
open Go.RowKit

set_option maxRecDepth 100000 in
set_option maxHeartbeats 2000000 in
theorem l1rd_any (g B : Nat) (w : World) (hc : Cur w g B) :
    Calls Try.prog 68 #[.pointer (some ⟨g, 0, none⟩)] w fun e w' => ∃ (s : ByteArray) (a : Int), e = .returned (.agg #[.string s, .int .i64 a]) ∧ s.size ≤ 11 ∧ -1 ≤ a ∧ a ≤ 100 ∧ Cur w' g B ∧ Only g w w' := by
  have hgl := hc.lt
  have hR := Has.fresh w 37 #[.string ⟨#[]⟩, .int .i64 0]
  have hO0 := (Only.refl g w).alloc (.cells #[.string ⟨#[]⟩, .int .i64 0] 37)
  have hc0 := hc.alloc (.cells #[.string ⟨#[]⟩, .int .i64 0] 37)
  go_enter Try.func68, Try.ntmps68
  go_wp2_with fail
  refine (l1Below_any g B _ _ hc0 (by omega)).mono ?_
  rintro e wa ⟨r, rfl, hr0, hr1, _, ha, Oa⟩
  have hr8 : r ≤ 8 := by have := hr1 (by omega); omega
  have hRa := Oa.has hR (by omega)
  go_wp2_with fail
  refine (l1wild_any g B _ _ ha (by omega)).mono ?_
  rintro e wb ⟨s, rfl, hs, hb, Ob⟩
  have hRb := Ob.has hRa (by omega)
  go_wp2_with fail
  refine (l1Once_any g B _ _ hb (by omega)).mono ?_
  rintro e wc ⟨b1, rfl, hcc, Oc⟩
  have hRc := Oc.has hRb (by omega)
  have OC := ((hO0.trans_ Oa).trans_ Ob).trans_ Oc
  clear hR hRa hRb Oa Ob Oc hc0 hO0 ha hb
  go_upto_if 10 with fail
  go_cut [3] (fun s3 wx => ∃ s2 : ByteArray, s3 = .string s2 ∧ s2.size ≤ 11 ∧ wx = wc)
  case first =>
    cases b1
    · go_wp2
      go_meet
      case rel => exact ⟨s, rfl, by omega, rfl⟩
    · go_wp2
      go_meet
      case rel => exact ⟨_, rfl, by rw [ByteArray.size_append]; show _ + 3 ≤ 11; omega, rfl⟩
  case rest =>
    obtain ⟨s2, rfl, hs2, rfl⟩ := hcut
    go_wp2_with fail
    refine (l1Below_any g B _ _ hcc (by omega)).mono ?_
    rintro e wd ⟨a, rfl, ha0, ha1, _, hd, Od⟩
    have ha9 : a ≤ 89 := by have := ha1 (by omega); omega
    clear ha1
    have hRd := Od.has hRc (by omega)
    have hX := Has.fresh wd 37 #[.string s2, .int .i64 a]
    have hRd' := hRd.alloc (.cells #[.string s2, .int .i64 a] 37)
    have hd' := hd.alloc (.cells #[.string s2, .int .i64 a] 37)
    have OD := (OC.trans_ Od).alloc (.cells #[.string s2, .int .i64 a] 37)
    have hsd : w.heap.size < wd.heap.size := hRd.lt
    go_wp2_with fail
    refine (l1Once_any g B _ _ hd' (by omega)).mono ?_
    rintro e we ⟨b2, rfl, he, Oe⟩
    have hRe := Oe.has hRd' (by omega)
    have hXe := Oe.has hX (by omega)
    have OE := OD.trans_ Oe
    clear hRd hRd' hX hd hd' OD Oe OC Od
    have hse : wd.heap.size < we.heap.size := hXe.lt
    go_upto_if 22 with fail
    go_cut [] (fun wx => ∃ a' : Int, -1 ≤ a' ∧ a' ≤ 100 ∧ Has wx wd.heap.size 37 #[.string s2, .int .i64 a'] ∧ Has wx w.heap.size 37 #[.string ⟨#[]⟩, .int .i64 0] ∧ Cur wx g B ∧ Only g w wx)
    case first =>
      cases b2
      · go_wp2
        go_meet
        case rel => exact ⟨a, by omega, by omega, hXe, hRe, he, OE⟩
      · have hz : ∀ j, j < 3 → (we.alloc (.cells #[.int .i64 (-1), .int .i64 (8 * (s2.size : Int)), .int .i64 (8 * (s2.size : Int) + 1)] 3)).cell? ⟨we.heap.size, j, none⟩ = some (.int .i64 ([-1, 8 * (s2.size : Int), 8 * (s2.size : Int) + 1].getD j 0)) := by
          intro j hj
          have hh := (Has.fresh we 3 #[.int .i64 (-1), .int .i64 (8 * (s2.size : Int)), .int .i64 (8 * (s2.size : Int) + 1)]).cell j
          rw [hh]
          match j, hj with
          | 0, _ => rfl
          | 1, _ => rfl
          | 2, _ => rfl
        have he' := he.alloc (.cells #[.int .i64 (-1), .int .i64 (8 * (s2.size : Int)), .int .i64 (8 * (s2.size : Int) + 1)] 3)
        have hpk := l1PickInt_any g B we.heap.size 3 3 _ _ he' (by omega) (by omega) (by omega) hz
        clear hz
        go_wp2_with fail
        refine hpk.mono ?_
        rintro e wf ⟨j, hj, rfl, hf, Of⟩
        have hXf := Of.has (hXe.alloc (.cells #[.int .i64 (-1), .int .i64 (8 * (s2.size : Int)), .int .i64 (8 * (s2.size : Int) + 1)] 3)) (by omega)
        have hRf := Of.has (hRe.alloc (.cells #[.int .i64 (-1), .int .i64 (8 * (s2.size : Int)), .int .i64 (8 * (s2.size : Int) + 1)] 3)) (by omega)
        obtain ⟨q, hq⟩ : ∃ q : Int, q = [-1, 8 * (s2.size : Int), 8 * (s2.size : Int) + 1].getD j 0 := ⟨_, rfl⟩
        have hqb : -1 ≤ q ∧ q ≤ 100 := by
          match j, hj with
          | 0, _ => simp at hq; omega
          | 1, _ => simp at hq; omega
          | 2, _ => simp at hq; omega
        rw [← hq]
        have x1 := hXf.cell 1
        have x2 := hXf.free 1
        simp at x1
        clear hq hpk
        go_wp2
        go_meet
        case rel => exact ⟨q, hqb.1, hqb.2, by simpa using hXf.store 1 (.int .i64 q), hRf.storeAway (p := ⟨wd.heap.size, 1, none⟩) (by simp; omega) _, hf.store (p := ⟨wd.heap.size, 1, none⟩) (by simp; omega) _, ((OE.alloc _).trans_ Of).store (p := ⟨wd.heap.size, 1, none⟩) (.inr (by simp; omega)) _⟩
    case rest =>
      obtain ⟨a', h1, h2, hX', hR', hC', hO'⟩ := hcut
      have x0 := hX'.cell 0
      have x1 := hX'.cell 1
      have e0 := hR'.cell 0
      have e1 := hR'.cell 1
      have g0 := hR'.free 0
      have g1 := hR'.free 1
      simp at x0 x1 e0 e1
      go_wp2
      refine bodyPost_ret (v := .agg #[.string s2, .int .i64 a']) (by simp [results, Try.results68, go_sem, x0, x1, e0, e1, g0, g1]) rfl ⟨s2, a', rfl, hs2, h1, h2, (hC'.store (p := ⟨w.heap.size, 0, none⟩) (by simp; omega) _).store (p := ⟨w.heap.size, 1, none⟩) (by simp; omega) _, (hO'.store (p := ⟨w.heap.size, 0, none⟩) (.inr (by simp)) _).store (p := ⟨w.heap.size, 1, none⟩) (.inr (by simp)) _⟩
end Go.Proofs.Ytdfbpmkdmpdobaa
