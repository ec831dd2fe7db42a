/- Texts of one reach, one behind the other: C5A, C6A, C6S, I5P, Ask5. What each is about stands in its theorems. -/
import Derived.Test.YtpngomjkapccdaaG5
import Derived.Test.YtpngomjkapccdaaG6
import Derived.Test.YtpngomjkapccdaaG7
import Derived.Test.YtpngomjkapccdaaG4
import Derived.Test.YtpngomjkapccdaaG2
import Derived.Test.YtpngomjkapccdaaG3
import Derived.Test.YtpngomjkapccdaaG14
import Derived.BigQuiet
import Derived.ChangeAlike
import Derived.Deep.QuietTactic
import Derived.OwnWalk
import Derived.RegionTactic
import Derived.Deep.RegionHeld3
namespace Go.Proofs.Ytpngomjkapccdaa
set_option linter.unusedVariables false
set_option linter.unusedSimpArgs false
open Go.RowKit

def AskPutLens : Prop := ∀ (a : Option Addr) (cap B : Nat) (ls : List Int) (w : World), Ints w B a ls → B ≤ w.heap.size → lOk ls = true →
  Calls Try.prog 7 #[.slice a ls.length cap] w fun e w' => ∃ D, Packs D (put5 ls) ∧ e = .returned (.tuple #[.agg #[.string (strOf D), .int .i64 ((put5 ls).length : Int)], .bool true]) ∧ Below w.heap.size w w'
def AskPutLensNo : Prop := ∀ (a : Option Addr) (cap B : Nat) (ls : List Int) (w : World), Ints w B a ls → B ≤ w.heap.size → lOk ls = false →
  Calls Try.prog 7 #[.slice a ls.length cap] w fun e w' => e = .returned (.tuple #[.agg #[.string ⟨#[]⟩, .int .i64 0], .bool false]) ∧ Below w.heap.size w w'
def AskLensCost : Prop := ∀ (a : Option Addr) (cap B : Nat) (ls : List Int) (w : World), Ints w B a ls → B ≤ w.heap.size →
  Calls Try.prog 9 #[.slice a ls.length cap] w fun e w' => e = .returned (.int .i64 (costL ls)) ∧ Below w.heap.size w w'
def AskGetLens : Prop := ∀ (s : ByteArray) (at0 n : Nat) (w : World), s.size ≤ 1048576 → at0 ≤ 8 * s.size → 1 ≤ n → n ≤ 260 →
  Calls Try.prog 11 #[.agg #[.string s, .int .i64 at0], .int .i64 n] w (GL5 s at0 n w)
def AskGetLensNo : Prop := ∀ (s : ByteArray) (at0 n : Int) (w : World), s.size ≤ 1048576 → -9223372036854775808 ≤ at0 → at0 ≤ 9223372036854775807 → -9223372036854775808 ≤ n → n ≤ 9223372036854775807 → ¬ (0 ≤ at0 ∧ at0 ≤ 8 * s.size ∧ 1 ≤ n ∧ n ≤ 260) →
  Calls Try.prog 11 #[.agg #[.string s, .int .i64 at0], .int .i64 n] w fun e w' => e = .returned (.tuple #[.slice none 0 0, .agg #[.string ⟨#[]⟩, .int .i64 0], .bool false]) ∧ Below w.heap.size w w'

theorem iL_cells (xs : List Nat) : intsV (iL xs) = natsL xs := by simp [iL, intsV, natsL]
theorem gl5_yes {s : ByteArray} {at0 n c : Nat} {xs : List Nat} {w : World} {e : Ending} {w' : World} (h : GL5 s at0 n w e w') (hr : reads5 s at0 n xs c) :
    ∃ v, e = .returned (.tuple #[v, .agg #[.string s, .int .i64 (c : Int)], .bool true]) ∧ w'.ownsRow w.heap.size 3 1 v (iL xs).length (intsV (iL xs)) ∧ Below w.heap.size w w' := by
  obtain ⟨⟨ys, d, v, h2, rfl, hown⟩ | ⟨hno, _⟩, hb⟩ := h
  · obtain ⟨rfl, rfl⟩ := reads5_one h2 hr
    refine ⟨v, rfl, ?_, hb⟩
    rw [iL_cells, iL_len, h2.1]; exact hown
  · exact absurd ⟨xs, c, hr⟩ hno
theorem gl5_no {s : ByteArray} {at0 n : Nat} {w : World} {e : Ending} {w' : World} (h : GL5 s at0 n w e w') (hr : ¬ ∃ xs c, reads5 s at0 n xs c) :
    ∃ v, e = .returned (.tuple #[v, .agg #[.string ⟨#[]⟩, .int .i64 0], .bool false]) ∧ w'.ownsRow w.heap.size 3 1 v ([] : List Int).length (intsV []) ∧ Below w.heap.size w w' := by
  obtain ⟨⟨ys, d, v, h2, rfl, hown⟩ | ⟨hno, rfl⟩, hb⟩ := h
  · exact absurd ⟨ys, d, h2⟩ hr
  · exact ⟨_, rfl, World.ownsRow_nil _ _ _ _, hb⟩
end Go.Proofs.Ytpngomjkapccdaa
namespace Go.Proofs.Ytpngomjkapccdaa
set_option linter.unusedVariables false
set_option linter.unusedSimpArgs false
open Go.RowKit

def AskPutGamma : Prop := ∀ (n : Nat) (w : World), 1 ≤ n → n ≤ 1048575 →
  Calls Try.prog 14 #[.int .i64 n] w fun e w' => ∃ D, Packs D (gamL n) ∧ e = .returned (.agg #[.string (strOf D), .int .i64 ((gamL n).length : Int)]) ∧ Below w.heap.size w w'
def AskPutGammaNo : Prop := ∀ (n : Int) (w : World), -9223372036854775808 ≤ n → n ≤ 9223372036854775807 → gamOk n = false →
  Calls Try.prog 14 #[.int .i64 n] w fun e w' => e = .returned (.agg #[.string ⟨#[]⟩, .int .i64 0]) ∧ Below w.heap.size w w'
def AskGammaBits : Prop := ∀ (n : Int) (w : World), -9223372036854775808 ≤ n → n ≤ 9223372036854775807 →
  Calls Try.prog 17 #[.int .i64 n] w fun e w' => e = .returned (.int .i64 (gamB n)) ∧ Below w.heap.size w w'
theorem meetsPutGamma (hA : AskPutGamma) (hN : AskPutGammaNo) : MeetsPutGamma := fun a0 b1 b2 => by
  by_cases hok : gamOk a0 = true
  · have hr := (gamOk_iff a0).1 hok
    obtain ⟨n, rfl⟩ : ∃ q : Nat, a0 = q := ⟨a0.toNat, by omega⟩
    by_cases hex : ∃ D, Packs D (gamL n)
    · obtain ⟨D, hD⟩ := hex
      refine ⟨strOf D, ((gamL n).length : Int), ?_, ?_⟩
      · intro W
        refine (specPutGamma_yes n W (by omega) (by omega)).mono ?_
        rintro e w' ⟨D2, hD2, he, hb⟩
        rw [hD2.unique hD] at he
        exact ⟨he, hb⟩
      · intro W
        refine (hA n W (by omega) (by omega)).mono ?_
        rintro e w' ⟨D2, hD2, he, hb⟩
        rw [hD2.unique hD] at he
        exact ⟨he, hb⟩
    · refine ⟨⟨#[]⟩, 0, ?_, ?_⟩
      · intro W
        refine (specPutGamma_yes n W (by omega) (by omega)).mono ?_
        rintro e w' ⟨D2, hD2, he, hb⟩
        exact absurd ⟨D2, hD2⟩ hex
      · intro W
        refine (hA n W (by omega) (by omega)).mono ?_
        rintro e w' ⟨D2, hD2, he, hb⟩
        exact absurd ⟨D2, hD2⟩ hex
  · have hno : gamOk a0 = false := by simpa using hok
    exact ⟨⟨#[]⟩, 0, fun W => specPutGamma_no a0 W hno, fun W => hN a0 W b1 b2 hno⟩
theorem meetsGammaBits (hA : AskGammaBits) : MeetsGammaBits := fun a0 b1 b2 => ⟨gamB a0, fun W => specGammaBits_any a0 W, fun W => hA a0 W b1 b2⟩
theorem gg6_yes {s : ByteArray} {at0 k n : Nat} {w : World} {e : Ending} {w' : World} (h : GG6 s at0 w e w') (hg : Gam s at0 k n) :
    e = .returned (.tuple #[.int .i64 (n : Int), .agg #[.string s, .int .i64 ((at0 + (2 * k + 1) : Nat) : Int)], .bool true]) ∧ Below w.heap.size w w' := by
  obtain ⟨⟨j, m, h2, rfl⟩ | ⟨hno, _⟩, hb⟩ := h
  · obtain ⟨rfl, rfl⟩ := gam_one h2 hg
    exact ⟨rfl, hb⟩
  · exact absurd hg (hno k n)
theorem gg6_no {s : ByteArray} {at0 : Nat} {w : World} {e : Ending} {w' : World} (h : GG6 s at0 w e w') (hg : ¬ ∃ k n, Gam s at0 k n) :
    e = .returned (.tuple #[.int .i64 0, .agg #[.string ⟨#[]⟩, .int .i64 0], .bool false]) ∧ Below w.heap.size w w' := by
  obtain ⟨⟨j, m, h2, rfl⟩ | ⟨hno, rfl⟩, hb⟩ := h
  · exact absurd ⟨j, m, h2⟩ hg
  · exact ⟨rfl, hb⟩
end Go.Proofs.Ytpngomjkapccdaa
namespace Go.Proofs.Ytpngomjkapccdaa
set_option linter.unusedVariables false
set_option linter.unusedSimpArgs false
open Go.RowKit

theorem lit3 (w : World) (x y z : Nat) (h : x ≤ 10 ∧ y ≤ 10 ∧ z ≤ 10) : Ints (w.alloc (.cells #[.int .i64 x, .int .i64 y, .int .i64 z] 3)) (w.heap.size + 1) (some ⟨w.heap.size, 0, none⟩) [(x : Int), y, z] := Ints.lit w [(x : Int), y, z] (by simp) (by simp; omega)
theorem size_alloc6 (w : World) (o : Obj) : (w.alloc o).heap.size = w.heap.size + 1 := by simp
theorem ok221 : lOk [2, 2, 1] = true := by decide +kernel
theorem put221 : (put5 [2, 2, 1]).length = 10 := by decide +kernel
theorem cost221 : costL [2, 2, 1] = 10 := by decide +kernel
theorem gam5 : gamB 5 = 5 := by decide +kernel
theorem gam1 : gamL 1 = [1] := by decide +kernel
theorem packs1 : Packs [128] [1] := ⟨rfl, fun j => by
    cases j with
    | zero => decide
    | succ j => simp, fun j hj => by
    have : j < 8 := by simpa using hj
    match j, this with
    | 0, _ => decide
    | 1, _ => decide
    | 2, _ => decide
    | 3, _ => decide
    | 4, _ => decide
    | 5, _ => decide
    | 6, _ => decide
    | 7, _ => decide⟩
theorem putGamma1 (h : AskPutGamma) (w : World) : Calls Try.prog 14 #[.int .i64 1] w fun e w' => e = .returned (.agg #[.string ⟨#[128]⟩, .int .i64 1]) ∧ Below w.heap.size w w' := by
  have h1 := h 1 w (by omega) (by omega)
  rw [gam1] at h1
  refine Calls.mono (h1 : Calls Try.prog 14 #[.int .i64 1] w _) ?_
  rintro e w' ⟨D, hD, he, hb⟩
  rw [hD.unique packs1] at he
  exact ⟨he, hb⟩
theorem gammaBits5 (h : AskGammaBits) (w : World) : Calls Try.prog 17 #[.int .i64 5] w fun e w' => e = .returned (.int .i64 5) ∧ Below w.heap.size w w' := by
  have h1 := h 5 w (by omega) (by omega)
  rw [gam5] at h1
  exact h1
set_option maxHeartbeats 2000000 in
set_option maxRecDepth 100000 in
theorem steps_any (hP : AskPutLens) (hC : AskLensCost) (hG : AskPutGamma) (hB : AskGammaBits) (w : World) : Calls Try.prog 10 #[] w fun e w' => e = .returned (.bool true) ∧ Below w.heap.size w w' := by
  have lit221 := fun (W : World) => lit3 W 2 2 1 (by decide)
  have KP : Hid (∀ W : World, Calls Try.prog 7 #[.slice (some ⟨W.heap.size, 0, none⟩) 3 3] (W.alloc (.cells #[.int .i64 2, .int .i64 2, .int .i64 1] 3)) fun e w' => ∃ s, e = .returned (.tuple #[.agg #[.string s, .int .i64 10], .bool true]) ∧ Below (W.heap.size + 1) (W.alloc (.cells #[.int .i64 2, .int .i64 2, .int .i64 1] 3)) w') := hidden (fun W => by
    have := hP (some ⟨W.heap.size, 0, none⟩) 3 (W.heap.size + 1) [2, 2, 1] _ (lit221 W) (by rw [size_alloc6]; omega) ok221
    rw [size_alloc6, put221] at this
    refine this.mono ?_
    rintro e w' ⟨D, _, he, hb⟩
    exact ⟨strOf D, he, hb⟩)
  have KC : Hid (∀ (W : World) (g : Nat), W.heap.size = g → Calls Try.prog 9 #[.slice (some ⟨g, 0, none⟩) 3 3] (W.alloc (.cells #[.int .i64 2, .int .i64 2, .int .i64 1] 3)) fun e w' => e = .returned (.int .i64 10) ∧ Below (g + 1) (W.alloc (.cells #[.int .i64 2, .int .i64 2, .int .i64 1] 3)) w') := hidden (fun W g hg => by
    subst hg
    have := hC (some ⟨W.heap.size, 0, none⟩) 3 (W.heap.size + 1) [2, 2, 1] _ (lit221 W) (by rw [size_alloc6]; omega)
    rw [size_alloc6, cost221] at this
    exact this)
  have KG := hidden (putGamma1 hG)
  have KB := hidden (gammaBits5 hB)
  clear hP hC hG hB lit221
  go_enter Try.func10, Try.ntmps10
  go_wp2_with fail
  refine (KP.out _).mono ?_
  rintro e w1 ⟨s, rfl, hb⟩
  have h1 := hb.size
  have bw : Below w.heap.size w w1 := ((Below.refl w.heap.size w).alloc (Nat.le_refl _) _).trans (hb.mono (by omega))
  clear hb KP
  go_wp2_with fail
  refine (KC.out _ _ (by simp)).mono ?_
  rintro e w2 ⟨rfl, b2⟩
  have h2 := b2.size
  (try simp at h2)
  have bw2 : Below w.heap.size w w2 := ((bw.alloc bw.size _).alloc (by simp; have := bw.size; omega) _).trans (b2.mono (by have := bw.size; first | omega | (simp; omega)))
  clear b2 KC
  go_wp2_with fail
  refine (KB.out _).mono ?_
  rintro e w3 ⟨rfl, b3⟩
  have bw3 : Below w.heap.size w w3 := bel_then b3 bw2.size bw2
  clear b3 KB
  go_wp2_with fail
  refine (KG.out _).mono ?_
  rintro e w4 ⟨rfl, b4⟩
  have bw4 : Below w.heap.size w w4 := bel_then b4 bw3.size bw3
  clear b4 KG
  go_wp2
  go_ret
  exact ⟨rfl, bw4⟩
end Go.Proofs.Ytpngomjkapccdaa
namespace Go.Proofs.Ytpngomjkapccdaa
set_option linter.unusedVariables false
set_option linter.unusedSimpArgs false
open Go.RowKit

set_option maxHeartbeats 4000000 in
set_option maxRecDepth 100000 in
theorem implPutLens_yes (a : Option Addr) (cap B : Nat) (ls : List Int) (w : World) (hz : Ints w B a ls) (hB : B ≤ w.heap.size) (hok : lOk ls = true) :
    Calls Try.prog 7 #[.slice a ls.length cap] w fun e w' => ∃ D, Packs D (put5 ls) ∧ e = .returned (.tuple #[.agg #[.string (strOf D), .int .i64 ((put5 ls).length : Int)], .bool true]) ∧ Below w.heap.size w w' := by
  have hr := lOk_range hok
  have HI := hidden hz
  have bb : Below w.heap.size w (w.alloc (.cells #[.string ⟨#[]⟩, .int .i64 0] 26)) := (Below.refl _ _).alloc (Nat.le_refl _) _
  have hR := Has.fresh w 26 #[.string ⟨#[]⟩, .int .i64 0]
  have K1 := hidden (fun W h => implLensOk_any a cap B ls W h)
  have K4 := hidden (fun (W : World) => writerOf_any ⟨#[]⟩ 0 W (by decide))
  have HLN : Hid (∀ s, s < ls.length → ls.getD s 0 = (lnF ls s : Int) ∧ 1 ≤ lnF ls s ∧ lnF ls s ≤ 20) := hidden (fun s hs => ⟨lnF_int hr s hs, lRange_ln hr s hs⟩)
  have HLE := hidden (fun k hk => putN_le hr k hk)
  have HNR := hidden (fun k hk => nowN_range hr k hk)
  have HPS : Hid (∀ k, k < ls.length → putN ls (k + 1) = putN ls k ++ stepB (nowN ls k) (lnF ls k) ∧ nowN ls (k + 1) = lnF ls k) := hidden (fun k hk => ⟨putN_succ ls k hk, nowN_succ ls k hk⟩)
  have HP0 : Hid (putN ls 0 = nbits (lnF ls 0) 5 ∧ nowN ls 0 = lnF ls 0) := hidden ⟨putN_zero ls, nowN_zero ls⟩
  have HPA : Hid (put5 ls = putN ls ls.length) := hidden rfl
  obtain ⟨P5, hP5⟩ : ∃ P, put5 ls = P := ⟨_, rfl⟩
  obtain ⟨P, hP⟩ : ∃ P, putN ls = P := ⟨_, rfl⟩
  obtain ⟨Nw, hN⟩ : ∃ N, nowN ls = N := ⟨_, rfl⟩
  obtain ⟨l, hl⟩ : ∃ l, lnF ls = l := ⟨_, rfl⟩
  obtain ⟨n, hn⟩ : ∃ n, ls.length = n := ⟨_, rfl⟩
  have hn1 : 1 ≤ n := by rw [← hn]; exact hr.1
  have hn2 : n ≤ 260 := by rw [← hn]; exact hr.2.1
  obtain ⟨b, off, rfl, hb, hc⟩ := hz.2.2 (by omega)
  have HC := hidden hc
  rw [hok] at K1
  rw [hP] at HLE HPS HP0 HPA
  rw [hN] at HNR HPS HP0
  rw [hl] at HLN HPS HP0
  rw [hn] at K1 HLN HLE HNR HPS HC HPA ⊢
  rw [hP5] at HPA ⊢
  have hbw : b < w.heap.size := by omega
  have h0 := HLN.out 0 (by omega)
  have c0 := hc 0 (by rw [hn]; omega)
  rw [h0.1] at c0
  simp only [Nat.add_zero] at c0
  obtain ⟨x0, hx0⟩ : ∃ x, l 0 = x := ⟨_, rfl⟩
  rw [hx0] at h0 c0 HP0
  have h0r := h0.2
  clear hz hr hn hc hok hl hP hP5 hN h0 hx0
  go_enter Try.func7, Try.ntmps7
  go_wp2_with fail
  refine (K1.out _ (HI.out.below (bb.mono hB))).mono ?_
  rintro e w1 ⟨rfl, hw1⟩
  rw [← hw1] at hR bb
  clear hw1
  have hs1 := bb.size
  go_wp2_with fail
  refine (K4.out _).mono ?_
  rintro e w2 ⟨g, rfl, hW2, hg2, b2⟩
  replace bb := bel_then b2 hs1 bb
  have hRl1 := hR.lt
  replace hR := hR.below b2 hR.lt
  have hs2 := bb.size
  have hs12 := b2.size
  have c02 := (bb.cell (p := ⟨b, off, none⟩) hbw).trans c0
  rw [show row ⟨#[]⟩ 0 0 = [] from rfl] at hW2
  obtain ⟨base, hbase⟩ : ∃ base, w1.heap.size = base := ⟨_, rfl⟩
  rw [hbase] at hW2 hg2 hs12 hRl1 hs1
  clear b2 c0
  have K5 := hidden (put_any g base [] x0 5 w2 hW2 hg2 hs12 (by omega) (by omega) (by simp))
  rw [List.nil_append, ← HP0.out.1] at K5
  have HR := hidden hR
  have HBB := hidden bb
  clear hR bb hW2
  go_wp2_with fail
  refine K5.out.mono ?_
  rintro e w3 ⟨rfl, hW3, b3, _⟩
  have hs23 := b3.size
  clear K5
  go_wp2
  go_loopw [5, 7, 22] (fun sn _ si wr => ∃ k : Nat, k ≤ n ∧ si = .int .i64 k ∧ sn = .int .i64 (Nw k) ∧ Writes wr base g (P k) ∧ Below base w2 wr) (fun _ _ si _ => n - (intOf si).toNat)
  case atStart => exact ⟨0, by omega, rfl, by rw [HP0.out.2], hW3, b3⟩
  case round =>
    obtain ⟨k, hk, rfl, rfl, hW, hbl⟩ := hrel
    have hsz := hbl.size
    have hbw4 : Below w.heap.size w wr := HBB.out.trans (hbl.mono hs1)
    by_cases hlt : k < n
    · have hln := HLN.out k hlt
      have hnr := HNR.out k (by omega)
      have hle := HLE.out (k + 1) (by omega)
      have hle0 := HLE.out k (by omega)
      obtain ⟨hps, hnw⟩ := HPS.out k hlt
      have hcx := HC.out k hlt
      rw [hln.1] at hcx
      have hcx := (hbw4.cell (p := ⟨b, off + k, none⟩) hbw).trans hcx
      obtain ⟨x, hx⟩ : ∃ x, l k = x := ⟨_, rfl⟩
      obtain ⟨now, hnow⟩ : ∃ x, Nw k = x := ⟨_, rfl⟩
      obtain ⟨L, hL⟩ : ∃ L, P k = L := ⟨_, rfl⟩
      rw [hx] at hln hps hnw hcx
      rw [hnow] at hnr hps ⊢
      rw [hL] at hps hle0 hW
      have hxr := hln.2
      rw [stepB_P] at hps
      have HS := hidden hps
      have HW := hidden hnw
      have HLl := hidden hle0
      clear hps hnw hnow hL hx hln hle hle0 hW3 b3 hbw4 c02
      go_wp2
      go_loopw [5] (fun sn wx => ∃ j : Nat, j ≤ x - now ∧ sn = .int .i64 ((now + j : Nat) : Int) ∧ Writes wx base g (L ++ upP j) ∧ Below base w2 wx) (fun sn _ => x - (intOf sn).toNat)
      case atStart => exact ⟨0, by omega, rfl, by simpa [upP] using hW, hbl⟩
      case round =>
        obtain ⟨j, hj, rfl, hW2, hbl2⟩ := hrel
        have hsz2 := hbl2.size
        have HPl := hidden (show (L ++ upP j).length ≤ 20000 by rw [List.length_append, upP_len]; have := HLl.out; omega)
        by_cases hlt2 : now + j < x
        · have hI : ((now + j : Nat) : Int) < (x : Int) := by omega
          have K6 := hidden (put_any g base (L ++ upP j) 2 2 wr hW2 hg2 (by omega) (by omega) (by omega) (by have := HPl.out; omega))
          rw [show nbits 2 2 = [1, 0] from rfl, List.append_assoc, show upP j ++ [1, 0] = upP (j + 1) from rfl] at K6
          obtain ⟨y, hy⟩ : ∃ y, now + j = y := ⟨_, rfl⟩
          rw [hy] at hI ⊢
          have HY := hidden hy
          clear hy hlt2 hj hW2
          go_wp2_with fail
          refine K6.out.mono ?_
          rintro e w5 ⟨rfl, hW5, b5, _⟩
          have hbl5 : Below base w2 w5 := hbl2.trans b5
          clear K6 b5 hbl2
          go_wp2
          go_roundw
          case rel => exact ⟨j + 1, by have := HY.out; omega, by have := HY.out; rw [show now + (j + 1) = y + 1 by omega]; go_num, hW5, hbl5⟩
          case measure => simp [intOf]; have := HY.out; omega
        · have hjx : j = x - now := by omega
          have hI : ¬ ((now + j : Nat) : Int) < (x : Int) := by omega
          obtain ⟨M, hM⟩ : ∃ M, L ++ upP j = M := ⟨_, rfl⟩
          rw [hM] at hW2 HPl
          have HM := hidden hM
          obtain ⟨y, hy⟩ : ∃ y, now + j = y := ⟨_, rfl⟩
          rw [hy] at hI ⊢
          have HY := hidden (show y = max now x by omega)
          have hyr : y ≤ 20 := by omega
          have HJ := hidden hjx
          clear hM hlt2 hy hj hjx
          go_wp2
          go_loopw [5] (fun sn wy => ∃ q : Nat, q ≤ now - x ∧ sn = .int .i64 ((y - q : Nat) : Int) ∧ Writes wy base g (M ++ dnP q) ∧ Below base w2 wy) (fun sn _ => (intOf sn).toNat)
          case atStart => exact ⟨0, by omega, rfl, by simpa [dnP] using hW2, hbl2⟩
          case round =>
            obtain ⟨q, hq, rfl, hW4, hbl4⟩ := hrel
            have hsz4 := hbl4.size
            have HMl := hidden (show (M ++ dnP q).length ≤ 30000 by rw [List.length_append, dnP_len]; have := HPl.out; omega)
            by_cases hlt4 : x < y - q
            · have hI : (x : Int) < ((y - q : Nat) : Int) := by omega
              have K6 := hidden (put_any g base (M ++ dnP q) 3 2 wr hW4 hg2 (by omega) (by omega) (by omega) (by have := HMl.out; omega))
              rw [show nbits 3 2 = [1, 1] from rfl, List.append_assoc, show dnP q ++ [1, 1] = dnP (q + 1) from rfl] at K6
              obtain ⟨z, hz⟩ : ∃ z, y - q = z := ⟨_, rfl⟩
              rw [hz] at hI ⊢
              have hz20 : z ≤ 20 := by omega
              have HZ := hidden hz
              have HQ := hidden (show q + 1 ≤ now - x by have := HY.out; omega)
              clear hz hlt4 hq hW4
              go_wp2_with fail
              refine K6.out.mono ?_
              rintro e w5 ⟨rfl, hW5, b5, _⟩
              have hbl5 : Below base w2 w5 := hbl4.trans b5
              clear K6 b5 hbl4
              go_wp2
              go_roundw
              case rel => exact ⟨q + 1, HQ.out, by have := HZ.out; rw [show ((y - (q + 1) : Nat) : Int) = (z : Int) - 1 by omega], hW5, hbl5⟩
              case measure => simp [intOf]; omega
            · have HQ := hidden (show q = now - x ∧ y - q = x by have := HY.out; omega)
              have hI : ¬ (x : Int) < ((y - q : Nat) : Int) := by omega
              have K6 := hidden (put_any g base (M ++ dnP q) 0 1 wr hW4 hg2 (by omega) (by omega) (by omega) (by have := HMl.out; omega))
              rw [show nbits 0 1 = [0] from rfl] at K6
              have HE : Hid (P (k + 1) = M ++ dnP q ++ [0]) := hidden (by rw [HS.out, ← HM.out, HJ.out, HQ.out.1]; simp only [List.append_assoc])
              rw [← HE.out] at K6
              have hyx : y - q = x := HQ.out.2
              rw [hyx] at hI ⊢
              clear hyx hlt4 hW4
              go_wp2_with fail
              refine K6.out.mono ?_
              rintro e w5 ⟨rfl, hW5, b5, _⟩
              have hbl5 : Below base w2 w5 := hbl4.trans b5
              clear K6 b5 hbl4
              go_wp2
              go_roundw
              case rel => exact ⟨k + 1, by omega, by go_num, by rw [HW.out], hW5, hbl5⟩
              case measure => simp [intOf]; omega
    · have hkn : k = n := by omega
      subst hkn
      rw [← HPA.out] at hW
      have K6 := hidden (bits_any g base _ wr hW)
      have hR := HR.out.below (hbl.mono (Nat.le_refl _)) (by omega)
      have hbw5 := hbw4
      clear hW hbw4
      go_wp2_with fail
      refine K6.out.mono ?_
      rintro e w5 ⟨D, hD, rfl, b5⟩
      have bb := bel_then b5 (by have := hbw5.size; omega) hbw5
      replace hR := hR.below b5 hR.lt
      have e0 := hR.cell 0
      have e1 := hR.cell 1
      have g0 := hR.free 0
      have g1 := hR.free 1
      simp at e0 e1
      have hs5 := bb.size
      clear b5 hR hbw5 hbl
      go_wp2
      refine bodyPost_ret (v := .tuple #[.agg #[.string (strOf D), .int .i64 (P5.length : Int)], .bool true]) (by simp [results, Try.results7, go_sem, e0, e1, g0, g1]) rfl ⟨D, hD, rfl, ?_⟩
      repeat (first | exact Below.refl _ _ | assumption | refine Below.alloc ?_ (by (try simp); (try omega)) _ | refine Below.setCell ?_ (by (try simp); (try omega)) _ | refine Below.drew ?_ | refine bel_then (by assumption) (by (try simp); (try omega)) ?_)
set_option maxHeartbeats 2000000 in
set_option maxRecDepth 100000 in
theorem implPutLens_no (a : Option Addr) (cap B : Nat) (ls : List Int) (w : World) (hz : Ints w B a ls) (hB : B ≤ w.heap.size) (hok : lOk ls = false) :
    Calls Try.prog 7 #[.slice a ls.length cap] w fun e w' => e = .returned (.tuple #[.agg #[.string ⟨#[]⟩, .int .i64 0], .bool false]) ∧ Below w.heap.size w w' := by
  have HI := hidden hz
  have bb : Below w.heap.size w (w.alloc (.cells #[.string ⟨#[]⟩, .int .i64 0] 26)) := (Below.refl _ _).alloc (Nat.le_refl _) _
  have hR := Has.fresh w 26 #[.string ⟨#[]⟩, .int .i64 0]
  have K1 := hidden (fun W h => implLensOk_any a cap B ls W h)
  rw [hok] at K1
  obtain ⟨n, hn⟩ : ∃ n, ls.length = n := ⟨_, rfl⟩
  rw [hn] at K1 ⊢
  clear hz hok hn
  go_enter Try.func7, Try.ntmps7
  go_wp2_with fail
  refine (K1.out _ (HI.out.below (bb.mono hB))).mono ?_
  rintro e w1 ⟨rfl, hw1⟩
  rw [← hw1] at hR bb
  clear hw1
  have e0 := hR.cell 0
  have e1 := hR.cell 1
  have g0 := hR.free 0
  have g1 := hR.free 1
  simp at e0 e1
  have hs1 := bb.size
  clear hR
  go_wp2
  refine bodyPost_ret (v := .tuple #[.agg #[.string ⟨#[]⟩, .int .i64 0], .bool false]) (by simp [results, Try.results7, go_sem, e0, e1, g0, g1]) rfl ⟨rfl, ?_⟩
  repeat (first | exact Below.refl _ _ | assumption | refine Below.alloc ?_ (by (try simp); (try omega)) _ | refine Below.setCell ?_ (by (try simp); (try omega)) _ | refine Below.drew ?_ | refine bel_then (by assumption) (by (try simp); (try omega)) ?_)
end Go.Proofs.Ytpngomjkapccdaa
namespace Go.Proofs.Ytpngomjkapccdaa
set_option linter.unusedVariables false
set_option linter.unusedSimpArgs false
open Go.RowKit

theorem askPutLens : AskPutLens := fun a cap B ls w hz hB hok => implPutLens_yes a cap B ls w hz hB hok
theorem askPutLensNo : AskPutLensNo := fun a cap B ls w hz hB hok => implPutLens_no a cap B ls w hz hB hok
theorem askLensCost : AskLensCost := fun a cap B ls w hz hB => implLensCost_any a cap B ls w hz
theorem askGetLens : AskGetLens := fun s at0 n w hs ha h1 h2 => implGetLens_any s at0 n w hs ha h1 h2
theorem askGetLensNo : AskGetLensNo := fun s at0 n w hs b1 b2 _ _ h => implGetLens_no s at0 n w hs b1 b2 h
end Go.Proofs.Ytpngomjkapccdaa
