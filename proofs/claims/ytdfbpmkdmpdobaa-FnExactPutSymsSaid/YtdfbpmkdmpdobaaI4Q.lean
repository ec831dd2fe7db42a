/- Chapter 4, the program: the codes of symbols written one after the other. -/
import Derived.Test.YtdfbpmkdmpdobaaI4P
import Derived.Deep.RegionHeld3
namespace Go.Proofs.Ytdfbpmkdmpdobaa
set_option linter.unusedVariables false
set_option linter.unusedSimpArgs false
open Go.RowKit

theorem Writes.drewN {w : World} {base g : Nat} {l : List Nat} (h : Writes w base g l) (n : Nat) : Writes (w.drewN n) base g l := h
set_option maxHeartbeats 4000000 in
set_option maxRecDepth 100000 in
theorem implPutSyms_yes (a a2 : Option Addr) (cap cap2 B : Nat) (ls ss : List Int) (w : World) (hz : Ints w B a ls) (hz2 : Ints w B a2 ss) (hB : B ≤ w.heap.size) (hok : putOk ls ss = true) :
    Calls Try.prog 17 #[.slice a ls.length cap, .slice a2 ss.length cap2] w fun e w' => ∃ D, Packs D (putL ls ss ss.length) ∧ e = .returned (.tuple #[.agg #[.string (strOf D), .int .i64 (lenSum ls ss ss.length)], .bool true]) ∧ Below w.heap.size w w' := by
  obtain ⟨hok1, hok2⟩ := (putOk_iff ls ss).1 hok
  have hr := lOk_range hok1
  have hs := (symsB_iff _ _).1 hok2
  have HI := hidden hz
  have HI2 := hidden hz2
  have hl := hz.1
  have bb : Below w.heap.size w (w.alloc (.cells #[.string ⟨#[]⟩, .int .i64 0] 32)) := (Below.refl _ _).alloc (Nat.le_refl _) _
  have hR := Has.fresh w 32 #[.string ⟨#[]⟩, .int .i64 0]
  have K1 := hidden (fun W h => implLensOk_any a cap B ls W h)
  have K2 := hidden (fun W h => rowOk_any a2 cap2 B ls.length ss W h hl)
  have K3 := hidden (fun W h h2 => codesOf_any a cap B ls W h h2 hok1)
  have K4 := hidden (fun (W : World) => writerOf_any ⟨#[]⟩ 0 W (by decide))
  have HLN : Hid (∀ s, s < ls.length → ls.getD s 0 = (lnF ls s : Int) ∧ 1 ≤ lnF ls s ∧ lnF ls s ≤ 20) := hidden (fun s hs => ⟨lnF_int hr s hs, lRange_ln hr s hs⟩)
  have HLT := hidden (fun s hs => cdF_lt hok1 s hs)
  have HLE : Hid (∀ k, k ≤ ss.length → (putL ls ss k).length ≤ 20 * k) := hidden (fun k hk => by rw [putL_len]; exact lenSum_le hr hs.2 k hk)
  have HLS := hidden (putL_len ls ss ss.length)
  have HS := hidden hs.2
  have hm2 := hs.1
  obtain ⟨b, off, rfl, hb, hc⟩ := hz.2.2 hr.1
  have HC := hidden hc
  have HN1 := hidden hr.1
  have hn260 := hr.2.1
  obtain ⟨n, hn⟩ : ∃ n, ls.length = n := ⟨_, rfl⟩
  obtain ⟨m, hm⟩ : ∃ m, ss.length = m := ⟨_, rfl⟩
  rw [hok1] at K1
  rw [hok2] at K2
  rw [hn] at K1 K2 K3 HLN HLT HC HS HN1 hl hn260 ⊢
  have HM := hidden hm
  rw [hm] at K2 HLE HLS HS hm2 ⊢
  have hbw : b < w.heap.size := by omega
  clear hz hz2 hok hok1 hok2 hr hs hn hm hc
  go_enter Try.func17, Try.ntmps17
  go_wp2_with fail
  refine (K1.out _ (HI.out.below (bb.mono hB))).mono ?_
  rintro e w1 ⟨rfl, hw1⟩
  rw [← hw1] at hR bb
  clear hw1
  go_wp2_with fail
  refine (K2.out _ (HI2.out.below (bb.mono hB))).mono ?_
  rintro e w2 ⟨rfl, hw2⟩
  rw [← hw2] at hR bb
  clear hw2
  have hs2 := bb.size
  go_wp2_with fail
  refine (K3.out _ (HI.out.below (bb.mono hB)) (Nat.le_trans hB hs2)).mono ?_
  rintro e w3 ⟨v, rfl, hown, b3⟩
  obtain ⟨gc, cc, hv⟩ := Joins.ownsRow_form hown (by have := HN1.out; omega)
  subst hv
  have hgc := hown.lt gc rfl
  replace bb := bel_then b3 hs2 bb
  replace hR := hR.below b3 hR.lt
  have hs3 := bb.size
  clear b3
  go_wp2_with fail
  refine (K4.out _).mono ?_
  rintro e w4 ⟨g, rfl, hW4, hg4, b4⟩
  have hown4 := own_bel hown b4
  replace bb := bel_then b4 hs3 bb
  replace hR := hR.below b4 hR.lt
  have hs4 := bb.size
  have hs34 := b4.size
  have hgl4 := hW4.lt
  have hRl := hR.lt
  have hR3 : w.heap.size < w3.heap.size := by have := hR.lt; omega
  rw [show row ⟨#[]⟩ 0 0 = putL ls ss 0 from rfl] at hW4
  obtain ⟨base, hbase⟩ : ∃ base, w3.heap.size = base := ⟨_, rfl⟩
  rw [hbase] at hW4 hg4 hs34 hgc
  have HR := hidden hR
  have HO := hidden hown4
  have HBB := hidden bb
  clear hown4 hown hR bb b4 hs3
  have hwb : w.heap.size ≤ base := by omega
  go_wp2
  go_loopw [9, 27] (fun _ si wr => ∃ k : Nat, k ≤ m ∧ si = .int .i64 k ∧ Writes wr base g (putL ls ss k) ∧ Below base w4 wr) (fun _ si _ => m - (intOf si).toNat)
  case atStart => exact ⟨0, by omega, rfl, hW4, Below.refl _ _⟩
  case round =>
    obtain ⟨k, hk, rfl, hW, hbl⟩ := hrel
    have hsz := hbl.size
    have hbw4 : Below w.heap.size w wr := HBB.out.trans (hbl.mono hwb)
    by_cases hlt : k < m
    · obtain ⟨b2, off2, rfl, hb2, hc2⟩ := (HI2.out.below (hbw4.mono hB)).2.2 (by rw [HM.out]; omega)
      have ck := hc2 k (by rw [HM.out]; exact hlt)
      have hx := HS.out k hlt
      have HP1 := hidden (putL_succ ls ss k)
      have hle1 := HLE.out k (by omega)
      obtain ⟨x, hxe⟩ : ∃ x : Nat, ss.getD k 0 = x := ⟨(ss.getD k 0).toNat, by omega⟩
      rw [hxe] at ck hx
      rw [hxe, Int.toNat_natCast] at HP1
      have hxn : x < n := by omega
      have cl := (hbw4.cell (p := ⟨b, off + x, none⟩) hbw).trans (HC.out x hxn)
      have hln := HLN.out x hxn
      rw [hln.1] at cl
      have cc0 := (hbl.cell (p := ⟨gc, x, none⟩) hgc.2).trans (HO.out.cellAt x (by omega))
      rw [nats_get _ _ x hxn] at cc0
      have hlt2 := HLT.out x hxn
      unfold symBits1 at HP1
      obtain ⟨y, hy⟩ : ∃ y, lnF ls x = y := ⟨_, rfl⟩
      obtain ⟨c, hcy⟩ : ∃ c, cdF ls x = c := ⟨_, rfl⟩
      rw [hy] at cl hln hlt2 HP1
      rw [hcy] at cc0 hlt2 HP1
      have hyr := hln.2
      have HK := hidden (fun (W : World) (h : Writes W base g (putL ls ss k)) (h2 : base ≤ W.heap.size) => put_any g base (putL ls ss k) c y W h hg4 h2 (by omega) hlt2 (by omega))
      rw [← HP1.out] at HK
      have m1 : (x : Int) < (n : Int) := by omega
      have m2 : (0 : Int) ≤ (x : Int) := by omega
      have m3 : (k : Int) < (m : Int) := by omega
      have m4 : (0 : Int) ≤ (k : Int) := by omega
      have q2 : b < base := by omega
      have q3 : gc < base := hgc.2
      clear hc2 hxe hx hy hcy hln hlt2 hW4
      go_wp2
      go_region_held3 (fun w' => w'.cell? ⟨b, off + x, none⟩ = some (.int .i64 (y : Int)) ∧ w'.cell? ⟨gc, x, none⟩ = some (.int .i64 (c : Int))) (go_keep) (first | (go_at_call 49; (with_reducible refine (HK.out _ ?hW ?hb).mono ?_); (case hW => exact hW); (case hb => exact (by omega : base ≤ wr.heap.size)); rintro e wp ⟨rfl, hWp, Bp, Kp⟩; have g1 := (Bp.cell (p := ⟨b, off + x, none⟩) q2).trans cl; have g2 := (Bp.cell (p := ⟨gc, x, none⟩) q3).trans cc0))
      all_goals
        have bN : Below base w4 wp := hbl.drew.trans Bp
        clear g1 g2 Bp Kp
        go_wp2
        exact ⟨⟨k + 1, by omega, by go_num, hWp, bN⟩, by simp [intOf]; omega⟩
    · have hkm : k = m := by omega
      subst hkm
      have K5 := hidden (bits_any g base _ wr hW)
      rw [HLS.out] at K5
      have hR := HR.out.below hbl (by omega)
      have hbw5 := hbw4
      clear hW hbw4
      go_wp2_with fail
      refine K5.out.mono ?_
      rintro e w5 ⟨D, hD, rfl, b5⟩
      have bb := bel_then b5 (by have := hbw5.size; omega) hbw5
      replace hR := hR.below b5 hR.lt
      have e0 := hR.cell 0
      have e1 := hR.cell 1
      have g0 := hR.free 0
      have g1 := hR.free 1
      simp at e0 e1
      have hs5 := bb.size
      clear b5 hR hbw5 hbl
      go_wp2
      refine bodyPost_ret (v := .tuple #[.agg #[.string (strOf D), .int .i64 (lenSum ls ss k)], .bool true]) (by simp [results, Try.results17, go_sem, e0, e1, g0, g1]) rfl ⟨D, hD, rfl, ?_⟩
      repeat (first | exact Below.refl _ _ | assumption | refine Below.alloc ?_ (by (try simp); (try omega)) _ | refine Below.setCell ?_ (by (try simp); (try omega)) _ | refine Below.drew ?_ | refine bel_then (by assumption) (by (try simp); (try omega)) ?_)
set_option maxHeartbeats 2000000 in
set_option maxRecDepth 100000 in
theorem implPutSyms_no (a a2 : Option Addr) (cap cap2 B : Nat) (ls ss : List Int) (w : World) (hz : Ints w B a ls) (hz2 : Ints w B a2 ss) (hB : B ≤ w.heap.size) (hok : putOk ls ss = false) :
    Calls Try.prog 17 #[.slice a ls.length cap, .slice a2 ss.length cap2] w fun e w' => e = .returned (.tuple #[.agg #[.string ⟨#[]⟩, .int .i64 0], .bool false]) ∧ Below w.heap.size w w' := by
  have HI := hidden hz
  have HI2 := hidden hz2
  have hl := hz.1
  have bb : Below w.heap.size w (w.alloc (.cells #[.string ⟨#[]⟩, .int .i64 0] 32)) := (Below.refl _ _).alloc (Nat.le_refl _) _
  have hR := Has.fresh w 32 #[.string ⟨#[]⟩, .int .i64 0]
  have K1 := hidden (fun W h => implLensOk_any a cap B ls W h)
  have K2 := hidden (fun W h => rowOk_any a2 cap2 B ls.length ss W h hl)
  obtain ⟨o1, ho1⟩ : ∃ o, lOk ls = o := ⟨_, rfl⟩
  obtain ⟨o2, ho2⟩ : ∃ o, symsB ls.length ss = o := ⟨_, rfl⟩
  unfold putOk at hok
  rw [ho1, ho2] at hok
  rw [ho1] at K1
  rw [ho2] at K2
  obtain ⟨n, hn⟩ : ∃ n, ls.length = n := ⟨_, rfl⟩
  obtain ⟨m, hm⟩ : ∃ m, ss.length = m := ⟨_, rfl⟩
  rw [hn] at K1 K2 hl ⊢
  rw [hm] at K2 ⊢
  clear hz hz2 ho1 ho2 hn hm
  cases o1
  · clear hok
    go_enter Try.func17, Try.ntmps17
    go_wp2_with fail
    refine (K1.out _ (HI.out.below (bb.mono hB))).mono ?_
    rintro e w1 ⟨rfl, hw1⟩
    rw [← hw1] at hR bb
    clear hw1
    have e0 := hR.cell 0
    have e1 := hR.cell 1
    have g0 := hR.free 0
    have g1 := hR.free 1
    simp at e0 e1
    have hs1 := bb.size
    clear hR
    go_wp2
    refine bodyPost_ret (v := .tuple #[.agg #[.string ⟨#[]⟩, .int .i64 0], .bool false]) (by simp [results, Try.results17, go_sem, e0, e1, g0, g1]) rfl ⟨rfl, ?_⟩
    repeat (first | exact Below.refl _ _ | assumption | refine Below.alloc ?_ (by (try simp); (try omega)) _ | refine Below.setCell ?_ (by (try simp); (try omega)) _ | refine Below.drew ?_ | refine bel_then (by assumption) (by (try simp); (try omega)) ?_)
  · cases o2
    · clear hok
      go_enter Try.func17, Try.ntmps17
      go_wp2_with fail
      refine (K1.out _ (HI.out.below (bb.mono hB))).mono ?_
      rintro e w1 ⟨rfl, hw1⟩
      rw [← hw1] at hR bb
      clear hw1
      go_wp2_with fail
      refine (K2.out _ (HI2.out.below (bb.mono hB))).mono ?_
      rintro e w2 ⟨rfl, hw2⟩
      rw [← hw2] at hR bb
      clear hw2
      have e0 := hR.cell 0
      have e1 := hR.cell 1
      have g0 := hR.free 0
      have g1 := hR.free 1
      simp at e0 e1
      have hs1 := bb.size
      clear hR
      go_wp2
      refine bodyPost_ret (v := .tuple #[.agg #[.string ⟨#[]⟩, .int .i64 0], .bool false]) (by simp [results, Try.results17, go_sem, e0, e1, g0, g1]) rfl ⟨rfl, ?_⟩
      repeat (first | exact Below.refl _ _ | assumption | refine Below.alloc ?_ (by (try simp); (try omega)) _ | refine Below.setCell ?_ (by (try simp); (try omega)) _ | refine Below.drew ?_ | refine bel_then (by assumption) (by (try simp); (try omega)) ?_)
    · cases hok
end Go.Proofs.Ytdfbpmkdmpdobaa
