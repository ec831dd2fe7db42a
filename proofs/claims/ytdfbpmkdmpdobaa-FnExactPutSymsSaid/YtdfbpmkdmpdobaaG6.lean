/- Texts of one reach, one behind the other: C4W. What each is about stands in its theorems. -/
import Derived.Test.YtdfbpmkdmpdobaaG4
import Derived.Test.YtdfbpmkdmpdobaaG5
import Derived.Deep.DrawnRows
import Derived.Deep.RegionHeld3
namespace Go.Proofs.Ytdfbpmkdmpdobaa
set_option linter.unusedVariables false
set_option linter.unusedSimpArgs false
open Go.RowKit

theorem step_append_at4 {P : Program} (w : World) {ops : Array Oper} {o : Oper} {a : Act} {K : Act → World → Prop} {Q : Exit → Act → World → Prop} {E : Prop} (hgd : o.guard = none) (s x : Operand) (t : TypeId)
    (ho : o.op = .call { callee := .builtin .append, args := #[s, x], argTypes := #[t, t] })
    (base : Nat) (e : TypeId) (i : TypeInfo) (z : Value) (size bytes : Nat) (ht : P.underlying t = some (.slice e)) (hi : P.info? e = some i) (hz : i.zero = some z)
    (hsize : i.size = size) (hby : i.bytes = bytes) (hzs : z.cells.size = size) (hsz : 0 < size)
    (v : Value) (n : Nat) (xs : List Value) (hs : a.eval s = v) (hown : w.ownsRow base e size v n xs)
    (ad : Addr) (m c : Nat) (news : List Value) (hx : a.eval x = .slice (some ad) m c) (hl : news.length = m * size) (hnews : ∀ j u, news[j]? = some u → w.cell? (ad.add j) = some u) (h1 : ∀ u ∈ news, u.oneCell' = true)
    (h63 : n + m ≤ maxLen) (hbytes : (n + m) * bytes ≤ 140737488355328) (hbase : base ≤ w.heap.size)
    (h : ∀ v' w', w'.ownsRow base e size v' (n + m) (xs ++ news) → w.grownBy w' v.ownBlock → K (a.put o.dst v') w') :
    if Region.wanted o (yielded ops a.tmps) = true then Oper.wp P o a w K Q else E := by
  have hw : Region.wanted o (yielded ops a.tmps) = true := by simp [Region.wanted, hgd]
  rw [if_pos hw]
  exact wp_append_own w s x t ho base e i z size bytes ht hi hz hsize hby hzs hsz v n xs hs hown ad m c news hx hl hnews h1 h63 hbytes hbase fun v' w' h2 h3 _ => h v' w' h2 h3
theorem own_belH {w w' : World} {base : Nat} {e : TypeId} {size : Nat} {v : Value} {n : Nat} {xs : List Value} (h : w.ownsRow base e size v n xs) (hb : ∀ i, i < w.heap.size → w'.heap[i]? = w.heap[i]?) : w'.ownsRow base e size v n xs := by
  refine ⟨h.1, ?_⟩
  rcases h.2 with h2 | ⟨g, cap, cur, hv, hg, hc, hr⟩
  · exact .inl h2
  · refine .inr ⟨g, cap, cur, hv, hg, ?_, hr⟩
    rw [hb g (Array.getElem?_eq_some_iff.1 hc).1]; exact hc
theorem grown_cell {w w' : World} {row : Option Nat} (h : w.grownBy w' row) {a : Addr} {u : Value} (hc : w.cell? a = some u) (hne : some a.block ≠ row) : w'.cell? a = some u := h.cell hc hne
theorem u8s_lies {w : World} {base g n c : Nat} {E : TypeId} {l : List Nat} (h : w.ownsRow base E 1 (.slice (some ⟨g, 0, none⟩) n c) n (u8s l)) : ∀ (j : Nat) (u : Value), (u8s l)[j]? = some u → w.cell? ((⟨g, 0, none⟩ : Addr).add j) = some u := h.cells (g := g) rfl
attribute [local go_sem ↓] Go.wp_at_zero Go.wp_at_succ
set_option maxHeartbeats 4000000 in
set_option maxRecDepth 100000 in
theorem l4put_any (a a2 : Option Addr) (cap cap2 B : Nat) (ls ss : List Int) (w : World) (hz : Ints w B a ls) (hz2 : Ints w B a2 ss) (hB : B ≤ w.heap.size) (hok : putOk ls ss = true) :
    Calls Try.prog 53 #[.slice a ls.length cap, .slice a2 ss.length cap2] w fun e w' => ∃ v, e = .returned v ∧ w'.ownsRow w.heap.size 5 1 v (putL ls ss ss.length).length (u8s (putL ls ss ss.length)) ∧ Below w.heap.size w w' := by
  obtain ⟨i0, hi, hz0, hz1, hz2'⟩ := info_parts Try.info5
  obtain ⟨hok1, hok2⟩ := (putOk_iff ls ss).1 hok
  have hr := lOk_range hok1
  have hs := (symsB_iff _ _).1 hok2
  have K1 := hidden (specCodes_yes a cap B ls w hz hB hok1)
  have HLN : Hid (∀ s, s < ls.length → ls.getD s 0 = (lnF ls s : Int) ∧ 1 ≤ lnF ls s ∧ lnF ls s ≤ 20) := hidden (fun s hs => ⟨lnF_int hr s hs, lRange_ln hr s hs⟩)
  have HLT := hidden (fun s hs => cdF_lt20 hok1 s hs)
  have HSUM : Hid (∀ k, k ≤ ss.length → (putL ls ss k).length ≤ 20 * k) := hidden (fun k hk => by rw [putL_len]; exact lenSum_le hr hs.2 k hk)
  have HNX : Hid (∀ k, putL ls ss (k + 1) = putL ls ss k ++ nbits (cdF ls (ss.getD k 0).toNat) (lnF ls (ss.getD k 0).toNat)) := hidden (fun k => putL_succ ls ss k)
  have HP0 : Hid (putL ls ss 0 = []) := hidden rfl
  obtain ⟨P, hP⟩ : ∃ P, putL ls ss = P := ⟨_, rfl⟩
  obtain ⟨cd, hcd⟩ : ∃ cd, cdF ls = cd := ⟨_, rfl⟩
  obtain ⟨l, hl⟩ : ∃ l, lnF ls = l := ⟨_, rfl⟩
  obtain ⟨n, hn⟩ : ∃ n, ls.length = n := ⟨_, rfl⟩
  obtain ⟨m, hm⟩ : ∃ m, ss.length = m := ⟨_, rfl⟩
  have hn1 : 1 ≤ n := by rw [← hn]; exact hr.1
  have hn2 : n ≤ 260 := by rw [← hn]; exact hr.2.1
  have hm2 : m ≤ 2000 := by rw [← hm]; exact hs.1
  have HS := hidden hs.2
  have HZ2 := hidden hz2
  have HM := hidden hm
  obtain ⟨b, off, rfl, hb, hc⟩ := hz.2.2 (by omega)
  have HC := hidden hc
  have hbw : b < w.heap.size := by omega
  rw [hP] at HSUM HNX HP0 ⊢
  rw [hcd] at K1 HLT HNX
  rw [hl] at HLN HNX
  rw [hn] at K1 HLN HLT HS HC ⊢
  rw [hm] at HSUM HS ⊢
  clear hz hz2 hok hok1 hok2 hr hs hP hcd hl hn hm hc
  go_enter Try.func53, Try.ntmps53
  go_wp2_with fail
  refine K1.out.mono ?_
  rintro e w1 ⟨vc, rfl, hown, hb1⟩
  obtain ⟨gc, cc, hvc⟩ := Joins.ownsRow_form hown hn1
  subst hvc
  have hgc := hown.lt gc rfl
  have hsz1 := hb1.size
  have HOC := hidden hown
  clear hown
  go_wp2
  go_loopw [6, 7] (fun vo si wr => ∃ k : Nat, k ≤ m ∧ si = .int .i64 k ∧ wr.ownsRow w1.heap.size 5 1 vo (P k).length (u8s (P k)) ∧ Below w1.heap.size w1 wr) (fun _ si _ => m - (intOf si).toNat)
  case atStart => exact ⟨0, Nat.zero_le _, rfl, by rw [HP0.out]; exact World.ownsRow_nil _ _ _ _, Below.refl _ _⟩
  case round =>
    obtain ⟨k, hk, rfl, hownO, hbl⟩ := hrel
    have hszr := hbl.size
    by_cases hlt : k < m
    · obtain ⟨b2, off2, rfl, hb2, hc2⟩ := HZ2.out.2.2 (by rw [HM.out]; omega)
      have bw : Below w.heap.size w wr := hb1.trans (hbl.mono hsz1)
      have ck := (bw.cell (p := ⟨b2, off2 + k, none⟩) (by show b2 < w.heap.size; omega)).trans (hc2 k (by rw [HM.out]; exact hlt))
      have hx := HS.out k hlt
      obtain ⟨x, hxe⟩ : ∃ x : Nat, ss.getD k 0 = x := ⟨(ss.getD k 0).toNat, by omega⟩
      have hnx := HNX.out k
      rw [hxe] at ck hx hnx
      rw [Int.toNat_natCast] at hnx
      have hxn : x < n := by omega
      have cl := (bw.cell (p := ⟨b, off + x, none⟩) hbw).trans (HC.out x hxn)
      have hln := HLN.out x hxn
      rw [hln.1] at cl
      have cc0 := (own_bel HOC.out hbl).cellAt x (by omega)
      rw [nats_get _ _ x hxn] at cc0
      have hcl := HLT.out x hxn
      obtain ⟨y, hy⟩ : ∃ y, l x = y := ⟨_, rfl⟩
      obtain ⟨c, hcy⟩ : ∃ c, cd x = c := ⟨_, rfl⟩
      rw [hy] at cl hln hnx
      rw [hcy] at cc0 hcl hnx
      have HK := hidden (fun W => l1num_any c y W (by omega) (by omega))
      have hsum := HSUM.out k (by omega)
      obtain ⟨p, hp⟩ : ∃ p, (P k).length = p := ⟨_, rfl⟩
      rw [hp] at hownO hsum
      have HNP := hidden hnx
      have HPL := hidden hp
      have m1 : (x : Int) < (n : Int) := by omega
      have m2 : (0 : Int) ≤ (x : Int) := by omega
      have m3 : (k : Int) < (m : Int) := by omega
      have m4 : (0 : Int) ≤ (k : Int) := by omega
      have q1 : b2 < wr.heap.size := by omega
      have q2 : b < wr.heap.size := by omega
      have q3 : gc < wr.heap.size := by omega
      have bb : Below w1.heap.size w1 wr := hbl
      have hl8 : (u8s (nbits c y)).length = y * 1 := by rw [u8s_len, nbits_len]; omega
      have hm8 : p + y ≤ maxLen := by unfold maxLen; omega
      have hb8 : (p + y) * 1 ≤ 140737488355328 := by omega
      clear hc2 hxe hx hnx hy hcy hp
      go_wp2
      go_region_held3 (fun w' => w'.cell? ⟨b2, off2 + k, none⟩ = some (.int .i64 (x : Int)) ∧ w'.cell? ⟨b, off + x, none⟩ = some (.int .i64 (y : Int)) ∧ w'.cell? ⟨gc, x, none⟩ = some (.int .i64 (c : Int))) (go_keep) (first | (go_at_call 66; refine (HK.out _).mono ?_; rintro e wp ⟨rfl, hownN, Bp⟩; have g1 := (Bp.cell (p := ⟨b2, off2 + k, none⟩) q1).trans ck; have g2 := (Bp.cell (p := ⟨b, off + x, none⟩) q2).trans cl; have g3 := (Bp.cell (p := ⟨gc, x, none⟩) q3).trans cc0; have hownP := own_belH hownO (fun i hi => Bp.block i hi); have bP : Below w1.heap.size w1 wp := bel_then Bp hszr ⟨bb.os, bb.tape, bb.output, bb.size, bb.block⟩) | (refine step_append_at4 _ (by rfl) _ _ _ (by rfl) w1.heap.size 5 i0 (.int .u8 0) 1 1 Try.underlying22 hi hz0 hz1 hz2' (by rfl) (by decide) u6 p _ (by rfl) (by exact hownP) ⟨wr.heap.size, 0, none⟩ y y (u8s (nbits c y)) (by rfl) hl8 (u8s_lies hownN) (u8s_one _) hm8 hb8 (by exact bP.size) ?_; intro v2 wB oB gB; have k1 := grown_cell gB g1 (own_ne hownP (by show b2 < w1.heap.size; omega)); have k2 := grown_cell gB g2 (own_ne hownP (by show b < w1.heap.size; omega)); have k3 := grown_cell gB g3 (own_ne hownP (by show gc < w1.heap.size; omega)); have bB : Below w1.heap.size w1 wB := bP.grown gB bP.size (fun b hb => (hownP.lt b hb).1)))
      all_goals
        have oB2 : wB.ownsRow w1.heap.size 5 1 v2 (P (k + 1)).length (u8s (P (k + 1))) := by
          rw [HNP.out, List.length_append, HPL.out, nbits_len, u8s_append]; exact oB
        go_wp2
        exact ⟨⟨k + 1, by omega, by go_num, oB2, bB⟩, by simp [intOf]; omega⟩
    · have hkm : k = m := by omega
      subst hkm
      go_wp2
      go_ret
      exact ⟨_, rfl, Joins.ownsRow_le hownO hsz1, hb1.trans (hbl.mono hsz1)⟩
set_option maxHeartbeats 2000000 in
set_option maxRecDepth 100000 in
theorem specPutSyms_yes (a a2 : Option Addr) (cap cap2 B : Nat) (ls ss : List Int) (w : World) (hz : Ints w B a ls) (hz2 : Ints w B a2 ss) (hB : B ≤ w.heap.size) (hok : putOk ls ss = true) :
    Calls Try.prog 18 #[.slice a ls.length cap, .slice a2 ss.length cap2] w fun e w' => ∃ D, Packs D (putL ls ss ss.length) ∧ e = .returned (.tuple #[.agg #[.string (strOf D), .int .i64 (lenSum ls ss ss.length)], .bool true]) ∧ Below w.heap.size w w' := by
  obtain ⟨hok1, hok2⟩ := (putOk_iff ls ss).1 hok
  have hr := lOk_range hok1
  have hs := (symsB_iff _ _).1 hok2
  have HI := hidden hz
  have HI2 := hidden hz2
  have hl := hz.1
  have bb : Below w.heap.size w (w.alloc (.cells #[.string ⟨#[]⟩, .int .i64 0] 32)) := (Below.refl _ _).alloc (Nat.le_refl _) _
  have hR := Has.fresh w 32 #[.string ⟨#[]⟩, .int .i64 0]
  have K1 := hidden (fun W h => specLensOk_any a cap B ls W h)
  have K2 := hidden (fun W h => l4symsOk_any a2 cap2 B ls.length ss W h hl)
  have K3 := hidden (fun W h h2 h3 => l4put_any a a2 cap cap2 B ls ss W h h2 h3 hok)
  have hle : (putL ls ss ss.length).length ≤ 1000000 := by
    rw [putL_len]
    have := lenSum_le hr hs.2 ss.length (Nat.le_refl _)
    have := hs.1
    omega
  have K4 := hidden (fun (W : World) v base h => l1close_own (putL ls ss ss.length) (putL_lt ls ss _) v base W hle h)
  have HLS := hidden (putL_len ls ss ss.length)
  obtain ⟨P, hP⟩ : ∃ P, putL ls ss ss.length = P := ⟨_, rfl⟩
  obtain ⟨n, hn⟩ : ∃ n, ls.length = n := ⟨_, rfl⟩
  obtain ⟨m, hm⟩ : ∃ m, ss.length = m := ⟨_, rfl⟩
  rw [hok1] at K1
  rw [hok2] at K2
  rw [hP] at K3 K4 HLS ⊢
  rw [hn] at K1 K2 K3 hl ⊢
  rw [hm] at K2 K3 HLS ⊢
  clear hz hz2 hok hok1 hok2 hr hs hle hP hn hm
  go_enter Try.func18, Try.ntmps18
  go_wp2_with fail
  refine (K1.out _ (HI.out.below (bb.mono hB))).mono ?_
  rintro e w1 ⟨rfl, hw1⟩
  rw [← hw1] at hR bb
  clear hw1
  go_wp2_with fail
  refine (K2.out _ (HI2.out.below (bb.mono hB))).mono ?_
  rintro e w2 ⟨rfl, hw2⟩
  rw [← hw2] at hR bb
  clear hw2
  have hs2 := bb.size
  go_wp2_with fail
  refine (K3.out _ (HI.out.below (bb.mono hB)) (HI2.out.below (bb.mono hB)) (Nat.le_trans hB hs2)).mono ?_
  rintro e w3 ⟨v, rfl, hown, b3⟩
  replace bb := bel_then b3 hs2 bb
  replace hR := hR.below b3 hR.lt
  have hs3 := bb.size
  clear b3
  go_wp2_with fail
  refine (K4.out _ _ _ hown).mono ?_
  rintro e w4 ⟨D, hD, rfl, b4⟩
  replace bb := bel_then b4 hs3 bb
  replace hR := hR.below b4 hR.lt
  rw [HLS.out]
  have e0 := hR.cell 0
  have e1 := hR.cell 1
  have g0 := hR.free 0
  have g1 := hR.free 1
  simp at e0 e1
  have hs4 := bb.size
  clear b4 hown hR
  go_wp2
  refine bodyPost_ret (v := .tuple #[.agg #[.string (strOf D), .int .i64 (lenSum ls ss m)], .bool true]) (by simp [results, Try.results18, go_sem, e0, e1, g0, g1]) rfl ⟨D, hD, rfl, ?_⟩
  repeat (first | exact Below.refl _ _ | assumption | refine Below.alloc ?_ (by (try simp); (try omega)) _ | refine Below.setCell ?_ (by (try simp); (try omega)) _ | refine Below.drew ?_ | refine bel_then (by assumption) (by (try simp); (try omega)) ?_)
set_option maxHeartbeats 2000000 in
set_option maxRecDepth 100000 in
theorem specPutSyms_no (a a2 : Option Addr) (cap cap2 B : Nat) (ls ss : List Int) (w : World) (hz : Ints w B a ls) (hz2 : Ints w B a2 ss) (hB : B ≤ w.heap.size) (hok : putOk ls ss = false) :
    Calls Try.prog 18 #[.slice a ls.length cap, .slice a2 ss.length cap2] w fun e w' => e = .returned (.tuple #[.agg #[.string ⟨#[]⟩, .int .i64 0], .bool false]) ∧ Below w.heap.size w w' := by
  have HI := hidden hz
  have HI2 := hidden hz2
  have hl := hz.1
  have bb : Below w.heap.size w (w.alloc (.cells #[.string ⟨#[]⟩, .int .i64 0] 32)) := (Below.refl _ _).alloc (Nat.le_refl _) _
  have hR := Has.fresh w 32 #[.string ⟨#[]⟩, .int .i64 0]
  have K1 := hidden (fun W h => specLensOk_any a cap B ls W h)
  have K2 := hidden (fun W h => l4symsOk_any a2 cap2 B ls.length ss W h hl)
  obtain ⟨o1, ho1⟩ : ∃ o, lOk ls = o := ⟨_, rfl⟩
  obtain ⟨o2, ho2⟩ : ∃ o, symsB ls.length ss = o := ⟨_, rfl⟩
  unfold putOk at hok
  rw [ho1, ho2] at hok
  rw [ho1] at K1
  rw [ho2] at K2
  obtain ⟨n, hn⟩ : ∃ n, ls.length = n := ⟨_, rfl⟩
  obtain ⟨m, hm⟩ : ∃ m, ss.length = m := ⟨_, rfl⟩
  rw [hn] at K1 K2 hl ⊢
  rw [hm] at K2 ⊢
  clear hz hz2 ho1 ho2 hn hm
  cases o1
  · clear hok
    go_enter Try.func18, Try.ntmps18
    go_wp2_with fail
    refine (K1.out _ (HI.out.below (bb.mono hB))).mono ?_
    rintro e w1 ⟨rfl, hw1⟩
    rw [← hw1] at hR bb
    clear hw1
    have e0 := hR.cell 0
    have e1 := hR.cell 1
    have g0 := hR.free 0
    have g1 := hR.free 1
    simp at e0 e1
    have hs1 := bb.size
    clear hR
    go_wp2
    refine bodyPost_ret (v := .tuple #[.agg #[.string ⟨#[]⟩, .int .i64 0], .bool false]) (by simp [results, Try.results18, go_sem, e0, e1, g0, g1]) rfl ⟨rfl, ?_⟩
    repeat (first | exact Below.refl _ _ | assumption | refine Below.alloc ?_ (by (try simp); (try omega)) _ | refine Below.setCell ?_ (by (try simp); (try omega)) _ | refine Below.drew ?_ | refine bel_then (by assumption) (by (try simp); (try omega)) ?_)
  · cases o2
    · clear hok
      go_enter Try.func18, Try.ntmps18
      go_wp2_with fail
      refine (K1.out _ (HI.out.below (bb.mono hB))).mono ?_
      rintro e w1 ⟨rfl, hw1⟩
      rw [← hw1] at hR bb
      clear hw1
      go_wp2_with fail
      refine (K2.out _ (HI2.out.below (bb.mono hB))).mono ?_
      rintro e w2 ⟨rfl, hw2⟩
      rw [← hw2] at hR bb
      clear hw2
      have e0 := hR.cell 0
      have e1 := hR.cell 1
      have g0 := hR.free 0
      have g1 := hR.free 1
      simp at e0 e1
      have hs1 := bb.size
      clear hR
      go_wp2
      refine bodyPost_ret (v := .tuple #[.agg #[.string ⟨#[]⟩, .int .i64 0], .bool false]) (by simp [results, Try.results18, go_sem, e0, e1, g0, g1]) rfl ⟨rfl, ?_⟩
      repeat (first | exact Below.refl _ _ | assumption | refine Below.alloc ?_ (by (try simp); (try omega)) _ | refine Below.setCell ?_ (by (try simp); (try omega)) _ | refine Below.drew ?_ | refine bel_then (by assumption) (by (try simp); (try omega)) ?_)
    · cases hok
end Go.Proofs.Ytdfbpmkdmpdobaa
