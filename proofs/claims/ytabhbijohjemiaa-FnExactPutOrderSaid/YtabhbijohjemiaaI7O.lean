/- Chapter 7, the program: PutOrder. -/
import Derived.Test.YtabhbijohjemiaaI7X
import Derived.Test.YtabhbijohjemiaaC1WPut
import Derived.Test.YtabhbijohjemiaaC7E
namespace Go.Proofs.Ytabhbijohjemiaa
set_option linter.unusedVariables false
set_option linter.unusedSimpArgs false
open Go.RowKit Go.Maps

theorem CntAt.isMap {W : World} {b n : Nat} {f : Nat → Nat} (h : CntAt W b n f) : ∃ es c, W.heap[b]? = some (.map es c) := by
  obtain ⟨D, ⟨es, c, hh, _⟩, _⟩ := h
  exact ⟨es, c, hh⟩
theorem CntAt.keeps {W W' : World} {b n g : Nat} {f : Nat → Nat} (h : CntAt W b n f) (hk : Keeps g W W') (hne : b ≠ g) : CntAt W' b n f := by
  obtain ⟨D, ⟨es, c, hh, hr⟩, h2⟩ := h
  exact ⟨D, ⟨es, c, hk b _ hne (fun cs fr e => by cases e) hh, hr⟩, h2⟩
theorem BL.keeps {W W' : World} {lb mb g : Nat} {u : List Nat} (h : BL W lb mb u) (hk : Keeps g W W') (h1 : lb ≠ g) (h2 : mb ≠ g) : BL W' lb mb u :=
  ⟨hk.has h1 (by decide) h.1, h.2.keeps hk h2⟩
theorem Writes.two {w w' : World} {base g lb mb : Nat} {l u : List Nat} (h : Writes w base g l) (hB : BL w lb mb u) (ht : Two lb mb w w') (h1 : g ≠ lb) (h2 : g ≠ mb) : Writes w' base g l := by
  obtain ⟨v, D, hH, hR, hP, hn⟩ := h
  refine ⟨v, D, ht.has hH h1 h2, hR.keep fun q hq => ht.2.2.2.2 q (hR.lt q hq).2 ?_ ?_, hP, hn⟩
  · intro e
    exact hR.neHas hB.1 (by decide) (by rw [hq, e])
  · intro e
    obtain ⟨es, c, hm⟩ := hB.2.isMap
    exact hR.notOther (fun cs fr e => by cases e) hm (by rw [hq, e])
theorem writes_len {l : List Nat} {k m : Nat} : (l ++ nbits k m).length = l.length + m := by rw [List.length_append, nbits_len]
set_option maxHeartbeats 2000000 in
set_option maxRecDepth 100000 in
theorem implPutOrder_yes (s : ByteArray) (w : World) (hs : s.size ≤ 1048576) (hok : ordOk (bytesOf s) = true) :
    Calls Try.prog 22 #[.string s] w fun e w' => ∃ D, Packs D (putO (usedL (bytesOf s)) (bytesOf s)) ∧ e = .returned (.tuple #[.agg #[.string (strOf D), .int .i64 ((putO (usedL (bytesOf s)) (bytesOf s)).length : Int)], .bool true]) ∧ Below w.heap.size w w' := by
  have bb : Below w.heap.size w (w.alloc (.cells #[.string ⟨#[]⟩, .int .i64 0] 25)) := (Below.refl _ _).alloc (Nat.le_refl _) _
  have hR := Has.fresh w 25 #[.string ⟨#[]⟩, .int .i64 0]
  have hnd := ((ordOk_iff _).1 hok).2
  have hs256 : s.size ≤ 256 := by rw [← bytesOf_len]; exact nodup_256 (byt_bytesOf s) hnd
  have K0 := hidden (fun W => implOrderOk_any s W hs)
  rw [hok] at K0
  have K4 := hidden (fun (W : World) => writerOf_any ⟨#[]⟩ 0 W (by decide))
  have KL := hidden (fun W => listOf_any s W hs)
  have HX := hidden (drop_at s)
  have HLn := hidden (bytesOf_len s)
  have HP0 := hidden (used_perm (byt_bytesOf s) hnd)
  have HAs := hidden (usedL_asc (bytesOf s))
  have HB := hidden (byt_bytesOf s)
  have HND := hidden hnd
  obtain ⟨O, hO⟩ : ∃ O, bytesOf s = O := ⟨_, rfl⟩
  rw [hO] at KL HX HLn HP0 HAs HB HND ⊢
  obtain ⟨A, hA⟩ : ∃ A, putO (usedL O) O = A := ⟨_, rfl⟩
  have HA := hidden hA
  rw [hA]
  clear hA hnd hok hO
  go_enter Try.func22, Try.ntmps22
  go_wp2_with fail
  refine (K0.out _).mono ?_
  rintro e w1 ⟨rfl, b1⟩
  replace bb := bel_then b1 bb.size bb
  replace hR := hR.below b1 hR.lt
  have hs1 := bb.size
  have hRl1 := hR.lt
  clear b1
  go_wp2_with fail
  refine (K4.out _).mono ?_
  rintro e w2 ⟨g, rfl, hW2, hg2, b2⟩
  replace bb := bel_then b2 hs1 bb
  replace hR := hR.below b2 hR.lt
  have hs2 := bb.size
  have hs12 := b2.size
  rw [show row ⟨#[]⟩ 0 0 = [] from rfl] at hW2
  obtain ⟨base, hbase⟩ : ∃ base, w1.heap.size = base := ⟨_, rfl⟩
  rw [hbase] at hW2 hg2 hs12 hRl1 hs1
  have hgl2 := hW2.lt
  clear b2
  go_wp2_with fail
  refine (KL.out _).mono ?_
  rintro e w3 ⟨lb, rfl, hlb, hBL, b3⟩
  replace bb := bel_then b3 hs2 bb
  replace hR := hR.below b3 hR.lt
  have hW3 := hW2.below b3
  have hs3 := b3.size
  obtain ⟨mb, hmb⟩ : ∃ mb, w2.heap.size = mb := ⟨_, rfl⟩
  rw [hmb] at hBL hlb hs3 hgl2
  have hbm : base ≤ mb := by omega
  have hgm : g < mb := hgl2
  have hHb : w.heap.size < base := hRl1
  clear b3 hW2 hmb hs12 hs1 hs2
  go_wp2
  go_loopw [6, 17] (fun _ si wr => ∃ (i : Nat) (P D : List Nat), i ≤ s.size ∧ si = .int .i64 i ∧ Hid (A = D ++ putO P (O.drop i)) ∧ Hid (P.Perm (O.drop i)) ∧ Hid (P.Pairwise (· < ·)) ∧ D.length ≤ 8 * i ∧ Writes wr base g D ∧ BL wr lb mb (O.drop i) ∧ Has wr w.heap.size 25 #[.string ⟨#[]⟩, .int .i64 0] ∧ Below w.heap.size w wr ∧ base ≤ wr.heap.size) (fun _ si _ => s.size - (intOf si).toNat)
  case atStart => exact ⟨0, usedL O, [], by omega, rfl, hidden (by rw [← HA.out]; rfl), HP0, HAs, by simp, hW3, by simpa using hBL, hR, bb, by omega⟩
  case round =>
    obtain ⟨i, P, D, hi2, rfl, HD, HP, HPA, hDl, hW, hL, hR, hbl, hsz⟩ := hrel
    clear bb hBL hW3
    by_cases hlt : i < s.size
    · obtain ⟨x, hx⟩ : ∃ x, s[i].toNat = x := ⟨_, rfl⟩
      have hx256 : x < 256 := by rw [← hx]; exact UInt8.toNat_lt _
      have hdr := HX.out i hlt
      rw [hx] at hdr
      have hdn : (O.drop i).Nodup := HND.out.sublist (List.drop_sublist i O)
      have hdb : Byt (O.drop i) := fun b hb => HB.out b (List.mem_of_mem_drop hb)
      have hxd : x ∈ O.drop i := by rw [hdr]; exact List.mem_cons_self ..
      have hxP : x ∈ P := HP.out.mem_iff.2 hxd
      have hdl : (O.drop i).length ≤ 256 := nodup_256 hdb hdn
      have hk := idx_lt hxP
      have hPl := HP.out.length_eq
      have hbef : befB (O.drop i) x = P.idxOf x := by rw [idx_bef HPA.out hxP, befB_perm HP.out]
      have KI := hidden (indexOf_any lb mb x (O.drop i) wr hL hx256 hdl)
      rw [hbef] at KI
      have KB := hidden (indexBits_any lb mb (O.drop i) wr hL hdn hdb (by rw [hdr]; simp))
      rw [← hPl] at KB hdl
      have hup := need_up P.length
      have hnd8 := need_le P.length hdl
      have her : (O.drop i).erase x = O.drop (i + 1) := by rw [hdr, List.erase_cons_head]
      have KR := hidden (fun (W : World) (h : BL W lb mb (O.drop i)) => remove_any lb mb x (O.drop i) W h hdn hxd hx256 (by omega) (by omega))
      rw [her] at KR
      obtain ⟨k, hkk⟩ : ∃ k, P.idxOf x = k := ⟨_, rfl⟩
      obtain ⟨m, hmm⟩ : ∃ m, needB P.length = m := ⟨_, rfl⟩
      have hE : Hid (putO P (x :: O.drop (i + 1)) = nbits k m ++ putO (P.erase x) (O.drop (i + 1))) := hidden (by rw [putO, hkk, hmm])
      have HP2 : Hid ((P.erase x).Perm (O.drop (i + 1))) := hidden (by have := HP.out.erase x; rwa [her] at this)
      have HPA2 : Hid ((P.erase x).Pairwise (· < ·)) := hidden (HPA.out.sublist List.erase_sublist)
      rw [hkk] at KI hk
      rw [hmm] at KB hup hnd8
      have hkm : k < 2 ^ m := by omega
      have HD2 : Hid (A = (D ++ nbits k m) ++ putO (P.erase x) (O.drop (i + 1))) := hidden (by rw [HD.out, hdr, hE.out, List.append_assoc])
      have KPut := hidden (put_any g base D k m wr hW hg2 hsz (by omega) hkm (by omega))
      have HW := hidden hW
      have HL := hidden hL
      clear hkk hmm hbef hdr hdn hdb hxd hxP hdl hk hPl hup her hW hL hkm
      go_wp2_with fail
      refine KI.out.mono ?_
      rintro e w4 ⟨rfl, rfl⟩
      go_wp2_with fail
      refine KB.out.mono ?_
      rintro e w5 ⟨rfl, rfl⟩
      go_wp2_with fail
      refine KPut.out.mono ?_
      rintro e w6 ⟨rfl, hW6, b6, hK6⟩
      have hL6 := HL.out.keeps hK6 (by omega) (by omega)
      have hR6 := hR.below b6 hHb
      have hbl6 : Below w.heap.size w w6 := hbl.trans (b6.mono (by omega))
      have hs6 := b6.size
      clear hR hbl hK6 b6
      go_wp2_with fail
      refine (KR.out _ hL6).mono ?_
      rintro e w7 ⟨rfl, hL7, ht7⟩
      have hW7 := hW6.two hL6 ht7 (by omega) (by omega)
      have hR7 := ht7.has hR6 (by omega) (by omega)
      have hbl7 : Below w.heap.size w w7 := hbl6.trans ((ht7.below (B := base) (by omega) (by omega) (by omega)).mono (by omega))
      have hs7 := ht7.2.2.2.1
      clear hL6 hW6 hR6 hbl6 ht7
      go_wp2
      go_roundw
      case rel => exact ⟨i + 1, P.erase x, D ++ nbits k m, by omega, by go_num, HD2, HP2, HPA2, by rw [writes_len]; omega, hW7, hL7, hR7, hbl7, by omega⟩
      case measure => simp [intOf]; omega
    · have hie : i = s.size := by omega
      have HF : Hid (D = A) := hidden (by rw [HD.out, hie, ← HLn.out, List.drop_length, putO, List.append_nil])
      subst hie
      have KF := hidden (bits_any g base D wr hW)
      rw [HF.out] at KF
      clear hW hL
      go_wp2_with fail
      refine KF.out.mono ?_
      rintro e w7 ⟨E, hE, rfl, b7⟩
      have hbs := hbl.size
      have bb7 := bel_then b7 hbs hbl
      have hR7 := hR.below b7 hR.lt
      have e0 := hR7.cell 0
      have e1 := hR7.cell 1
      have g0 := hR7.free 0
      have g1 := hR7.free 1
      simp at e0 e1
      have hs7 := bb7.size
      clear b7 hR hR7
      go_wp2
      refine bodyPost_ret (v := .tuple #[.agg #[.string (strOf E), .int .i64 (A.length : Int)], .bool true]) (by simp [results, Try.results22, go_sem, e0, e1, g0, g1]) rfl ⟨E, hE, rfl, ?_⟩
      repeat (first | exact Below.refl _ _ | assumption | refine Below.alloc ?_ (by (try simp); (try omega)) _ | refine Below.setCell ?_ (by (try simp); (try omega)) _ | refine Below.drew ?_ | refine bel_then (by assumption) (by (try simp); (try omega)) ?_)
theorem implPutOrder_no (s : ByteArray) (w : World) (hs : s.size ≤ 1048576) (hok : ordOk (bytesOf s) = false) :
    Calls Try.prog 22 #[.string s] w fun e w' => e = .returned (.tuple #[.agg #[.string ⟨#[]⟩, .int .i64 0], .bool false]) ∧ Below w.heap.size w w' := by
  have bb : Below w.heap.size w (w.alloc (.cells #[.string ⟨#[]⟩, .int .i64 0] 25)) := (Below.refl _ _).alloc (Nat.le_refl _) _
  have hR := Has.fresh w 25 #[.string ⟨#[]⟩, .int .i64 0]
  have K0 := hidden (fun W => implOrderOk_any s W hs)
  rw [hok] at K0
  go_enter Try.func22, Try.ntmps22
  go_wp2_with fail
  refine (K0.out _).mono ?_
  rintro e w2 ⟨rfl, b2⟩
  replace bb := bel_then b2 bb.size bb
  replace hR := hR.below b2 hR.lt
  have hs2 := bb.size
  have e0 := hR.cell 0
  have e1 := hR.cell 1
  have g0 := hR.free 0
  have g1 := hR.free 1
  simp at e0 e1
  clear b2 hR
  go_wp2
  refine bodyPost_ret (v := .tuple #[.agg #[.string ⟨#[]⟩, .int .i64 0], .bool false]) (by simp [results, Try.results22, go_sem, e0, e1, g0, g1]) rfl ⟨rfl, ?_⟩
  repeat (first | exact Below.refl _ _ | assumption | refine Below.alloc ?_ (by (try simp); (try omega)) _ | refine Below.setCell ?_ (by (try simp); (try omega)) _ | refine Below.drew ?_ | refine bel_then (by assumption) (by (try simp); (try omega)) ?_)
end Go.Proofs.Ytabhbijohjemiaa
