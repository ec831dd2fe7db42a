/- Chapter 7, the program: the counts of a string's bytes; OrderOk. -/
import Derived.Test.YtabhbijohjemiaaI7M
import Derived.Test.YtabhbijohjemiaaH1
import Derived.Carry
namespace Go.Proofs.Ytabhbijohjemiaa
set_option linter.unusedVariables false
set_option linter.unusedSimpArgs false
open Go.RowKit Go.Maps

theorem count_up (s : ByteArray) (k : Nat) (h : k < s.size) : (fun b => ((bytesOf s).take (k + 1)).count b) = fun b => if b = s[k].toNat then ((bytesOf s).take k).count s[k].toNat + 1 else ((bytesOf s).take k).count b := by
  funext t
  rw [bytes_at s k h, List.count_append]
  by_cases e : t = s[k].toNat
  · subst e; simp
  · simp [e, List.count_cons, Ne.symm e]
set_option maxHeartbeats 1000000 in
set_option maxRecDepth 100000 in
theorem countsOf_any (s : ByteArray) (w : World) (hs : s.size ≤ 1048576) :
    Calls Try.prog 61 #[.string s] w fun e w' => e = .returned (.map (some w.heap.size)) ∧ CntAt w' w.heap.size s.size (fun b => (bytesOf s).count b) ∧ Below w.heap.size w w' := by
  have HALL : Hid ((bytesOf s).take s.size = bytesOf s) := hidden (by rw [← bytesOf_len]; exact List.take_length)
  have hmm := @run_makeMap Try.prog
  go_enter Try.func61, Try.ntmps61
  go_wp2
  go_loopw [4, 8] (fun _ sk wr => ∃ k : Nat, k ≤ s.size ∧ sk = .int .i64 k ∧ CntAt wr w.heap.size k (fun b => ((bytesOf s).take k).count b) ∧ Below w.heap.size w wr) (fun _ sk _ => s.size - (intOf sk).toNat)
  case atStart => exact ⟨0, by omega, rfl, ⟨_, World.ownsMap_made w Try.prog 5 (plainElem (H := Unit) Try.prog 3), by simpa using cnt_nil⟩, (Below.refl _ _).alloc (Nat.le_refl _) _⟩
  case round =>
    obtain ⟨k, hk, rfl, ⟨D, hown, hC⟩, hbl⟩ := hrel
    by_cases hlt : k < s.size
    · have hx : s[k].toNat < 256 := UInt8.toNat_lt _
      have HUP := hidden (count_up s k hlt)
      have hc : ((bytesOf s).take k).count s[k].toNat ≤ k := by
        have := List.count_le_length (a := s[k].toNat) (l := (bytesOf s).take k)
        rw [List.length_take] at this; omega
      obtain ⟨x, hxx⟩ : ∃ x, s[k].toNat = x := ⟨_, rfl⟩
      rw [hxx] at hx hc HUP
      have HC2 := hidden (cnt_put hC hx)
      have HAT := hidden (hC.2.2.1 x hx)
      obtain ⟨c, hcc⟩ : ∃ c, ((bytesOf s).take k).count x = c := ⟨_, rfl⟩
      simp only [hcc] at hc HUP HC2 HAT
      have hkey := keyB hx
      clear hcc hC
      go_wp2_with (first | (at_lookup; refine wpList_lookup_own_int _ rfl _ _ 73 rfl 5 3 .i64 byteKey Try.underlying73 Try.underlying3 (zeroI7 _) w.heap.size k D rfl hown _ _ rfl hkey ?_; intro q hat hwc; obtain rfl : q = (c : Int) := (by have h1 := hat.symm.trans HAT.out; simpa using h1)) | (at_mapUpdate; refine wpList_mapUpdate_own _ rfl _ _ _ 73 rfl 5 3 byteKey Try.underlying73 _ w.heap.size k _ rfl hown (by unfold maxLen; omega) _ _ _ rfl rfl hkey (.lit (.int .i64 ((c : Int) + 1))) [] (plainElem_int Try.underlying3 (WalkArith.wf_i64 (by omega))) ?_; intro w2 hown2 hgrow2))
      go_roundw
      case rel => exact ⟨k + 1, by omega, by go_num, ⟨_, hown2, by rw [HUP.out]; exact HC2.out⟩, hbl.grown hgrow2 hbl.size (fun j hj => by cases hj; exact Nat.le_refl _)⟩
      case measure => simp [intOf]; omega
    · have hkn : k = s.size := by omega
      subst hkn
      rw [HALL.out] at hC
      go_wp2
      go_ret
      exact ⟨rfl, ⟨D, hown, hC⟩, hbl⟩

theorem str_ne_nil {s : ByteArray} (h : 0 < s.size) : (s.toList == ByteArray.toList ⟨#[]⟩) = false := by
  rw [beq_eq_false_iff_ne, ByteArray.toList_eq, ByteArray.toList_eq]
  intro e
  have h2 : s.data.toList.length = s.size := by simp
  rw [e] at h2
  simp at h2
  omega
theorem str_isEmpty {s : ByteArray} (h : 0 < s.size) : s.toList.isEmpty = false := by
  rw [Bool.eq_false_iff]
  intro e
  rw [List.isEmpty_iff, ByteArray.toList_eq] at e
  have h2 : s.data.toList.length = s.size := by simp
  rw [e] at h2
  simp at h2
  omega
theorem str_zero {s : ByteArray} (h : ¬ 0 < s.size) : s = ⟨#[]⟩ := by
  have : bytesOf s = [] := List.length_eq_zero_iff.1 (by rw [bytesOf_len]; omega)
  rw [← strOf_bytesOf s, this]; rfl
set_option maxHeartbeats 1000000 in
set_option maxRecDepth 100000 in
theorem implOrderOk_any (s : ByteArray) (w : World) (hs : s.size ≤ 1048576) :
    Calls Try.prog 33 #[.string s] w fun e w' => e = .returned (.bool (ordOk (bytesOf s))) ∧ Below w.heap.size w w' := by
  have K := hidden (fun W : World => countsOf_any s W hs)
  by_cases h0 : 0 < s.size
  · have HS := hidden (ordOk_str s)
    have HCU := hidden (card_used (bytesOf s))
    obtain ⟨o, ho⟩ : ∃ o, ordOk (bytesOf s) = o := ⟨_, rfl⟩
    obtain ⟨m, hm⟩ : ∃ m, (usedL (bytesOf s)).length = m := ⟨_, rfl⟩
    rw [ho, hm] at HS
    rw [hm] at HCU
    rw [ho]
    clear ho hm
    have hne := str_isEmpty h0
    by_cases he : m = s.size
    · have HO : Hid (o = true) := hidden (HS.out.2 ⟨h0, he⟩)
      go_enter Try.func33, Try.ntmps33
      go_wp2_with fail
      refine (K.out _).mono ?_
      rintro e w1 ⟨rfl, ⟨D, hown, hC⟩, b1⟩
      have hlen := hown.len Try.underlying73
      rw [hC.2.2.2, HCU.out] at hlen
      clear hC hown
      go_wp2
      go_ret
      exact ⟨ret_bool HO.out.symm, b1⟩
    · have HO : Hid (o = false) := hidden (by
        cases o
        · rfl
        · exact absurd (HS.out.1 rfl).2 he)
      go_enter Try.func33, Try.ntmps33
      go_wp2_with fail
      refine (K.out _).mono ?_
      rintro e w1 ⟨rfl, ⟨D, hown, hC⟩, b1⟩
      have hlen := hown.len Try.underlying73
      rw [hC.2.2.2, HCU.out] at hlen
      clear hC hown
      go_wp2
      go_ret
      exact ⟨ret_bool (by rw [HO.out]; exact beq_eq_false_iff_ne.2 (by omega)), b1⟩
  · obtain rfl := str_zero h0
    have HO : Hid (ordOk (bytesOf ⟨#[]⟩) = false) := hidden (by decide)
    go_enter Try.func33, Try.ntmps33
    go_wp2
    go_ret
    exact ⟨ret_bool (by rw [HO.out]), Below.refl _ _⟩
end Go.Proofs.Ytabhbijohjemiaa
