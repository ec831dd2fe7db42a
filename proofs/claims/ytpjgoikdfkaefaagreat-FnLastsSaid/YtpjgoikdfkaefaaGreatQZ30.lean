/- Merged: WLasts. -/
import Derived.Test.YtpjgoikdfkaefaaGreatQZ27
import Derived.Test.YtpjgoikdfkaefaaGreatQZ28
import Derived.Test.YtpjgoikdfkaefaaGreatQZ24
import Derived.Test.YtpjgoikdfkaefaaGreatQZ29
import Derived.Test.YtpjgoikdfkaefaaGreatQZ15
import Derived.Deep.RegionHeld3
import Derived.BigQuiet
import Derived.Deep.QuietTactic
namespace Go.Proofs.YtpjgoikdfkaefaaGreat
set_option linter.unusedVariables false
set_option linter.unusedSimpArgs false
open Go.RowKit

theorem code_mono11 {w : World} {B B' len cap : Nat} {a : Option Addr} {zs : List Int} (h : Code w B a len cap zs) (hB : B ≤ B') : Code w B' a len cap zs :=
  ⟨h.1, h.2.1, fun hl => let ⟨b, off, e, hb, hc⟩ := h.2.2 hl; ⟨b, off, e, Nat.lt_of_lt_of_le hb hB, hc⟩⟩
set_option maxHeartbeats 4000000 in
set_option maxRecDepth 100000 in
theorem walk_FnLasts (w : World) (mx : Int) (hmx : w.cell? ⟨0, 0, none⟩ = some (.int .i64 mx)) (hgx : 0 < w.heap.size) (a0 : Option Addr) (len0 cap0 : Nat) (z0 : List Int) (w0 : IsRow .u8 w a0 len0 cap0 z0) :
    Calls Tryz.prog 3 #[.slice a0 len0 cap0] w fun e w' => e = .returned (.bool true) ∧ Below w.heap.size w w' := by
  have hcode := Code.ofRow w0
  have KT := hidden (fun (W : World) (hW : Below w.heap.size w W) => turns_any mx W ((hW.cell (p := ⟨0, 0, none⟩) hgx).trans hmx) (Nat.lt_of_lt_of_le hgx hW.size))
  have KD : Hid (∀ W : World, Below w.heap.size w W → Calls Tryz.prog 7 #[.slice a0 len0 cap0] W fun e w' => ∃ (s : ByteArray) (f : Int), e = .returned (.tuple #[.string s, .int .i64 f]) ∧ s.size ≤ 1000 ∧ -1 ≤ f ∧ f ≤ 2000 ∧ Below W.heap.size W w') :=
    hidden (fun W hW => drawUnrotate_any a0 len0 cap0 z0 W (code_mono11 (hcode.below hW) hW.size))
  clear w0 hmx
  go_enter Tryz.func3, Tryz.ntmps3
  go_wp2_with fail
  refine (drawLast_any _ _ _ _ _ hcode).mono ?_
  rintro e wa ⟨s, rfl, hs, Ba⟩
  clear hcode
  have hL6 := lstZ_le s
  have hF6 := fstZ_range s
  obtain ⟨hF1, hF2⟩ := hF6
  have K1 := hidden (fun W => implLast_any s W (by omega))
  have K2 := hidden (fun W => implUnrotate_any (lstZ s) (fstZ s) W (by omega) (by omega) (by omega))
  go_wp2_with fail
  refine (K1.out _).mono ?_
  rintro e wb ⟨rfl, bb⟩
  have B := bel_then bb Ba.size Ba
  clear bb Ba K1
  go_wp2_with fail
  refine (K2.out _).mono ?_
  rintro e wc ⟨rfl, bc⟩
  have BC := bel_then bc B.size B
  clear bc B K2
  go_wp2_with fail
  refine (KD.out _ BC).mono ?_
  rintro e wd ⟨A, b, rfl, hA, hb1, hb2, bd⟩
  have BD := bel_then bd BC.size BC
  clear bd BC KD
  have K3 := hidden (fun W => implUnrotate_any A b W (by omega) (by omega) (by omega))
  have K4 := hidden (fun W => specUnrotate_any A b W (by omega) (by omega) (by omega))
  go_wp2_with fail
  refine (K3.out _).mono ?_
  rintro e we ⟨rfl, be⟩
  have BE := bel_then be BD.size BD
  clear be BD K3
  go_wp2_with fail
  refine (K4.out _).mono ?_
  rintro e wf ⟨rfl, bf⟩
  have BF := bel_then bf BE.size BE
  clear bf BE K4
  have hY := unS_size A b
  have K5 := hidden (fun W => implLast_any (unS A b) W (by omega))
  have HU := hidden (last_un A b)
  generalize hyS : unS A b = Y at K5 HU hY ⊢
  generalize hyB : unB A b = is at HU ⊢
  have KM : Hid (∀ W : World, Below w.heap.size w W → is = true → Calls Tryz.prog 5 #[.string Y] W fun e w' => e = .returned (.tuple #[.string A, .int .i64 b]) ∧ Below W.heap.size W w') := hidden (fun W hW hi => by
    have := K5.out W
    rw [(HU.out hi).1, (HU.out hi).2] at this
    exact this)
  clear K5 HU hyS hyB
  by_cases hok : 0 < s.size ∧ s.size ≤ 600
  · obtain ⟨u1, u2⟩ := un_last s hok
    rw [u1, u2]
    have K6 := hidden (fun W => implUsed_any (lstZ s) W (by omega))
    have K7 := hidden (fun W => specUsed_any s W (by omega))
    rw [used_last s hok] at K6
    generalize usedL (bytesOf s) = U at K6 K7
    generalize lstZ s = L at K6 hL6 ⊢
    generalize fstZ s = F at hF1 hF2 ⊢
    obtain ⟨h1, h2⟩ := hok
    have hne : ¬ s = ByteArray.empty := by rintro rfl; simp at h1
    have h6 : decide ((600 : Int) < (s.size : Int)) = false := by simp; omega
    have h7 : ((s.size : Int) == 0) = false := by simp; omega
    clear u1 u2
    cases is with
    | true =>
      have n1 : (A.toList != A.toList) = false := by simp
      go_wp2_with fail
      refine (KM.out _ BF trivial).mono ?_
      rintro e wg ⟨rfl, bg⟩
      have bb := bel_then bg BF.size BF
      clear bg BF KM
      have n2 : (s.toList == s.toList) = true := beq_self_eq_true _
      have n3 : ((strOf U).toList == (strOf U).toList) = true := beq_self_eq_true _
      go_wp2_with fail
      refine (K6.out _).mono ?_
      rintro e wh ⟨rfl, bh⟩
      have BH := bel_then bh bb.size bb
      clear bh bb K6
      go_wp2_with fail
      refine (K7.out _).mono ?_
      rintro e wi ⟨rfl, bi⟩
      have BI := bel_then bi BH.size BH
      clear bi BH K7
      go_wp2_with fail
      refine (KT.out _ BI).mono ?_
      rintro e wj ⟨rfl, bj⟩
      have BJ := bel_then bj BI.size BI
      go_wp2
      go_ret
      exact ⟨rfl, BJ⟩
    | false =>
      have bb := BF
      clear BF KM
      have n2 : (s.toList == s.toList) = true := beq_self_eq_true _
      have n3 : ((strOf U).toList == (strOf U).toList) = true := beq_self_eq_true _
      go_wp2_with fail
      refine (K6.out _).mono ?_
      rintro e wh ⟨rfl, bh⟩
      have BH := bel_then bh bb.size bb
      clear bh bb K6
      go_wp2_with fail
      refine (K7.out _).mono ?_
      rintro e wi ⟨rfl, bi⟩
      have BI := bel_then bi BH.size BH
      clear bi BH K7
      go_wp2_with fail
      refine (KT.out _ BI).mono ?_
      rintro e wj ⟨rfl, bj⟩
      have BJ := bel_then bj BI.size BI
      go_wp2
      go_ret
      exact ⟨rfl, BJ⟩
  · obtain ⟨u1, u2, u3⟩ := un_none s hok
    rw [u1, u2, u3]
    cases is with
    | true =>
      have n1 : (A.toList != A.toList) = false := by simp
      go_wp2_with fail
      refine (KM.out _ BF trivial).mono ?_
      rintro e wg ⟨rfl, bg⟩
      have bb := bel_then bg BF.size BF
      clear bg BF KM
      have n2 : ((⟨#[]⟩ : ByteArray).toList == []) = true := by rw [ByteArray.toList_eq]; rfl
      by_cases h0 : s.size = 0
      · have h7 : ((s.size : Int) == 0) = true := by simp [h0]
        go_wp2_with fail
        refine (KT.out _ bb).mono ?_
        rintro e wj ⟨rfl, bj⟩
        have BJ := bel_then bj bb.size bb
        go_wp2
        go_ret
        exact ⟨rfl, BJ⟩
      · have h7 : ((s.size : Int) == 0) = false := beq_eq_false_iff_ne.2 (by omega)
        have h6 : decide ((600 : Int) < (s.size : Int)) = true := decide_eq_true (by omega)
        go_wp2_with fail
        refine (KT.out _ bb).mono ?_
        rintro e wj ⟨rfl, bj⟩
        have BJ := bel_then bj bb.size bb
        go_wp2
        go_ret
        exact ⟨rfl, BJ⟩
    | false =>
      have bb := BF
      clear BF KM
      have n2 : ((⟨#[]⟩ : ByteArray).toList == []) = true := by rw [ByteArray.toList_eq]; rfl
      by_cases h0 : s.size = 0
      · have h7 : ((s.size : Int) == 0) = true := by simp [h0]
        go_wp2_with fail
        refine (KT.out _ bb).mono ?_
        rintro e wj ⟨rfl, bj⟩
        have BJ := bel_then bj bb.size bb
        go_wp2
        go_ret
        exact ⟨rfl, BJ⟩
      · have h7 : ((s.size : Int) == 0) = false := beq_eq_false_iff_ne.2 (by omega)
        have h6 : decide ((600 : Int) < (s.size : Int)) = true := decide_eq_true (by omega)
        go_wp2_with fail
        refine (KT.out _ bb).mono ?_
        rintro e wj ⟨rfl, bj⟩
        have BJ := bel_then bj bb.size bb
        go_wp2
        go_ret
        exact ⟨rfl, BJ⟩
end Go.Proofs.YtpjgoikdfkaefaaGreat
