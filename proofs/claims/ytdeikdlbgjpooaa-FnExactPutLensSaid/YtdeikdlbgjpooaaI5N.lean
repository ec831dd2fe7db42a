/- Chapter 5, the program: GetLens, where nothing can be read from the start. -/
import Derived.Test.YtdeikdlbgjpooaaI5J
namespace Go.Proofs.Ytdeikdlbgjpooaa
set_option linter.unusedVariables false
set_option linter.unusedSimpArgs false
open Go.RowKit

/-- What holds at the two labels that the run can reach. -/
def JumpNo (w : World) (gk : Nat) : Nat → Value → World → Prop
  | 0, _, w' => Base5 w w'
  | 1, vk, w' => Base5 w w' ∧ vk = .bool false ∧ gk = 1
  | _, _, _ => False

/-- Nothing is read. -/
def GLNo (w : World) (e : Ending) (w' : World) : Prop := e = .returned (.tuple #[.slice none 0 0, .agg #[.string ⟨#[]⟩, .int .i64 0], .bool false]) ∧ Below w.heap.size w w'

set_option maxHeartbeats 4000000 in
set_option maxRecDepth 100000 in
theorem implGetLens_count (s : ByteArray) (at0 n : Int) (w : World) (hs : s.size ≤ 1048576) (b1 : -9223372036854775808 ≤ at0) (b2 : at0 ≤ 9223372036854775807) (hn : n < 1 ∨ 260 < n) :
    Calls Try.prog 16 #[.agg #[.string s, .int .i64 at0], .int .i64 n] w (GLNo w) := by
  go_enter Try.func16, Try.ntmps16
  go_wp2
  refine wp_scope4 (fun _ _ _ _ => False) rfl rfl rfl rfl ?h0 ?h2 ?h3 ?h1 ?hf ?hJ
  case hJ =>
    intro g l a' w' hj
    exact hj.elim
  case h0 =>
    intro gk a' wr hj
    exact hj.elim
  case h2 =>
    intro gk a' wr hj
    exact hj.elim
  case h3 =>
    intro _ gk a' wr hj
    exact hj.elim
  case h1 =>
    intro _ gk a' wr hj
    exact hj.elim
  case hf =>
    intro H1 Qx hQx
    clear H1
    have hS := Has.freshAt (w := w.alloc (.cells #[.string s, .int .i64 at0] 35)) (g := w.heap.size + 1) (by simp) 35 #[.string ⟨#[]⟩, .int .i64 0]
    have bb : Below w.heap.size w ((w.alloc (.cells #[.string s, .int .i64 at0] 35)).alloc (.cells #[.string ⟨#[]⟩, .int .i64 0] 35)) := ((Below.refl _ _).alloc (Nat.le_refl _) _).alloc (by simp) _
    have e0 := hS.cell 0
    have e1 := hS.cell 1
    have f0 := hS.free 0
    have f1 := hS.free 1
    simp at e0 e1
    clear hS
    by_cases h1 : n < 1
    · go_wp2
      all_goals (try go_wp2)
      all_goals (try simp only [jumps])
      all_goals
        refine bodyPost_ret (v := .tuple #[.slice none 0 0, .agg #[.string ⟨#[]⟩, .int .i64 0], .bool false]) (by simp [results, Try.results16, go_sem, e0, e1, f0, f1]) rfl ⟨rfl, ?_⟩
        repeat (first | exact Below.refl _ _ | assumption | refine Below.alloc ?_ (by (try simp); (try omega)) _ | refine Below.setCell ?_ (by (try simp); (try omega)) _ | refine Below.drew ?_)
    · have h2 : (260 : Int) < n := by omega
      go_wp2
      all_goals (try go_wp2)
      all_goals (try simp only [jumps])
      all_goals
        refine bodyPost_ret (v := .tuple #[.slice none 0 0, .agg #[.string ⟨#[]⟩, .int .i64 0], .bool false]) (by simp [results, Try.results16, go_sem, e0, e1, f0, f1]) rfl ⟨rfl, ?_⟩
        repeat (first | exact Below.refl _ _ | assumption | refine Below.alloc ?_ (by (try simp); (try omega)) _ | refine Below.setCell ?_ (by (try simp); (try omega)) _ | refine Below.drew ?_)

set_option maxHeartbeats 4000000 in
set_option maxRecDepth 100000 in
theorem implGetLens_place (s : ByteArray) (at0 : Int) (n : Nat) (w : World) (hs : s.size ≤ 1048576) (b1 : -9223372036854775808 ≤ at0) (b2 : at0 ≤ 9223372036854775807) (hn1 : 1 ≤ n) (hn2 : n ≤ 260) (h : ¬ (0 ≤ at0 ∧ at0 ≤ 8 * s.size)) :
    Calls Try.prog 16 #[.agg #[.string s, .int .i64 at0], .int .i64 n] w (GLNo w) := by
  obtain ⟨i0, hi, hz0, hz1, hz2⟩ := info_parts Try.infoInt
  go_enter Try.func16, Try.ntmps16
  go_wp2
  refine wp_scope4 (fun (gk l : Nat) (a' : Act) (w' : World) => ∃ u0 u3 u7 u8 u9 u10 u11 u12 u13 u14 u15 u16 u17 u18 u19 u20 u21 u22 u23 u24 u25 u26 u27 u28 u29 u30 u31 u32 u33 u34 u35 u36 u37 u38 u39 u40 u41 u42 u43 u44 u45 u46 u47 u48 u49 u50 u51 u52 u53 u54 u55 u56 u57 u58 u59 u60 u61 u62 u63 u64 u65 u66 u67 u68 u69 u70 : Value, JumpNo w gk l u10 w' ∧ a' = { tmps := #[u0, .int .i64 n, .pointer (some ⟨w.heap.size, 0, none⟩), u3, .slice none 0 0, .pointer (some ⟨w.heap.size + 1, 0, none⟩), .bool false, u7, u8, u9, u10, u11, u12, u13, u14, u15, u16, u17, u18, u19, u20, u21, u22, u23, u24, u25, u26, u27, u28, u29, u30, u31, u32, u33, u34, u35, u36, u37, u38, u39, u40, u41, u42, u43, u44, u45, u46, u47, u48, u49, u50, u51, u52, u53, u54, u55, u56, u57, u58, u59, u60, u61, u62, u63, u64, u65, u66, u67, u68, u69, u70], defers := [] }) rfl rfl rfl rfl ?h0 ?h2 ?h3 ?h1 ?hf ?hJ
  case hJ =>
    intro g l a' w' hj
    obtain ⟨u0, u3, u7, u8, u9, u10, u11, u12, u13, u14, u15, u16, u17, u18, u19, u20, u21, u22, u23, u24, u25, u26, u27, u28, u29, u30, u31, u32, u33, u34, u35, u36, u37, u38, u39, u40, u41, u42, u43, u44, u45, u46, u47, u48, u49, u50, u51, u52, u53, u54, u55, u56, u57, u58, u59, u60, u61, u62, u63, u64, u65, u66, u67, u68, u69, u70, hrel, rfl⟩ := hj
    match l, hrel with
    | 0, _ => exact .inl rfl
    | 1, _ => exact .inr (.inl rfl)
    | _ + 2, h => exact h.elim
  case h0 =>
    intro gk a' wr hj Qx hQx
    obtain ⟨u0, u3, u7, u8, u9, u10, u11, u12, u13, u14, u15, u16, u17, u18, u19, u20, u21, u22, u23, u24, u25, u26, u27, u28, u29, u30, u31, u32, u33, u34, u35, u36, u37, u38, u39, u40, u41, u42, u43, u44, u45, u46, u47, u48, u49, u50, u51, u52, u53, u54, u55, u56, u57, u58, u59, u60, u61, u62, u63, u64, u65, u66, u67, u68, u69, u70, hrel, rfl⟩ := hj
    obtain ⟨hS, hbl⟩ := hrel
    have e0 := hS.cell 0
    have e1 := hS.cell 1
    have f0 := hS.free 0
    have f1 := hS.free 1
    simp at e0 e1
    have hsb := hbl.size
    have hSl := hS.lt
    clear hS
    go_wp2
    simp only [jumps]
    refine bodyPost_ret (v := .tuple #[.slice none 0 0, .agg #[.string ⟨#[]⟩, .int .i64 0], .bool false]) (by simp [results, Try.results16, go_sem, e0, e1, f0, f1]) rfl ⟨rfl, ?_⟩
    repeat (first | exact Below.refl _ _ | assumption | refine Below.alloc ?_ (by (try simp); (try omega)) _ | refine Below.setCell ?_ (by (try simp); (try omega)) _ | refine Below.drew ?_ | refine bel_then (by assumption) (by (try simp); (try omega)) ?_)
  case h2 =>
    intro gk a' wr hj
    obtain ⟨u0, u3, u7, u8, u9, u10, u11, u12, u13, u14, u15, u16, u17, u18, u19, u20, u21, u22, u23, u24, u25, u26, u27, u28, u29, u30, u31, u32, u33, u34, u35, u36, u37, u38, u39, u40, u41, u42, u43, u44, u45, u46, u47, u48, u49, u50, u51, u52, u53, u54, u55, u56, u57, u58, u59, u60, u61, u62, u63, u64, u65, u66, u67, u68, u69, u70, hrel, rfl⟩ := hj
    exact hrel.elim
  case h3 =>
    intro _ gk a' wr hj
    obtain ⟨u0, u3, u7, u8, u9, u10, u11, u12, u13, u14, u15, u16, u17, u18, u19, u20, u21, u22, u23, u24, u25, u26, u27, u28, u29, u30, u31, u32, u33, u34, u35, u36, u37, u38, u39, u40, u41, u42, u43, u44, u45, u46, u47, u48, u49, u50, u51, u52, u53, u54, u55, u56, u57, u58, u59, u60, u61, u62, u63, u64, u65, u66, u67, u68, u69, u70, hrel, rfl⟩ := hj
    exact hrel.elim
  case h1 =>
    intro H2 gk a' wr hj Qx hQx
    clear H2
    obtain ⟨u0, u3, u7, u8, u9, u10, u11, u12, u13, u14, u15, u16, u17, u18, u19, u20, u21, u22, u23, u24, u25, u26, u27, u28, u29, u30, u31, u32, u33, u34, u35, u36, u37, u38, u39, u40, u41, u42, u43, u44, u45, u46, u47, u48, u49, u50, u51, u52, u53, u54, u55, u56, u57, u58, u59, u60, u61, u62, u63, u64, u65, u66, u67, u68, u69, u70, hrel, rfl⟩ := hj
    obtain ⟨hB, rfl, rfl⟩ := hrel
    have HB := hidden hB
    clear hB
    go_wp2
    go_step3
    show Qx (.goto 0) _ _
    refine to_jump hQx 0 (by omega) ?_
    repeat apply Exists.intro
    refine ⟨?_, rfl⟩
    exact HB.out
  case hf =>
    intro H1 Qx hQx
    have hR := (Has.fresh w 35 #[.string s, .int .i64 at0]).alloc (.cells #[.string ⟨#[]⟩, .int .i64 0] 35)
    have bb : Below w.heap.size w ((w.alloc (.cells #[.string s, .int .i64 at0] 35)).alloc (.cells #[.string ⟨#[]⟩, .int .i64 0] 35)) := ((Below.refl _ _).alloc (Nat.le_refl _) _).alloc (by simp) _
    have hS := Has.freshAt (w := w.alloc (.cells #[.string s, .int .i64 at0] 35)) (g := w.heap.size + 1) (by simp) 35 #[.string ⟨#[]⟩, .int .i64 0]
    have hI : ¬ (n : Int) < 1 := by omega
    have hI2 : ¬ (260 : Int) < n := by omega
    go_wp2_with (at_make; refine wpList_make_own _ rfl _ _ 22 rfl (w.heap.size + 2) 3 i0 (.int .i64 0) 1 Try.underlying22 hi hz0 hz1 _ _ _ n rfl rfl rfl ?b2 ?b3 ?b4 ?_)
    case b2 => first | omega | (rw [hz2]; omega)
    case b3 => unfold maxLen; omega
    intro w1 hown hg
    have hB1 : Base5 w w1 := ⟨hS.grown hg (by simp), bb.grown hg (by simp; omega) (by simp)⟩
    have hR1 := hR.grown hg (by simp)
    have c0 := hR1.cell 0
    have c1 := hR1.cell 1
    have f0 := hR1.free 0
    have f1 := hR1.free 1
    simp at c0 c1
    have HB := hidden hB1
    have HR := hidden hR1
    have hsz := hB1.2.size
    have hRl := hB1.1.lt
    clear hR bb hS hown hg hB1 hR1
    have K := hidden (fun W => implGet_no s at0 5 W hs (by omega) (by omega) (by omega))
    clear h
    go_wp2_with fail
    refine (K.out _).mono ?_
    rintro e w2 ⟨rfl, b2⟩
    have hR2 := HR.out.below b2 HR.out.lt
    have hB2 := HB.out.call b2
    have g0 := hR2.free 0
    have g1 := hR2.free 1
    have d0 := hR2.cell 0
    have d1 := hR2.cell 1
    simp at d0 d1
    have HB3 := hidden (hB2.put (.string ⟨#[]⟩) (.int .i64 0))
    have hsz2 := hB2.2.size
    clear b2 hR2 hB2 K c0 c1 f0 f1 HR HB
    go_wp2
    go_step3
    rename_i KK hKK
    refine hKK _ _ (to_fall_first hQx H1 1 ?_)
    repeat apply Exists.intro
    refine ⟨?_, rfl⟩
    exact ⟨HB3.out, rfl, rfl⟩

theorem implGetLens_no (s : ByteArray) (at0 n : Int) (w : World) (hs : s.size ≤ 1048576) (b1 : -9223372036854775808 ≤ at0) (b2 : at0 ≤ 9223372036854775807) (h : ¬ (0 ≤ at0 ∧ at0 ≤ 8 * s.size ∧ 1 ≤ n ∧ n ≤ 260)) :
    Calls Try.prog 16 #[.agg #[.string s, .int .i64 at0], .int .i64 n] w (GLNo w) := by
  by_cases hn : n < 1 ∨ 260 < n
  · exact implGetLens_count s at0 n w hs b1 b2 hn
  · obtain ⟨m, rfl⟩ : ∃ q : Nat, n = q := ⟨n.toNat, by omega⟩
    exact implGetLens_place s at0 m w hs b1 b2 (by omega) (by omega) (by omega)
end Go.Proofs.Ytdeikdlbgjpooaa
