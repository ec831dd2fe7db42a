/- Draws of Get; the law's own small functions. -/
import Derived.Test.YtbfkbiembbbbpaaDr2
import Derived.Test.YtbfkbiembbbbpaaAt
import Derived.Test.YtbfkbiembbbbpaaC1IPut
import Derived.Test.YtbfkbiembbbbpaaC1Get2
import Derived.Deep.RegionWith
import Derived.Deep.DrawnRows
namespace Go.Proofs.Ytbfkbiembbbbpaa
set_option linter.unusedVariables false
set_option linter.unusedSimpArgs false
open Go.RowKit

theorem packs160 : Packs [160] (row ⟨#[]⟩ 0 0 ++ nbits 5 3) := ⟨rfl, fun j => by
    match j with
    | 0 => decide
    | j + 1 => simp, fun j hj => by
    have : j < 8 := hj
    match j, this with
    | 0, _ => decide
    | 1, _ => decide
    | 2, _ => decide
    | 3, _ => decide
    | 4, _ => decide
    | 5, _ => decide
    | 6, _ => decide
    | 7, _ => decide⟩
theorem put53 (w : World) : Calls Try.prog 14 #[.agg #[.string ⟨#[]⟩, .int .i64 0], .int .i64 5, .int .i64 3] w fun e w' => e = .returned (.tuple #[.agg #[.string ⟨#[160]⟩, .int .i64 3], .bool true]) ∧ Below w.heap.size w w' :=
  (implPut_yes ⟨#[]⟩ 0 5 3 w (Nat.zero_le _) (by decide) (by decide) (by decide) (by decide)).mono fun e w' ⟨D, hD, he, hb⟩ => by
    have := hD.unique packs160
    subst this
    exact ⟨he, hb⟩
theorem get160 (w : World) : Calls Try.prog 17 #[.agg #[.string ⟨#[160]⟩, .int .i64 0], .int .i64 3] w fun e w' => e = .returned (.tuple #[.int .i64 5, .agg #[.string ⟨#[160]⟩, .int .i64 3], .bool true]) ∧ Below w.heap.size w w' :=
  (implGet_yes ⟨#[160]⟩ 0 3 w (by decide) (by decide) (by decide)).mono fun e w' ⟨he, hb⟩ => ⟨he, hb⟩
theorem ok160 (w : World) : Calls Try.prog 18 #[.agg #[.string ⟨#[160]⟩, .int .i64 3]] w fun e w' => e = .returned (.bool true) ∧ Below w.heap.size w w' :=
  (implBitsOk_any ⟨#[160]⟩ 3 w (by unfold maxLen; decide) (by decide) (by decide)).mono fun e w' ⟨he, hb⟩ => ⟨he.trans (ret_bool (by decide)), hb⟩
theorem left160 (w : World) : Calls Try.prog 50 #[.agg #[.string ⟨#[160]⟩, .int .i64 3]] w fun e w' => e = .returned (.int .i64 5) ∧ Below w.heap.size w w' :=
  (implLeft_yes ⟨#[160]⟩ 3 w (by decide) (by decide)).mono fun e w' ⟨he, hb⟩ => ⟨he.trans (ret_int (by decide)), hb⟩
set_option maxHeartbeats 2000000 in
theorem rows_any (w : World) : Calls Try.prog 16 #[] w fun e w' => e = .returned (.bool true) ∧ Below w.heap.size w w' := by
  go_enter Try.func16, Try.ntmps16
  go_wp2_with fail
  refine (put53 _).mono ?_
  rintro e wa ⟨rfl, Ba⟩
  obtain ⟨Ca, Fa, La⟩ := bcell3 Ba
  have ya := Ba.size
  go_wp2_with fail
  refine (get160 _).mono ?_
  rintro e wb ⟨rfl, Bb⟩
  obtain ⟨Cb, Fb, Lb⟩ := bcell3 Bb
  have yb := Bb.size; (try simp at yb)
  have z1 : wa.heap.size < wb.heap.size := by omega
  go_wp2_with fail
  refine (ok160 _).mono ?_
  rintro e wc ⟨rfl, Bc⟩
  obtain ⟨Cc, Fc, Lc⟩ := bcell3 Bc
  have yc := Bc.size; (try simp at yc)
  have z2 : wa.heap.size < wc.heap.size := by omega
  have z3 : wb.heap.size < wc.heap.size := by omega
  go_wp2_with fail
  refine (left160 _).mono ?_
  rintro e wd ⟨rfl, Bd⟩
  have yd := Bd.size; (try simp at yd)
  go_wp2
  go_ret
  refine ⟨rfl, ?_⟩
  repeat (first | exact Below.refl _ _ | assumption | refine Below.alloc ?_ (by (try simp); (try omega)) _ | refine Below.setCell ?_ (by (try simp); (try omega)) _ | refine Below.drew ?_ | refine bel_then (by assumption) (by (try simp); (try omega)) ?_ | refine only_then (by assumption) (by (try simp); (try omega)) (by (try simp); (try omega)) ?_ | refine bel_thenB (by assumption) (by (try simp); (try omega)) ?_)
end Go.Proofs.Ytbfkbiembbbbpaa
