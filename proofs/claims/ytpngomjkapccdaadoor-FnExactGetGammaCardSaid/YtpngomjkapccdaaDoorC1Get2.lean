/- Chapter 1: Left and Get of the program. -/
import Derived.Test.YtpngomjkapccdaaDoorC1Get
import Derived.Test.YtpngomjkapccdaaDoorC1Ok
import Derived.Test.YtpngomjkapccdaaDoorC1One
import Derived.Test.YtpngomjkapccdaaDoorC1IRd
namespace Go.Proofs.YtpngomjkapccdaaDoor
set_option linter.unusedVariables false
set_option linter.unusedSimpArgs false
open Go.RowKit

theorem implLeft_yes (s : ByteArray) (a : Nat) (w : World) (hs : s.size ≤ 1048576) (hl : a ≤ 8 * s.size) :
    Calls Tryd.prog 45 #[.agg #[.string s, .int .i64 a]] w fun e w' => e = .returned (.int .i64 (8 * (s.size : Int) - a)) ∧ Below w.heap.size w w' := by
  go_enter Tryd.func45, Tryd.ntmps45
  go_wp2_with (go_at_call 26; refine (implRdOk_yes _ _ _ hs hl).mono ?_; rintro e w1 ⟨rfl, hb⟩; obtain ⟨hc, hf⟩ := bcell hb; have hz : w.heap.size < w1.heap.size := by (have := hb.size; simp at this; omega))
  go_ret
  refine ⟨rfl, ?_⟩
  repeat (first | exact Below.refl _ _ | refine Below.alloc ?_ (by (try simp); (try omega)) _ | refine Below.setCell ?_ (by (try simp); (try omega)) _ | refine Below.drew ?_ | refine bel_then (by assumption) (by (try simp); (try omega)) ?_)
theorem implLeft_no (s : ByteArray) (a : Int) (w : World) (hs : s.size ≤ 1048576) (b1 : -9223372036854775808 ≤ a) (b2 : a ≤ 9223372036854775807) (h : ¬ (0 ≤ a ∧ a ≤ 8 * s.size)) :
    Calls Tryd.prog 45 #[.agg #[.string s, .int .i64 a]] w fun e w' => e = .returned (.int .i64 (-1)) ∧ Below w.heap.size w w' := by
  have h' := hidden h; clear h
  go_enter Tryd.func45, Tryd.ntmps45
  go_wp2_with (go_at_call 26; refine (implRdOk_no _ _ _ hs b1 b2 h'.out).mono ?_; rintro e w1 ⟨rfl, hb⟩; obtain ⟨hc, hf⟩ := bcell hb; have hz : w.heap.size < w1.heap.size := by (have := hb.size; simp at this; omega))
  go_ret
  refine ⟨rfl, ?_⟩
  repeat (first | exact Below.refl _ _ | refine Below.alloc ?_ (by (try simp); (try omega)) _ | refine Below.setCell ?_ (by (try simp); (try omega)) _ | refine Below.drew ?_ | refine bel_then (by assumption) (by (try simp); (try omega)) ?_)

end Go.Proofs.YtpngomjkapccdaaDoor
