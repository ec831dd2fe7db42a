/- Chapter 7: counts, the bytes used, by count (the model). -/
import Derived.Test.YtpdicijoohahaaaAlph
import Derived.Test.YtpdicijoohahaaaStr
import Derived.Test.YtpdicijoohahaaaRet
import Derived.Test.YtpdicijoohahaaaNats
import Derived.Maps.AppendAt
import Derived.Deep.LoopGhost
import Derived.BigQuiet
import Derived.Deep.QuietTactic
namespace Go.Proofs.Ytpdicijoohahaaa
set_option linter.unusedVariables false
set_option linter.unusedSimpArgs false
open Go.RowKit

theorem bytes_at (s : ByteArray) (k : Nat) (h : k < s.size) : (bytesOf s).take (k + 1) = (bytesOf s).take k ++ [s[k].toNat] := by
  have hk : k < (bytesOf s).length := by rw [bytesOf_len]; exact h
  rw [List.take_succ_eq_append_getElem hk]
  congr 2
  have := bytesOf_get s k
  rw [List.getD_eq_getElem?_getD, List.getElem?_eq_getElem hk, Option.getD_some] at this
  rw [this, byteAt_get _ _ h]
theorem nats_up (s : ByteArray) (k : Nat) (h : k < s.size) : nats 256 (fun b => ((bytesOf s).take (k + 1)).count b) = (nats 256 (fun b => ((bytesOf s).take k).count b)).set s[k].toNat (.int .i64 ((((bytesOf s).take k).count s[k].toNat + 1 : Nat) : Int)) := by
  rw [nats_set]
  refine nats_congr fun t ht => ?_
  rw [bytes_at s k h, List.count_append]
  by_cases e : t = s[k].toNat
  · subst e; simp
  · simp [e, List.count_cons, Ne.symm e]
theorem run_string_nil7 (w : World) : (convert 37 9 (.slice none 0 0)).run Try.prog w = .ok (.string ⟨#[]⟩) w := by
  rw [run_convert_bytes_string w _ _ _ _ _ _ Try.underlying37 Try.underlying5 Try.underlying9]
  rfl
/-- 'string(b)' of a row of one's own, a nil one too. -/
theorem run_str {w : World} {base n : Nat} {v : Value} {D : List Nat} (h : w.ownsRow base 5 1 v n (u8s D)) : (convert 37 9 v).run Try.prog w = .ok (.string (strOf D)) w := by
  have hl : D.length = n := by have := h.1; rw [u8s_len] at this; omega
  rcases h.2 with ⟨hv, h0⟩ | ⟨gd, cp, cur, hv, _⟩
  · subst hv
    have : D = [] := List.length_eq_zero_iff.1 (by omega)
    subst this
    exact run_string_nil7 w
  · subst hv
    exact run_string_own (P := Try.prog) (src := 37) (dst := 9) Try.underlying37 Try.underlying5 Try.underlying9 h hl
/-- Where one element has been appended to a row of one's own behind a world. -/
theorem bel_app {B : Nat} {a wr w3 : World} {v : Value} {n : Nat} {E : TypeId} {S : Nat} {xs : List Value} {cs : Array Value} {T : TypeId} (h : Below B a wr) (hB : B ≤ wr.heap.size) (hown : wr.ownsRow B E S v n xs) (hg : (wr.alloc (.cells cs T)).grownBy w3 v.ownBlock) : Below B a w3 :=
  (h.alloc hB _).grown hg (by simp; omega) (fun g hg => (hown.lt g hg).1)
end Go.Proofs.Ytpdicijoohahaaa
