/- What is known of the program's sentinel: its variable holds a pointer behind the library's own error type; a call that turns nothing below keeps it so. -/
import Derived.Test.YtpngomjkapccdaaDoorBase
namespace Go.Proofs.YtpngomjkapccdaaDoor
set_option linter.unusedVariables false
open Go.RowKit

def Sent (w : World) : Prop := 0 < w.heap.size ∧ ∃ a : Addr, w.cell? ⟨0, 0, none⟩ = some (.iface 100 (.pointer (some a)))
theorem Sent.below {w w' : World} (h : Sent w) (hb : Below w.heap.size w w') : Sent w' := by
  obtain ⟨h0, a, ha⟩ := h
  have := hb.size
  exact ⟨by omega, a, (hb.cell (p := ⟨0, 0, none⟩) h0).trans ha⟩
end Go.Proofs.YtpngomjkapccdaaDoor
