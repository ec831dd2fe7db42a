/-
  DERIVED. GIVEN WITH THE SEED: THE CARDS: each row of YtpngomjkapccdaaDoorRows.lean that lists a variable, with what it lists TIED to the program's text (the seventh form; the later family's looks); each row that meets fmt, with fmt's text TOLD by the authors' own Lean function (tested against real Go, not proved from fmt's source: count such statements apart). THE CARD IS WHAT COUNTS. Prove the row's statement (the work); the ties are given (YtpngomjkapccdaaDoorTie.lean); close each card by the builder's one call (the guide's Derived/Test/ToyasCard.lean, 'card_holds'). Laid BY PROGRAM, IN A SANDBOX (cutbox-door.mjs). By AI agents, Wed Nov 11 2026. No macro, syntax, notation, axiom, sorry.
-/
import Derived.Test.YtpngomjkapccdaaDoorRows
import GoSem.ClaimSeven
namespace Go.Proofs.YtpngomjkapccdaaDoor
namespace Rows

/-- THE TIED CARD OF 'laws.FnGammas'. -/
def fnGammasCard : Claim7 := { stood := { row := fnGammasRow, standIns := [], harness := (true, "54e2ec016370cbd2b1527a0c2a72c95daadcfd8d94a590a8190b3c8772959463"), looks := true }, kinds := [], alts := [], laidByText := true, laidKinds := [.sentinel], laidTests := true, laidLooks := .later }
def FnGammasCardSaid : Prop := Claim7.holds Tryd.pinned (.plain (OpenSpec.ofChange fnGammasSpec)) fnGammasCard

/-- THE TIED CARD OF 'laws.FnExactGetGamma'. -/
def fnExactGetGammaCard : Claim7 := { stood := { row := fnExactGetGammaRow, standIns := [], harness := (true, "54e2ec016370cbd2b1527a0c2a72c95daadcfd8d94a590a8190b3c8772959463"), looks := true }, kinds := [], alts := [], laidByText := true, laidKinds := [.sentinel], laidTests := true, laidLooks := .later }
def FnExactGetGammaCardSaid : Prop := Claim7.holds Tryd.pinned (.plain (OpenSpec.ofChange fnExactGetGammaSpec)) fnExactGetGammaCard

/-- THE SECOND FORM's CARD OF 'laws.FnGammas'. -/
def fnGammasUptoCard : Claim7 := { stood := { row := fnGammasUptoRow, standIns := [], harness := (true, "54e2ec016370cbd2b1527a0c2a72c95daadcfd8d94a590a8190b3c8772959463"), looks := true }, kinds := [], alts := [], laidByText := true, laidKinds := [.sentinel], laidTests := true, laidLooks := .later }
def FnGammasUptoCardSaid : Prop := Claim7.holds Tryd.pinned (.plain (OpenSpec.upto fnGammasSpec)) fnGammasUptoCard

/-- THE SECOND FORM's CARD OF 'laws.FnExactGetGamma'. -/
def fnExactGetGammaUptoCard : Claim7 := { stood := { row := fnExactGetGammaUptoRow, standIns := [], harness := (true, "54e2ec016370cbd2b1527a0c2a72c95daadcfd8d94a590a8190b3c8772959463"), looks := true }, kinds := [], alts := [], laidByText := true, laidKinds := [.sentinel], laidTests := true, laidLooks := .later }
def FnExactGetGammaUptoCardSaid : Prop := Claim7.holds Tryd.pinned (.plain (OpenSpec.upto fnExactGetGammaSpec)) fnExactGetGammaUptoCard
end Rows
end Go.Proofs.YtpngomjkapccdaaDoor
