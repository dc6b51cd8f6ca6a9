/-
  DERIVED. GIVEN WITH THE SEED: THE CARDS: each row of YtlpclahlolhjfaaGreatDoorRows.lean that lists a variable, with what it lists TIED to the program's text (the seventh form; the later family's looks); each row that meets fmt, with fmt's text TOLD by the authors' own Lean function (tested against real Go, not proved from fmt's source: count such statements apart). THE CARD IS WHAT COUNTS. Prove the row's statement (the work); the ties are given (YtlpclahlolhjfaaGreatDoorTie.lean); close each card by the builder's one call (the guide's Derived/Test/ToyasCard.lean, 'card_holds'). Laid BY PROGRAM, IN A SANDBOX (cutbox-door.mjs). By AI agents, Wed Nov 11 2026. No macro, syntax, notation, axiom, sorry.
-/
import Derived.Test.YtlpclahlolhjfaaGreatDoorRows
import GoSem.ClaimSeven
namespace Go.Proofs.YtlpclahlolhjfaaGreatDoor
namespace Rows

/-- THE TIED CARD OF 'sparselaw07.ModularCombined'. -/
def modularCombinedCard : Claim7 := { stood := { row := modularCombinedRow, standIns := [], harness := (true, "fed9f25a0fade330197a9fcbbef1370e013818476811f5bc93e1e3a067ce155e"), looks := false }, kinds := [], alts := [], laidByText := true, laidKinds := [.data, .data, .data], laidTests := true, laidLooks := .later }
def ModularCombinedCardSaid : Prop := Claim7.holds Tryz.pinned (.plain (OpenSpec.ofChange modularCombinedSpec)) modularCombinedCard

/-- THE TIED CARD OF 'sparselaw07.ModularRational'. -/
def modularRationalCard : Claim7 := { stood := { row := modularRationalRow, standIns := [], harness := (true, "fed9f25a0fade330197a9fcbbef1370e013818476811f5bc93e1e3a067ce155e"), looks := false }, kinds := [], alts := [], laidByText := true, laidKinds := [.data, .data, .data], laidTests := true, laidLooks := .later }
def ModularRationalCardSaid : Prop := Claim7.holds Tryz.pinned (.plain (OpenSpec.ofChange modularRationalSpec)) modularRationalCard

/-- THE SECOND FORM's CARD OF 'sparselaw07.ModularCombined'. -/
def modularCombinedUptoCard : Claim7 := { stood := { row := modularCombinedUptoRow, standIns := [], harness := (true, "fed9f25a0fade330197a9fcbbef1370e013818476811f5bc93e1e3a067ce155e"), looks := false }, kinds := [], alts := [], laidByText := true, laidKinds := [.data, .data, .data], laidTests := true, laidLooks := .later }
def ModularCombinedUptoCardSaid : Prop := Claim7.holds Tryz.pinned (.plain (OpenSpec.upto modularCombinedSpec)) modularCombinedUptoCard

/-- THE SECOND FORM's CARD OF 'sparselaw07.ModularRational'. -/
def modularRationalUptoCard : Claim7 := { stood := { row := modularRationalUptoRow, standIns := [], harness := (true, "fed9f25a0fade330197a9fcbbef1370e013818476811f5bc93e1e3a067ce155e"), looks := false }, kinds := [], alts := [], laidByText := true, laidKinds := [.data, .data, .data], laidTests := true, laidLooks := .later }
def ModularRationalUptoCardSaid : Prop := Claim7.holds Tryz.pinned (.plain (OpenSpec.upto modularRationalSpec)) modularRationalUptoCard
end Rows
end Go.Proofs.YtlpclahlolhjfaaGreatDoor
