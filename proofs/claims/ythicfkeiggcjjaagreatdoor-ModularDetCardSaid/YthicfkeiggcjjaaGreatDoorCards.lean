/-
  DERIVED. GIVEN WITH THE SEED: THE CARDS: each row of YthicfkeiggcjjaaGreatDoorRows.lean that lists a variable, with what it lists TIED to the program's text (the seventh form; the later family's looks); each row that meets fmt, with fmt's text TOLD by the authors' own Lean function (tested against real Go, not proved from fmt's source: count such statements apart). THE CARD IS WHAT COUNTS. Prove the row's statement (the work); the ties are given (YthicfkeiggcjjaaGreatDoorTie.lean); close each card by the builder's one call (the guide's Derived/Test/ToyasCard.lean, 'card_holds'). Laid BY PROGRAM, IN A SANDBOX (cutbox-door.mjs). By AI agents, Wed Nov 11 2026. No macro, syntax, notation, axiom, sorry.
-/
import Derived.Test.YthicfkeiggcjjaaGreatDoorRows
import GoSem.ClaimSeven
namespace Go.Proofs.YthicfkeiggcjjaaGreatDoor
namespace Rows

/-- THE TIED CARD OF 'sparselaw07.ModularLinear'. -/
def modularLinearCard : Claim7 := { stood := { row := modularLinearRow, standIns := [], harness := (true, "987ca311ad2731325ac126791d7b9d2f0b597401ef2edfdda78646efe399cde6"), looks := false }, kinds := [], alts := [], laidByText := true, laidKinds := [.data, .data, .data], laidTests := true, laidLooks := .later }
def ModularLinearCardSaid : Prop := Claim7.holds Tryz.pinned (.plain (OpenSpec.ofChange modularLinearSpec)) modularLinearCard

/-- THE TIED CARD OF 'sparselaw07.ModularDet'. -/
def modularDetCard : Claim7 := { stood := { row := modularDetRow, standIns := [], harness := (true, "987ca311ad2731325ac126791d7b9d2f0b597401ef2edfdda78646efe399cde6"), looks := false }, kinds := [], alts := [], laidByText := true, laidKinds := [.data, .data, .data], laidTests := true, laidLooks := .later }
def ModularDetCardSaid : Prop := Claim7.holds Tryz.pinned (.plain (OpenSpec.ofChange modularDetSpec)) modularDetCard

/-- THE TIED CARD OF 'sparselaw07.ModularSolves'. -/
def modularSolvesCard : Claim7 := { stood := { row := modularSolvesRow, standIns := [], harness := (true, "987ca311ad2731325ac126791d7b9d2f0b597401ef2edfdda78646efe399cde6"), looks := false }, kinds := [], alts := [], laidByText := true, laidKinds := [.data, .data, .data], laidTests := true, laidLooks := .later }
def ModularSolvesCardSaid : Prop := Claim7.holds Tryz.pinned (.plain (OpenSpec.ofChange modularSolvesSpec)) modularSolvesCard

/-- THE SECOND FORM's CARD OF 'sparselaw07.ModularLinear'. -/
def modularLinearUptoCard : Claim7 := { stood := { row := modularLinearUptoRow, standIns := [], harness := (true, "987ca311ad2731325ac126791d7b9d2f0b597401ef2edfdda78646efe399cde6"), looks := false }, kinds := [], alts := [], laidByText := true, laidKinds := [.data, .data, .data], laidTests := true, laidLooks := .later }
def ModularLinearUptoCardSaid : Prop := Claim7.holds Tryz.pinned (.plain (OpenSpec.upto modularLinearSpec)) modularLinearUptoCard

/-- THE SECOND FORM's CARD OF 'sparselaw07.ModularDet'. -/
def modularDetUptoCard : Claim7 := { stood := { row := modularDetUptoRow, standIns := [], harness := (true, "987ca311ad2731325ac126791d7b9d2f0b597401ef2edfdda78646efe399cde6"), looks := false }, kinds := [], alts := [], laidByText := true, laidKinds := [.data, .data, .data], laidTests := true, laidLooks := .later }
def ModularDetUptoCardSaid : Prop := Claim7.holds Tryz.pinned (.plain (OpenSpec.upto modularDetSpec)) modularDetUptoCard

/-- THE SECOND FORM's CARD OF 'sparselaw07.ModularSolves'. -/
def modularSolvesUptoCard : Claim7 := { stood := { row := modularSolvesUptoRow, standIns := [], harness := (true, "987ca311ad2731325ac126791d7b9d2f0b597401ef2edfdda78646efe399cde6"), looks := false }, kinds := [], alts := [], laidByText := true, laidKinds := [.data, .data, .data], laidTests := true, laidLooks := .later }
def ModularSolvesUptoCardSaid : Prop := Claim7.holds Tryz.pinned (.plain (OpenSpec.upto modularSolvesSpec)) modularSolvesUptoCard
end Rows
end Go.Proofs.YthicfkeiggcjjaaGreatDoor
