/-
  DERIVED. GIVEN WITH THE SEED: THE CARDS: each row of YtagahbbjljndeaaGreatDoorRows.lean that lists a variable, with what it lists TIED to the program's text (the seventh form; the later family's looks); each row that meets fmt, with fmt's text TOLD by the authors' own Lean function (tested against real Go, not proved from fmt's source: count such statements apart). THE CARD IS WHAT COUNTS. Prove the row's statement (the work); the ties are given (YtagahbbjljndeaaGreatDoorTie.lean); close each card by the builder's one call (the guide's Derived/Test/ToyasCard.lean, 'card_holds'). Laid BY PROGRAM, IN A SANDBOX (cutbox-door.mjs). By AI agents, Wed Nov 11 2026. No macro, syntax, notation, axiom, sorry.
-/
import Derived.Test.YtagahbbjljndeaaGreatDoorRows
import GoSem.ClaimSeven
namespace Go.Proofs.YtagahbbjljndeaaGreatDoor
namespace Rows

/-- THE TIED CARD OF 'sparselaw07.ModularNumbers'. -/
def modularNumbersCard : Claim7 := { stood := { row := modularNumbersRow, standIns := [], harness := (true, "5494a42415264f20cde5fa175b470aa5522fa63ae4f0e8f7ce43e8163cc8a462"), looks := false }, kinds := [], alts := [], laidByText := true, laidKinds := [.data, .data, .data], laidTests := true, laidLooks := .later }
def ModularNumbersCardSaid : Prop := Claim7.holds Tryz.pinned (.plain (OpenSpec.ofChange modularNumbersSpec)) modularNumbersCard

/-- THE TIED CARD OF 'sparselaw07.ModularCombined'. -/
def modularCombinedCard : Claim7 := { stood := { row := modularCombinedRow, standIns := [], harness := (true, "5494a42415264f20cde5fa175b470aa5522fa63ae4f0e8f7ce43e8163cc8a462"), looks := false }, kinds := [], alts := [], laidByText := true, laidKinds := [.data, .data, .data], laidTests := true, laidLooks := .later }
def ModularCombinedCardSaid : Prop := Claim7.holds Tryz.pinned (.plain (OpenSpec.ofChange modularCombinedSpec)) modularCombinedCard

/-- THE TIED CARD OF 'sparselaw07.ModularChinese'. -/
def modularChineseCard : Claim7 := { stood := { row := modularChineseRow, standIns := [], harness := (true, "5494a42415264f20cde5fa175b470aa5522fa63ae4f0e8f7ce43e8163cc8a462"), looks := false }, kinds := [], alts := [], laidByText := true, laidKinds := [.data, .data, .data], laidTests := true, laidLooks := .later }
def ModularChineseCardSaid : Prop := Claim7.holds Tryz.pinned (.plain (OpenSpec.ofChange modularChineseSpec)) modularChineseCard

/-- THE SECOND FORM's CARD OF 'sparselaw07.ModularNumbers'. -/
def modularNumbersUptoCard : Claim7 := { stood := { row := modularNumbersUptoRow, standIns := [], harness := (true, "5494a42415264f20cde5fa175b470aa5522fa63ae4f0e8f7ce43e8163cc8a462"), looks := false }, kinds := [], alts := [], laidByText := true, laidKinds := [.data, .data, .data], laidTests := true, laidLooks := .later }
def ModularNumbersUptoCardSaid : Prop := Claim7.holds Tryz.pinned (.plain (OpenSpec.upto modularNumbersSpec)) modularNumbersUptoCard

/-- THE SECOND FORM's CARD OF 'sparselaw07.ModularCombined'. -/
def modularCombinedUptoCard : Claim7 := { stood := { row := modularCombinedUptoRow, standIns := [], harness := (true, "5494a42415264f20cde5fa175b470aa5522fa63ae4f0e8f7ce43e8163cc8a462"), looks := false }, kinds := [], alts := [], laidByText := true, laidKinds := [.data, .data, .data], laidTests := true, laidLooks := .later }
def ModularCombinedUptoCardSaid : Prop := Claim7.holds Tryz.pinned (.plain (OpenSpec.upto modularCombinedSpec)) modularCombinedUptoCard

/-- THE SECOND FORM's CARD OF 'sparselaw07.ModularChinese'. -/
def modularChineseUptoCard : Claim7 := { stood := { row := modularChineseUptoRow, standIns := [], harness := (true, "5494a42415264f20cde5fa175b470aa5522fa63ae4f0e8f7ce43e8163cc8a462"), looks := false }, kinds := [], alts := [], laidByText := true, laidKinds := [.data, .data, .data], laidTests := true, laidLooks := .later }
def ModularChineseUptoCardSaid : Prop := Claim7.holds Tryz.pinned (.plain (OpenSpec.upto modularChineseSpec)) modularChineseUptoCard
end Rows
end Go.Proofs.YtagahbbjljndeaaGreatDoor
