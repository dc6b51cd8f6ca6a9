/-
  DERIVED. GIVEN WITH THE SEED: THE CARDS: each row of YthlnapbjonlncaaGreatDoorRows.lean that lists a variable, with what it lists TIED to the program's text (the seventh form; the later family's looks); each row that meets fmt, with fmt's text TOLD by the authors' own Lean function (tested against real Go, not proved from fmt's source: count such statements apart). THE CARD IS WHAT COUNTS. Prove the row's statement (the work); the ties are given (YthlnapbjonlncaaGreatDoorTie.lean); close each card by the builder's one call (the guide's Derived/Test/ToyasCard.lean, 'card_holds'). Laid BY PROGRAM, IN A SANDBOX (cutbox-door.mjs). By AI agents, Wed Nov 11 2026. No macro, syntax, notation, axiom, sorry.
-/
import Derived.Test.YthlnapbjonlncaaGreatDoorRows
import GoSem.ClaimSeven
namespace Go.Proofs.YthlnapbjonlncaaGreatDoor
namespace Rows

/-- THE TIED CARD OF 'sparselaw06.AccumFree'. -/
def accumFreeCard : Claim7 := { stood := { row := accumFreeRow, standIns := [], harness := (true, "87f94137a6a4b8c0f18f697b68e184df4345cb2d0057931715840ff961c3dc7f"), looks := false }, kinds := [], alts := [], laidByText := true, laidKinds := [.data, .data], laidTests := true, laidLooks := .later }
def AccumFreeCardSaid : Prop := Claim7.holds Tryz.pinned (.plain (OpenSpec.ofChange accumFreeSpec)) accumFreeCard

/-- THE TIED CARD OF 'sparselaw06.AccumOrder'. -/
def accumOrderCard : Claim7 := { stood := { row := accumOrderRow, standIns := [], harness := (true, "87f94137a6a4b8c0f18f697b68e184df4345cb2d0057931715840ff961c3dc7f"), looks := false }, kinds := [], alts := [], laidByText := true, laidKinds := [.data, .data], laidTests := true, laidLooks := .later }
def AccumOrderCardSaid : Prop := Claim7.holds Tryz.pinned (.plain (OpenSpec.ofChange accumOrderSpec)) accumOrderCard

/-- THE TIED CARD OF 'sparselaw06.AccumCauchy'. -/
def accumCauchyCard : Claim7 := { stood := { row := accumCauchyRow, standIns := [], harness := (true, "87f94137a6a4b8c0f18f697b68e184df4345cb2d0057931715840ff961c3dc7f"), looks := false }, kinds := [], alts := [], laidByText := true, laidKinds := [.data, .data], laidTests := true, laidLooks := .later }
def AccumCauchyCardSaid : Prop := Claim7.holds Tryz.pinned (.plain (OpenSpec.ofChange accumCauchySpec)) accumCauchyCard

/-- THE TIED CARD OF 'sparselaw06.AccumResidual'. -/
def accumResidualCard : Claim7 := { stood := { row := accumResidualRow, standIns := [], harness := (true, "87f94137a6a4b8c0f18f697b68e184df4345cb2d0057931715840ff961c3dc7f"), looks := false }, kinds := [], alts := [], laidByText := true, laidKinds := [.data, .data], laidTests := true, laidLooks := .later }
def AccumResidualCardSaid : Prop := Claim7.holds Tryz.pinned (.plain (OpenSpec.ofChange accumResidualSpec)) accumResidualCard

/-- THE TIED CARD OF 'sparselaw06.AccumRoots'. -/
def accumRootsCard : Claim7 := { stood := { row := accumRootsRow, standIns := [], harness := (true, "87f94137a6a4b8c0f18f697b68e184df4345cb2d0057931715840ff961c3dc7f"), looks := false }, kinds := [], alts := [], laidByText := true, laidKinds := [.data, .data], laidTests := true, laidLooks := .later }
def AccumRootsCardSaid : Prop := Claim7.holds Tryz.pinned (.plain (OpenSpec.ofChange accumRootsSpec)) accumRootsCard

/-- THE SECOND FORM's CARD OF 'sparselaw06.AccumFree'. -/
def accumFreeUptoCard : Claim7 := { stood := { row := accumFreeUptoRow, standIns := [], harness := (true, "87f94137a6a4b8c0f18f697b68e184df4345cb2d0057931715840ff961c3dc7f"), looks := false }, kinds := [], alts := [], laidByText := true, laidKinds := [.data, .data], laidTests := true, laidLooks := .later }
def AccumFreeUptoCardSaid : Prop := Claim7.holds Tryz.pinned (.plain (OpenSpec.upto accumFreeSpec)) accumFreeUptoCard

/-- THE SECOND FORM's CARD OF 'sparselaw06.AccumOrder'. -/
def accumOrderUptoCard : Claim7 := { stood := { row := accumOrderUptoRow, standIns := [], harness := (true, "87f94137a6a4b8c0f18f697b68e184df4345cb2d0057931715840ff961c3dc7f"), looks := false }, kinds := [], alts := [], laidByText := true, laidKinds := [.data, .data], laidTests := true, laidLooks := .later }
def AccumOrderUptoCardSaid : Prop := Claim7.holds Tryz.pinned (.plain (OpenSpec.upto accumOrderSpec)) accumOrderUptoCard

/-- THE SECOND FORM's CARD OF 'sparselaw06.AccumCauchy'. -/
def accumCauchyUptoCard : Claim7 := { stood := { row := accumCauchyUptoRow, standIns := [], harness := (true, "87f94137a6a4b8c0f18f697b68e184df4345cb2d0057931715840ff961c3dc7f"), looks := false }, kinds := [], alts := [], laidByText := true, laidKinds := [.data, .data], laidTests := true, laidLooks := .later }
def AccumCauchyUptoCardSaid : Prop := Claim7.holds Tryz.pinned (.plain (OpenSpec.upto accumCauchySpec)) accumCauchyUptoCard

/-- THE SECOND FORM's CARD OF 'sparselaw06.AccumResidual'. -/
def accumResidualUptoCard : Claim7 := { stood := { row := accumResidualUptoRow, standIns := [], harness := (true, "87f94137a6a4b8c0f18f697b68e184df4345cb2d0057931715840ff961c3dc7f"), looks := false }, kinds := [], alts := [], laidByText := true, laidKinds := [.data, .data], laidTests := true, laidLooks := .later }
def AccumResidualUptoCardSaid : Prop := Claim7.holds Tryz.pinned (.plain (OpenSpec.upto accumResidualSpec)) accumResidualUptoCard

/-- THE SECOND FORM's CARD OF 'sparselaw06.AccumRoots'. -/
def accumRootsUptoCard : Claim7 := { stood := { row := accumRootsUptoRow, standIns := [], harness := (true, "87f94137a6a4b8c0f18f697b68e184df4345cb2d0057931715840ff961c3dc7f"), looks := false }, kinds := [], alts := [], laidByText := true, laidKinds := [.data, .data], laidTests := true, laidLooks := .later }
def AccumRootsUptoCardSaid : Prop := Claim7.holds Tryz.pinned (.plain (OpenSpec.upto accumRootsSpec)) accumRootsUptoCard
end Rows
end Go.Proofs.YthlnapbjonlncaaGreatDoor
