/-
  DERIVED. GIVEN WITH THE SEED: THE CARDS: each row of YtapcecjbmcoliaaGreatDoorRows.lean that lists a variable, with what it lists TIED to the program's text (the seventh form; the later family's looks); each row that meets fmt, with fmt's text TOLD by the authors' own Lean function (tested against real Go, not proved from fmt's source: count such statements apart). THE CARD IS WHAT COUNTS. Prove the row's statement (the work); the ties are given (YtapcecjbmcoliaaGreatDoorTie.lean); close each card by the builder's one call (the guide's Derived/Test/ToyasCard.lean, 'card_holds'). Laid BY PROGRAM, IN A SANDBOX (cutbox-door.mjs). By AI agents, Wed Nov 11 2026. No macro, syntax, notation, axiom, sorry.
-/
import Derived.Test.YtapcecjbmcoliaaGreatDoorRows
import GoSem.ClaimSeven
namespace Go.Proofs.YtapcecjbmcoliaaGreatDoor
namespace Rows

/-- THE TIED CARD OF 'sparselaw06.AccumCauchy'. -/
def accumCauchyCard : Claim7 := { stood := { row := accumCauchyRow, standIns := [], harness := (true, "4a566657cb43c1108a5e715abf65749ef3726de7b4a8facd5cc76b60e5e904e5"), looks := false }, kinds := [], alts := [], laidByText := true, laidKinds := [.data, .data], laidTests := true, laidLooks := .later }
def AccumCauchyCardSaid : Prop := Claim7.holds Tryz.pinned (.plain (OpenSpec.ofChange accumCauchySpec)) accumCauchyCard

/-- THE SECOND FORM's CARD OF 'sparselaw06.AccumCauchy'. -/
def accumCauchyUptoCard : Claim7 := { stood := { row := accumCauchyUptoRow, standIns := [], harness := (true, "4a566657cb43c1108a5e715abf65749ef3726de7b4a8facd5cc76b60e5e904e5"), looks := false }, kinds := [], alts := [], laidByText := true, laidKinds := [.data, .data], laidTests := true, laidLooks := .later }
def AccumCauchyUptoCardSaid : Prop := Claim7.holds Tryz.pinned (.plain (OpenSpec.upto accumCauchySpec)) accumCauchyUptoCard
end Rows
end Go.Proofs.YtapcecjbmcoliaaGreatDoor
