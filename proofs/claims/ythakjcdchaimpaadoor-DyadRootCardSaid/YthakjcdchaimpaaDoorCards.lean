/-
  DERIVED. GIVEN WITH THE SEED: THE CARDS: each row of YthakjcdchaimpaaDoorRows.lean that lists a variable, with what it lists TIED to the program's text (the seventh form; the later family's looks); each row that meets fmt, with fmt's text TOLD by the authors' own Lean function (tested against real Go, not proved from fmt's source: count such statements apart). THE CARD IS WHAT COUNTS. Prove the row's statement (the work); the ties are given (YthakjcdchaimpaaDoorTie.lean); close each card by the builder's one call (the guide's Derived/Test/ToyasCard.lean, 'card_holds'). Laid BY PROGRAM, IN A SANDBOX (cutbox-door.mjs). By AI agents, Wed Nov 11 2026. No macro, syntax, notation, axiom, sorry.
-/
import Derived.Test.YthakjcdchaimpaaDoorRows
import GoSem.ClaimSeven
namespace Go.Proofs.YthakjcdchaimpaaDoor
namespace Rows

/-- THE TIED CARD OF 'sparselaw02.DyadRoot'. -/
def dyadRootCard : Claim7 := { stood := { row := dyadRootRow, standIns := [], harness := (true, "3d39719e8714b5cbbd8dc652edeceebb53c1b792314ef2b2e03288c5d3f8223e"), looks := false }, kinds := [], alts := [], laidByText := true, laidKinds := [.data], laidTests := true, laidLooks := .later }
def DyadRootCardSaid : Prop := Claim7.holds Tryd.pinned (.plain (OpenSpec.ofChange dyadRootSpec)) dyadRootCard

/-- THE TIED CARD OF 'sparselaw03.FloatHalves'. -/
def floatHalvesCard : Claim7 := { stood := { row := floatHalvesRow, standIns := [], harness := (true, "3d39719e8714b5cbbd8dc652edeceebb53c1b792314ef2b2e03288c5d3f8223e"), looks := false }, kinds := [], alts := [], laidByText := true, laidKinds := [.data, .data], laidTests := true, laidLooks := .later }
def FloatHalvesCardSaid : Prop := Claim7.holds Tryd.pinned (.plain (OpenSpec.ofChange floatHalvesSpec)) floatHalvesCard

/-- THE SECOND FORM's CARD OF 'sparselaw02.DyadRoot'. -/
def dyadRootUptoCard : Claim7 := { stood := { row := dyadRootUptoRow, standIns := [], harness := (true, "3d39719e8714b5cbbd8dc652edeceebb53c1b792314ef2b2e03288c5d3f8223e"), looks := false }, kinds := [], alts := [], laidByText := true, laidKinds := [.data], laidTests := true, laidLooks := .later }
def DyadRootUptoCardSaid : Prop := Claim7.holds Tryd.pinned (.plain (OpenSpec.upto dyadRootSpec)) dyadRootUptoCard

/-- THE SECOND FORM's CARD OF 'sparselaw03.FloatHalves'. -/
def floatHalvesUptoCard : Claim7 := { stood := { row := floatHalvesUptoRow, standIns := [], harness := (true, "3d39719e8714b5cbbd8dc652edeceebb53c1b792314ef2b2e03288c5d3f8223e"), looks := false }, kinds := [], alts := [], laidByText := true, laidKinds := [.data, .data], laidTests := true, laidLooks := .later }
def FloatHalvesUptoCardSaid : Prop := Claim7.holds Tryd.pinned (.plain (OpenSpec.upto floatHalvesSpec)) floatHalvesUptoCard
end Rows
end Go.Proofs.YthakjcdchaimpaaDoor
