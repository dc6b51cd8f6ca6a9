/-
  DERIVED. GIVEN WITH THE SEED: THE CARDS: each row of YtijbdfcenbekmaaGreatDoorRows.lean that lists a variable, with what it lists TIED to the program's text (the seventh form; the later family's looks); each row that meets fmt, with fmt's text TOLD by the authors' own Lean function (tested against real Go, not proved from fmt's source: count such statements apart). THE CARD IS WHAT COUNTS. Prove the row's statement (the work); the ties are given (YtijbdfcenbekmaaGreatDoorTie.lean); close each card by the builder's one call (the guide's Derived/Test/ToyasCard.lean, 'card_holds'). Laid BY PROGRAM, IN A SANDBOX (cutbox-door.mjs). By AI agents, Wed Nov 11 2026. No macro, syntax, notation, axiom, sorry.
-/
import Derived.Test.YtijbdfcenbekmaaGreatDoorRows
import GoSem.ClaimSeven
namespace Go.Proofs.YtijbdfcenbekmaaGreatDoor
namespace Rows

/-- THE TIED CARD OF 'sparselaw03.FloatEnclose'. -/
def floatEncloseCard : Claim7 := { stood := { row := floatEncloseRow, standIns := [], harness := (true, "2d68b04104bb8bd29a6069794fff591bf695fbfc94f44d302832015ee1bd5094"), looks := false }, kinds := [], alts := [], laidByText := true, laidKinds := [.data, .data], laidTests := true, laidLooks := .later }
def FloatEncloseCardSaid : Prop := Claim7.holds Tryz.pinned (.plain (OpenSpec.ofChange floatEncloseSpec)) floatEncloseCard

/-- THE TIED CARD OF 'sparselaw06.AccumFree'. -/
def accumFreeCard : Claim7 := { stood := { row := accumFreeRow, standIns := [], harness := (true, "2d68b04104bb8bd29a6069794fff591bf695fbfc94f44d302832015ee1bd5094"), looks := false }, kinds := [], alts := [], laidByText := true, laidKinds := [.data, .data], laidTests := true, laidLooks := .later }
def AccumFreeCardSaid : Prop := Claim7.holds Tryz.pinned (.plain (OpenSpec.ofChange accumFreeSpec)) accumFreeCard

/-- THE SECOND FORM's CARD OF 'sparselaw03.FloatEnclose'. -/
def floatEncloseUptoCard : Claim7 := { stood := { row := floatEncloseUptoRow, standIns := [], harness := (true, "2d68b04104bb8bd29a6069794fff591bf695fbfc94f44d302832015ee1bd5094"), looks := false }, kinds := [], alts := [], laidByText := true, laidKinds := [.data, .data], laidTests := true, laidLooks := .later }
def FloatEncloseUptoCardSaid : Prop := Claim7.holds Tryz.pinned (.plain (OpenSpec.upto floatEncloseSpec)) floatEncloseUptoCard

/-- THE SECOND FORM's CARD OF 'sparselaw06.AccumFree'. -/
def accumFreeUptoCard : Claim7 := { stood := { row := accumFreeUptoRow, standIns := [], harness := (true, "2d68b04104bb8bd29a6069794fff591bf695fbfc94f44d302832015ee1bd5094"), looks := false }, kinds := [], alts := [], laidByText := true, laidKinds := [.data, .data], laidTests := true, laidLooks := .later }
def AccumFreeUptoCardSaid : Prop := Claim7.holds Tryz.pinned (.plain (OpenSpec.upto accumFreeSpec)) accumFreeUptoCard
end Rows
end Go.Proofs.YtijbdfcenbekmaaGreatDoor
