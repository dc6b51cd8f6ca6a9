/-
  DERIVED. GIVEN WITH THE SEED: THE CARDS: each row of YtilmighjcjgccaaGreatDoorRows.lean that lists a variable, with what it lists TIED to the program's text (the seventh form; the later family's looks); each row that meets fmt, with fmt's text TOLD by the authors' own Lean function (tested against real Go, not proved from fmt's source: count such statements apart). THE CARD IS WHAT COUNTS. Prove the row's statement (the work); the ties are given (YtilmighjcjgccaaGreatDoorTie.lean); close each card by the builder's one call (the guide's Derived/Test/ToyasCard.lean, 'card_holds'). Laid BY PROGRAM, IN A SANDBOX (cutbox-door.mjs). By AI agents, Wed Nov 11 2026. No macro, syntax, notation, axiom, sorry.
-/
import Derived.Test.YtilmighjcjgccaaGreatDoorRows
import GoSem.ClaimSeven
namespace Go.Proofs.YtilmighjcjgccaaGreatDoor
namespace Rows

/-- THE TIED CARD OF 'sparselaw02.DyadExact'. -/
def dyadExactCard : Claim7 := { stood := { row := dyadExactRow, standIns := [], harness := (true, "20492507d33f76a225dd436acccad23de5b87b4eb66dd31479aff66083f1df1a"), looks := false }, kinds := [], alts := [], laidByText := true, laidKinds := [.data], laidTests := true, laidLooks := .later }
def DyadExactCardSaid : Prop := Claim7.holds Tryz.pinned (.plain (OpenSpec.ofChange dyadExactSpec)) dyadExactCard

/-- THE TIED CARD OF 'sparselaw03.FloatForms'. -/
def floatFormsCard : Claim7 := { stood := { row := floatFormsRow, standIns := [], harness := (true, "20492507d33f76a225dd436acccad23de5b87b4eb66dd31479aff66083f1df1a"), looks := false }, kinds := [], alts := [], laidByText := true, laidKinds := [.data, .data], laidTests := true, laidLooks := .later }
def FloatFormsCardSaid : Prop := Claim7.holds Tryz.pinned (.plain (OpenSpec.ofChange floatFormsSpec)) floatFormsCard

/-- THE TIED CARD OF 'sparselaw06.AccumExact'. -/
def accumExactCard : Claim7 := { stood := { row := accumExactRow, standIns := [], harness := (true, "20492507d33f76a225dd436acccad23de5b87b4eb66dd31479aff66083f1df1a"), looks := false }, kinds := [], alts := [], laidByText := true, laidKinds := [.data, .data], laidTests := true, laidLooks := .later }
def AccumExactCardSaid : Prop := Claim7.holds Tryz.pinned (.plain (OpenSpec.ofChange accumExactSpec)) accumExactCard

/-- THE TIED CARD OF 'sparselaw06.AccumTwo'. -/
def accumTwoCard : Claim7 := { stood := { row := accumTwoRow, standIns := [], harness := (true, "20492507d33f76a225dd436acccad23de5b87b4eb66dd31479aff66083f1df1a"), looks := false }, kinds := [], alts := [], laidByText := true, laidKinds := [.data, .data], laidTests := true, laidLooks := .later }
def AccumTwoCardSaid : Prop := Claim7.holds Tryz.pinned (.plain (OpenSpec.ofChange accumTwoSpec)) accumTwoCard

/-- THE SECOND FORM's CARD OF 'sparselaw02.DyadExact'. -/
def dyadExactUptoCard : Claim7 := { stood := { row := dyadExactUptoRow, standIns := [], harness := (true, "20492507d33f76a225dd436acccad23de5b87b4eb66dd31479aff66083f1df1a"), looks := false }, kinds := [], alts := [], laidByText := true, laidKinds := [.data], laidTests := true, laidLooks := .later }
def DyadExactUptoCardSaid : Prop := Claim7.holds Tryz.pinned (.plain (OpenSpec.upto dyadExactSpec)) dyadExactUptoCard

/-- THE SECOND FORM's CARD OF 'sparselaw03.FloatForms'. -/
def floatFormsUptoCard : Claim7 := { stood := { row := floatFormsUptoRow, standIns := [], harness := (true, "20492507d33f76a225dd436acccad23de5b87b4eb66dd31479aff66083f1df1a"), looks := false }, kinds := [], alts := [], laidByText := true, laidKinds := [.data, .data], laidTests := true, laidLooks := .later }
def FloatFormsUptoCardSaid : Prop := Claim7.holds Tryz.pinned (.plain (OpenSpec.upto floatFormsSpec)) floatFormsUptoCard

/-- THE SECOND FORM's CARD OF 'sparselaw06.AccumExact'. -/
def accumExactUptoCard : Claim7 := { stood := { row := accumExactUptoRow, standIns := [], harness := (true, "20492507d33f76a225dd436acccad23de5b87b4eb66dd31479aff66083f1df1a"), looks := false }, kinds := [], alts := [], laidByText := true, laidKinds := [.data, .data], laidTests := true, laidLooks := .later }
def AccumExactUptoCardSaid : Prop := Claim7.holds Tryz.pinned (.plain (OpenSpec.upto accumExactSpec)) accumExactUptoCard

/-- THE SECOND FORM's CARD OF 'sparselaw06.AccumTwo'. -/
def accumTwoUptoCard : Claim7 := { stood := { row := accumTwoUptoRow, standIns := [], harness := (true, "20492507d33f76a225dd436acccad23de5b87b4eb66dd31479aff66083f1df1a"), looks := false }, kinds := [], alts := [], laidByText := true, laidKinds := [.data, .data], laidTests := true, laidLooks := .later }
def AccumTwoUptoCardSaid : Prop := Claim7.holds Tryz.pinned (.plain (OpenSpec.upto accumTwoSpec)) accumTwoUptoCard
end Rows
end Go.Proofs.YtilmighjcjgccaaGreatDoor
