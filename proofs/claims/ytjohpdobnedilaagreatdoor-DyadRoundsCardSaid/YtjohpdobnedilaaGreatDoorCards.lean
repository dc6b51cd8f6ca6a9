/-
  DERIVED. GIVEN WITH THE SEED: THE CARDS: each row of YtjohpdobnedilaaGreatDoorRows.lean that lists a variable, with what it lists TIED to the program's text (the seventh form; the later family's looks); each row that meets fmt, with fmt's text TOLD by the authors' own Lean function (tested against real Go, not proved from fmt's source: count such statements apart). THE CARD IS WHAT COUNTS. Prove the row's statement (the work); the ties are given (YtjohpdobnedilaaGreatDoorTie.lean); close each card by the builder's one call (the guide's Derived/Test/ToyasCard.lean, 'card_holds'). Laid BY PROGRAM, IN A SANDBOX (cutbox-door.mjs). By AI agents, Wed Nov 11 2026. No macro, syntax, notation, axiom, sorry.
-/
import Derived.Test.YtjohpdobnedilaaGreatDoorRows
import GoSem.ClaimSeven
namespace Go.Proofs.YtjohpdobnedilaaGreatDoor
namespace Rows

/-- THE TIED CARD OF 'sparselaw06.AccumTwo'. -/
def accumTwoCard : Claim7 := { stood := { row := accumTwoRow, standIns := [], harness := (true, "57188d0c2b67f93988ee958f6a4c0638a4db3a089204f3f92b3f9add318a7217"), looks := false }, kinds := [], alts := [], laidByText := true, laidKinds := [.data, .data], laidTests := true, laidLooks := .later }
def AccumTwoCardSaid : Prop := Claim7.holds Tryz.pinned (.plain (OpenSpec.ofChange accumTwoSpec)) accumTwoCard

/-- THE TIED CARD OF 'sparselaw03.FloatForms'. -/
def floatFormsCard : Claim7 := { stood := { row := floatFormsRow, standIns := [], harness := (true, "57188d0c2b67f93988ee958f6a4c0638a4db3a089204f3f92b3f9add318a7217"), looks := false }, kinds := [], alts := [], laidByText := true, laidKinds := [.data, .data], laidTests := true, laidLooks := .later }
def FloatFormsCardSaid : Prop := Claim7.holds Tryz.pinned (.plain (OpenSpec.ofChange floatFormsSpec)) floatFormsCard

/-- THE TIED CARD OF 'sparselaw02.DyadRounds'. -/
def dyadRoundsCard : Claim7 := { stood := { row := dyadRoundsRow, standIns := [], harness := (true, "57188d0c2b67f93988ee958f6a4c0638a4db3a089204f3f92b3f9add318a7217"), looks := false }, kinds := [], alts := [], laidByText := true, laidKinds := [.data], laidTests := true, laidLooks := .later }
def DyadRoundsCardSaid : Prop := Claim7.holds Tryz.pinned (.plain (OpenSpec.ofChange dyadRoundsSpec)) dyadRoundsCard

/-- THE TIED CARD OF 'sparselaw01.IntegerBits'. -/
def integerBitsCard : Claim7 := { stood := { row := integerBitsRow, standIns := [], harness := (true, "57188d0c2b67f93988ee958f6a4c0638a4db3a089204f3f92b3f9add318a7217"), looks := false }, kinds := [], alts := [], laidByText := true, laidKinds := [.data, .data, .data], laidTests := true, laidLooks := .later }
def IntegerBitsCardSaid : Prop := Claim7.holds Tryz.pinned (.plain (OpenSpec.ofChange integerBitsSpec)) integerBitsCard

/-- THE SECOND FORM's CARD OF 'sparselaw06.AccumTwo'. -/
def accumTwoUptoCard : Claim7 := { stood := { row := accumTwoUptoRow, standIns := [], harness := (true, "57188d0c2b67f93988ee958f6a4c0638a4db3a089204f3f92b3f9add318a7217"), looks := false }, kinds := [], alts := [], laidByText := true, laidKinds := [.data, .data], laidTests := true, laidLooks := .later }
def AccumTwoUptoCardSaid : Prop := Claim7.holds Tryz.pinned (.plain (OpenSpec.upto accumTwoSpec)) accumTwoUptoCard

/-- THE SECOND FORM's CARD OF 'sparselaw03.FloatForms'. -/
def floatFormsUptoCard : Claim7 := { stood := { row := floatFormsUptoRow, standIns := [], harness := (true, "57188d0c2b67f93988ee958f6a4c0638a4db3a089204f3f92b3f9add318a7217"), looks := false }, kinds := [], alts := [], laidByText := true, laidKinds := [.data, .data], laidTests := true, laidLooks := .later }
def FloatFormsUptoCardSaid : Prop := Claim7.holds Tryz.pinned (.plain (OpenSpec.upto floatFormsSpec)) floatFormsUptoCard

/-- THE SECOND FORM's CARD OF 'sparselaw02.DyadRounds'. -/
def dyadRoundsUptoCard : Claim7 := { stood := { row := dyadRoundsUptoRow, standIns := [], harness := (true, "57188d0c2b67f93988ee958f6a4c0638a4db3a089204f3f92b3f9add318a7217"), looks := false }, kinds := [], alts := [], laidByText := true, laidKinds := [.data], laidTests := true, laidLooks := .later }
def DyadRoundsUptoCardSaid : Prop := Claim7.holds Tryz.pinned (.plain (OpenSpec.upto dyadRoundsSpec)) dyadRoundsUptoCard

/-- THE SECOND FORM's CARD OF 'sparselaw01.IntegerBits'. -/
def integerBitsUptoCard : Claim7 := { stood := { row := integerBitsUptoRow, standIns := [], harness := (true, "57188d0c2b67f93988ee958f6a4c0638a4db3a089204f3f92b3f9add318a7217"), looks := false }, kinds := [], alts := [], laidByText := true, laidKinds := [.data, .data, .data], laidTests := true, laidLooks := .later }
def IntegerBitsUptoCardSaid : Prop := Claim7.holds Tryz.pinned (.plain (OpenSpec.upto integerBitsSpec)) integerBitsUptoCard
end Rows
end Go.Proofs.YtjohpdobnedilaaGreatDoor
