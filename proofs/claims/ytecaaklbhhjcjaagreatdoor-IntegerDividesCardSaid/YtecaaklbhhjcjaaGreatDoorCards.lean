/-
  DERIVED. GIVEN WITH THE SEED: THE CARDS: each row of YtecaaklbhhjcjaaGreatDoorRows.lean that lists a variable, with what it lists TIED to the program's text (the seventh form; the later family's looks); each row that meets fmt, with fmt's text TOLD by the authors' own Lean function (tested against real Go, not proved from fmt's source: count such statements apart). THE CARD IS WHAT COUNTS. Prove the row's statement (the work); the ties are given (YtecaaklbhhjcjaaGreatDoorTie.lean); close each card by the builder's one call (the guide's Derived/Test/ToyasCard.lean, 'card_holds'). Laid BY PROGRAM, IN A SANDBOX (cutbox-door.mjs). By AI agents, Wed Nov 11 2026. No macro, syntax, notation, axiom, sorry.
-/
import Derived.Test.YtecaaklbhhjcjaaGreatDoorRows
import GoSem.ClaimSeven
namespace Go.Proofs.YtecaaklbhhjcjaaGreatDoor
namespace Rows

/-- THE TIED CARD OF 'sparselaw01.IntegerDivides'. -/
def integerDividesCard : Claim7 := { stood := { row := integerDividesRow, standIns := [], harness := (true, "16760f94d3f3b556f21469f0ed2f02d0843a67ef2b951b86ea2f6ccd9893d867"), looks := false }, kinds := [], alts := [], laidByText := true, laidKinds := [.data, .data, .data], laidTests := true, laidLooks := .later }
def IntegerDividesCardSaid : Prop := Claim7.holds Tryz.pinned (.plain (OpenSpec.ofChange integerDividesSpec)) integerDividesCard

/-- THE TIED CARD OF 'sparselaw05.IntervalExact'. -/
def intervalExactCard : Claim7 := { stood := { row := intervalExactRow, standIns := [], harness := (true, "16760f94d3f3b556f21469f0ed2f02d0843a67ef2b951b86ea2f6ccd9893d867"), looks := false }, kinds := [], alts := [], laidByText := true, laidKinds := [.data], laidTests := true, laidLooks := .later }
def IntervalExactCardSaid : Prop := Claim7.holds Tryz.pinned (.plain (OpenSpec.ofChange intervalExactSpec)) intervalExactCard

/-- THE TIED CARD OF 'sparselaw05.IntervalRelations'. -/
def intervalRelationsCard : Claim7 := { stood := { row := intervalRelationsRow, standIns := [], harness := (true, "16760f94d3f3b556f21469f0ed2f02d0843a67ef2b951b86ea2f6ccd9893d867"), looks := false }, kinds := [], alts := [], laidByText := true, laidKinds := [.data, .data], laidTests := true, laidLooks := .later }
def IntervalRelationsCardSaid : Prop := Claim7.holds Tryz.pinned (.plain (OpenSpec.ofChange intervalRelationsSpec)) intervalRelationsCard

/-- THE SECOND FORM's CARD OF 'sparselaw01.IntegerDivides'. -/
def integerDividesUptoCard : Claim7 := { stood := { row := integerDividesUptoRow, standIns := [], harness := (true, "16760f94d3f3b556f21469f0ed2f02d0843a67ef2b951b86ea2f6ccd9893d867"), looks := false }, kinds := [], alts := [], laidByText := true, laidKinds := [.data, .data, .data], laidTests := true, laidLooks := .later }
def IntegerDividesUptoCardSaid : Prop := Claim7.holds Tryz.pinned (.plain (OpenSpec.upto integerDividesSpec)) integerDividesUptoCard

/-- THE SECOND FORM's CARD OF 'sparselaw05.IntervalExact'. -/
def intervalExactUptoCard : Claim7 := { stood := { row := intervalExactUptoRow, standIns := [], harness := (true, "16760f94d3f3b556f21469f0ed2f02d0843a67ef2b951b86ea2f6ccd9893d867"), looks := false }, kinds := [], alts := [], laidByText := true, laidKinds := [.data], laidTests := true, laidLooks := .later }
def IntervalExactUptoCardSaid : Prop := Claim7.holds Tryz.pinned (.plain (OpenSpec.upto intervalExactSpec)) intervalExactUptoCard

/-- THE SECOND FORM's CARD OF 'sparselaw05.IntervalRelations'. -/
def intervalRelationsUptoCard : Claim7 := { stood := { row := intervalRelationsUptoRow, standIns := [], harness := (true, "16760f94d3f3b556f21469f0ed2f02d0843a67ef2b951b86ea2f6ccd9893d867"), looks := false }, kinds := [], alts := [], laidByText := true, laidKinds := [.data, .data], laidTests := true, laidLooks := .later }
def IntervalRelationsUptoCardSaid : Prop := Claim7.holds Tryz.pinned (.plain (OpenSpec.upto intervalRelationsSpec)) intervalRelationsUptoCard
end Rows
end Go.Proofs.YtecaaklbhhjcjaaGreatDoor
