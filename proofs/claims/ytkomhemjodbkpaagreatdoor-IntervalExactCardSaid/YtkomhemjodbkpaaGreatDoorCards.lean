/-
  DERIVED. GIVEN WITH THE SEED: THE CARDS: each row of YtkomhemjodbkpaaGreatDoorRows.lean that lists a variable, with what it lists TIED to the program's text (the seventh form; the later family's looks); each row that meets fmt, with fmt's text TOLD by the authors' own Lean function (tested against real Go, not proved from fmt's source: count such statements apart). THE CARD IS WHAT COUNTS. Prove the row's statement (the work); the ties are given (YtkomhemjodbkpaaGreatDoorTie.lean); close each card by the builder's one call (the guide's Derived/Test/ToyasCard.lean, 'card_holds'). Laid BY PROGRAM, IN A SANDBOX (cutbox-door.mjs). By AI agents, Wed Nov 11 2026. No macro, syntax, notation, axiom, sorry.
-/
import Derived.Test.YtkomhemjodbkpaaGreatDoorRows
import GoSem.ClaimSeven
namespace Go.Proofs.YtkomhemjodbkpaaGreatDoor
namespace Rows

/-- THE TIED CARD OF 'sparselaw05.IntervalExact'. -/
def intervalExactCard : Claim7 := { stood := { row := intervalExactRow, standIns := [], harness := (true, "01694531ac118a98f5020563a9d4d54cdef1d45b5073646282a477cdba4eff5e"), looks := false }, kinds := [], alts := [], laidByText := true, laidKinds := [.data], laidTests := true, laidLooks := .later }
def IntervalExactCardSaid : Prop := Claim7.holds Tryz.pinned (.plain (OpenSpec.ofChange intervalExactSpec)) intervalExactCard

/-- THE TIED CARD OF 'sparselaw06.AccumCauchy'. -/
def accumCauchyCard : Claim7 := { stood := { row := accumCauchyRow, standIns := [], harness := (true, "01694531ac118a98f5020563a9d4d54cdef1d45b5073646282a477cdba4eff5e"), looks := false }, kinds := [], alts := [], laidByText := true, laidKinds := [.data, .data], laidTests := true, laidLooks := .later }
def AccumCauchyCardSaid : Prop := Claim7.holds Tryz.pinned (.plain (OpenSpec.ofChange accumCauchySpec)) accumCauchyCard

/-- THE SECOND FORM's CARD OF 'sparselaw05.IntervalExact'. -/
def intervalExactUptoCard : Claim7 := { stood := { row := intervalExactUptoRow, standIns := [], harness := (true, "01694531ac118a98f5020563a9d4d54cdef1d45b5073646282a477cdba4eff5e"), looks := false }, kinds := [], alts := [], laidByText := true, laidKinds := [.data], laidTests := true, laidLooks := .later }
def IntervalExactUptoCardSaid : Prop := Claim7.holds Tryz.pinned (.plain (OpenSpec.upto intervalExactSpec)) intervalExactUptoCard

/-- THE SECOND FORM's CARD OF 'sparselaw06.AccumCauchy'. -/
def accumCauchyUptoCard : Claim7 := { stood := { row := accumCauchyUptoRow, standIns := [], harness := (true, "01694531ac118a98f5020563a9d4d54cdef1d45b5073646282a477cdba4eff5e"), looks := false }, kinds := [], alts := [], laidByText := true, laidKinds := [.data, .data], laidTests := true, laidLooks := .later }
def AccumCauchyUptoCardSaid : Prop := Claim7.holds Tryz.pinned (.plain (OpenSpec.upto accumCauchySpec)) accumCauchyUptoCard
end Rows
end Go.Proofs.YtkomhemjodbkpaaGreatDoor
