/-
  DERIVED. GIVEN WITH THE SEED: THE CARDS: each row of YtecaaklbhhjcjaaDoorRows.lean that lists a variable, with what it lists TIED to the program's text (the seventh form; the later family's looks); each row that meets fmt, with fmt's text TOLD by the authors' own Lean function (tested against real Go, not proved from fmt's source: count such statements apart). THE CARD IS WHAT COUNTS. Prove the row's statement (the work); the ties are given (YtecaaklbhhjcjaaDoorTie.lean); close each card by the builder's one call (the guide's Derived/Test/ToyasCard.lean, 'card_holds'). Laid BY PROGRAM, IN A SANDBOX (cutbox-door.mjs). By AI agents, Wed Nov 11 2026. No macro, syntax, notation, axiom, sorry.
-/
import Derived.Test.YtecaaklbhhjcjaaDoorRows
import GoSem.ClaimSeven
namespace Go.Proofs.YtecaaklbhhjcjaaDoor
namespace Rows

/-- THE TIED CARD OF 'sparselaw01.IntegerDivisor'. -/
def integerDivisorCard : Claim7 := { stood := { row := integerDivisorRow, standIns := [], harness := (true, "eeb402c00de42b892133ae9d241c5a4757748f083dab213f140470f79d5ea169"), looks := false }, kinds := [], alts := [], laidByText := true, laidKinds := [.data, .data, .data], laidTests := true, laidLooks := .later }
def IntegerDivisorCardSaid : Prop := Claim7.holds Tryd.pinned (.plain (OpenSpec.ofChange integerDivisorSpec)) integerDivisorCard

/-- THE SECOND FORM's CARD OF 'sparselaw01.IntegerDivisor'. -/
def integerDivisorUptoCard : Claim7 := { stood := { row := integerDivisorUptoRow, standIns := [], harness := (true, "eeb402c00de42b892133ae9d241c5a4757748f083dab213f140470f79d5ea169"), looks := false }, kinds := [], alts := [], laidByText := true, laidKinds := [.data, .data, .data], laidTests := true, laidLooks := .later }
def IntegerDivisorUptoCardSaid : Prop := Claim7.holds Tryd.pinned (.plain (OpenSpec.upto integerDivisorSpec)) integerDivisorUptoCard
end Rows
end Go.Proofs.YtecaaklbhhjcjaaDoor
