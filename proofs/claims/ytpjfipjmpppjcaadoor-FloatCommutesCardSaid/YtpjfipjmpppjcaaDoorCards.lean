/-
  DERIVED. GIVEN WITH THE SEED: THE CARDS: each row of YtpjfipjmpppjcaaDoorRows.lean that lists a variable, with what it lists TIED to the program's text (the seventh form; the later family's looks); each row that meets fmt, with fmt's text TOLD by the authors' own Lean function (tested against real Go, not proved from fmt's source: count such statements apart). THE CARD IS WHAT COUNTS. Prove the row's statement (the work); the ties are given (YtpjfipjmpppjcaaDoorTie.lean); close each card by the builder's one call (the guide's Derived/Test/ToyasCard.lean, 'card_holds'). Laid BY PROGRAM, IN A SANDBOX (cutbox-door.mjs). By AI agents, Wed Nov 11 2026. No macro, syntax, notation, axiom, sorry.
-/
import Derived.Test.YtpjfipjmpppjcaaDoorRows
import GoSem.ClaimSeven
namespace Go.Proofs.YtpjfipjmpppjcaaDoor
namespace Rows

/-- THE TIED CARD OF 'sparselaw01.IntegerExact'. -/
def integerExactCard : Claim7 := { stood := { row := integerExactRow, standIns := [], harness := (true, "a5b4d026c8e02426191ba477fc4c0e1b691cdb6ce16cb219e9e4218992e7ac16"), looks := false }, kinds := [], alts := [], laidByText := true, laidKinds := [.data, .data, .data], laidTests := true, laidLooks := .later }
def IntegerExactCardSaid : Prop := Claim7.holds Tryd.pinned (.plain (OpenSpec.ofChange integerExactSpec)) integerExactCard

/-- THE TIED CARD OF 'sparselaw03.FloatCommutes'. -/
def floatCommutesCard : Claim7 := { stood := { row := floatCommutesRow, standIns := [], harness := (true, "a5b4d026c8e02426191ba477fc4c0e1b691cdb6ce16cb219e9e4218992e7ac16"), looks := false }, kinds := [], alts := [], laidByText := true, laidKinds := [.data], laidTests := true, laidLooks := .later }
def FloatCommutesCardSaid : Prop := Claim7.holds Tryd.pinned (.plain (OpenSpec.ofChange floatCommutesSpec)) floatCommutesCard

/-- THE TIED CARD OF 'sparselaw05.IntervalWhole'. -/
def intervalWholeCard : Claim7 := { stood := { row := intervalWholeRow, standIns := [], harness := (true, "a5b4d026c8e02426191ba477fc4c0e1b691cdb6ce16cb219e9e4218992e7ac16"), looks := false }, kinds := [], alts := [], laidByText := true, laidKinds := [.data], laidTests := true, laidLooks := .later }
def IntervalWholeCardSaid : Prop := Claim7.holds Tryd.pinned (.plain (OpenSpec.ofChange intervalWholeSpec)) intervalWholeCard

/-- THE TIED CARD OF 'sparselaw05.IntervalMeets'. -/
def intervalMeetsCard : Claim7 := { stood := { row := intervalMeetsRow, standIns := [], harness := (true, "a5b4d026c8e02426191ba477fc4c0e1b691cdb6ce16cb219e9e4218992e7ac16"), looks := false }, kinds := [], alts := [], laidByText := true, laidKinds := [.data], laidTests := true, laidLooks := .later }
def IntervalMeetsCardSaid : Prop := Claim7.holds Tryd.pinned (.plain (OpenSpec.ofChange intervalMeetsSpec)) intervalMeetsCard

/-- THE SECOND FORM's CARD OF 'sparselaw01.IntegerExact'. -/
def integerExactUptoCard : Claim7 := { stood := { row := integerExactUptoRow, standIns := [], harness := (true, "a5b4d026c8e02426191ba477fc4c0e1b691cdb6ce16cb219e9e4218992e7ac16"), looks := false }, kinds := [], alts := [], laidByText := true, laidKinds := [.data, .data, .data], laidTests := true, laidLooks := .later }
def IntegerExactUptoCardSaid : Prop := Claim7.holds Tryd.pinned (.plain (OpenSpec.upto integerExactSpec)) integerExactUptoCard

/-- THE SECOND FORM's CARD OF 'sparselaw03.FloatCommutes'. -/
def floatCommutesUptoCard : Claim7 := { stood := { row := floatCommutesUptoRow, standIns := [], harness := (true, "a5b4d026c8e02426191ba477fc4c0e1b691cdb6ce16cb219e9e4218992e7ac16"), looks := false }, kinds := [], alts := [], laidByText := true, laidKinds := [.data], laidTests := true, laidLooks := .later }
def FloatCommutesUptoCardSaid : Prop := Claim7.holds Tryd.pinned (.plain (OpenSpec.upto floatCommutesSpec)) floatCommutesUptoCard

/-- THE SECOND FORM's CARD OF 'sparselaw05.IntervalWhole'. -/
def intervalWholeUptoCard : Claim7 := { stood := { row := intervalWholeUptoRow, standIns := [], harness := (true, "a5b4d026c8e02426191ba477fc4c0e1b691cdb6ce16cb219e9e4218992e7ac16"), looks := false }, kinds := [], alts := [], laidByText := true, laidKinds := [.data], laidTests := true, laidLooks := .later }
def IntervalWholeUptoCardSaid : Prop := Claim7.holds Tryd.pinned (.plain (OpenSpec.upto intervalWholeSpec)) intervalWholeUptoCard

/-- THE SECOND FORM's CARD OF 'sparselaw05.IntervalMeets'. -/
def intervalMeetsUptoCard : Claim7 := { stood := { row := intervalMeetsUptoRow, standIns := [], harness := (true, "a5b4d026c8e02426191ba477fc4c0e1b691cdb6ce16cb219e9e4218992e7ac16"), looks := false }, kinds := [], alts := [], laidByText := true, laidKinds := [.data], laidTests := true, laidLooks := .later }
def IntervalMeetsUptoCardSaid : Prop := Claim7.holds Tryd.pinned (.plain (OpenSpec.upto intervalMeetsSpec)) intervalMeetsUptoCard
end Rows
end Go.Proofs.YtpjfipjmpppjcaaDoor
