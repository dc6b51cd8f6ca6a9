/-
  DERIVED. GIVEN WITH THE SEED: THE CARDS: each row of YtolghagbpnjpgaaGreatDoorRows.lean that lists a variable, with what it lists TIED to the program's text (the seventh form; the later family's looks); each row that meets fmt, with fmt's text TOLD by the authors' own Lean function (tested against real Go, not proved from fmt's source: count such statements apart). THE CARD IS WHAT COUNTS. Prove the row's statement (the work); the ties are given (YtolghagbpnjpgaaGreatDoorTie.lean); close each card by the builder's one call (the guide's Derived/Test/ToyasCard.lean, 'card_holds'). Laid BY PROGRAM, IN A SANDBOX (cutbox-door.mjs). By AI agents, Wed Nov 11 2026. No macro, syntax, notation, axiom, sorry.
-/
import Derived.Test.YtolghagbpnjpgaaGreatDoorRows
import GoSem.ClaimSeven
namespace Go.Proofs.YtolghagbpnjpgaaGreatDoor
namespace Rows

/-- THE TIED CARD OF 'sparselaw03.FloatExact'. -/
def floatExactCard : Claim7 := { stood := { row := floatExactRow, standIns := [], harness := (true, "704cc3ff6f0f7891a559fc2e705e7153bc28ed3f50d074b0c8e2d9f81d297617"), looks := false }, kinds := [], alts := [], laidByText := true, laidKinds := [.data], laidTests := true, laidLooks := .later }
def FloatExactCardSaid : Prop := Claim7.holds Tryz.pinned (.plain (OpenSpec.ofChange floatExactSpec)) floatExactCard

/-- THE TIED CARD OF 'sparselaw03.FloatQuotients'. -/
def floatQuotientsCard : Claim7 := { stood := { row := floatQuotientsRow, standIns := [], harness := (true, "704cc3ff6f0f7891a559fc2e705e7153bc28ed3f50d074b0c8e2d9f81d297617"), looks := false }, kinds := [], alts := [], laidByText := true, laidKinds := [.data], laidTests := true, laidLooks := .later }
def FloatQuotientsCardSaid : Prop := Claim7.holds Tryz.pinned (.plain (OpenSpec.ofChange floatQuotientsSpec)) floatQuotientsCard

/-- THE TIED CARD OF 'sparselaw05.IntervalExact'. -/
def intervalExactCard : Claim7 := { stood := { row := intervalExactRow, standIns := [], harness := (true, "704cc3ff6f0f7891a559fc2e705e7153bc28ed3f50d074b0c8e2d9f81d297617"), looks := false }, kinds := [], alts := [], laidByText := true, laidKinds := [.data], laidTests := true, laidLooks := .later }
def IntervalExactCardSaid : Prop := Claim7.holds Tryz.pinned (.plain (OpenSpec.ofChange intervalExactSpec)) intervalExactCard

/-- THE TIED CARD OF 'sparselaw06.AccumNorms'. -/
def accumNormsCard : Claim7 := { stood := { row := accumNormsRow, standIns := [], harness := (true, "704cc3ff6f0f7891a559fc2e705e7153bc28ed3f50d074b0c8e2d9f81d297617"), looks := false }, kinds := [], alts := [], laidByText := true, laidKinds := [.data, .data], laidTests := true, laidLooks := .later }
def AccumNormsCardSaid : Prop := Claim7.holds Tryz.pinned (.plain (OpenSpec.ofChange accumNormsSpec)) accumNormsCard

/-- THE SECOND FORM's CARD OF 'sparselaw03.FloatExact'. -/
def floatExactUptoCard : Claim7 := { stood := { row := floatExactUptoRow, standIns := [], harness := (true, "704cc3ff6f0f7891a559fc2e705e7153bc28ed3f50d074b0c8e2d9f81d297617"), looks := false }, kinds := [], alts := [], laidByText := true, laidKinds := [.data], laidTests := true, laidLooks := .later }
def FloatExactUptoCardSaid : Prop := Claim7.holds Tryz.pinned (.plain (OpenSpec.upto floatExactSpec)) floatExactUptoCard

/-- THE SECOND FORM's CARD OF 'sparselaw03.FloatQuotients'. -/
def floatQuotientsUptoCard : Claim7 := { stood := { row := floatQuotientsUptoRow, standIns := [], harness := (true, "704cc3ff6f0f7891a559fc2e705e7153bc28ed3f50d074b0c8e2d9f81d297617"), looks := false }, kinds := [], alts := [], laidByText := true, laidKinds := [.data], laidTests := true, laidLooks := .later }
def FloatQuotientsUptoCardSaid : Prop := Claim7.holds Tryz.pinned (.plain (OpenSpec.upto floatQuotientsSpec)) floatQuotientsUptoCard

/-- THE SECOND FORM's CARD OF 'sparselaw05.IntervalExact'. -/
def intervalExactUptoCard : Claim7 := { stood := { row := intervalExactUptoRow, standIns := [], harness := (true, "704cc3ff6f0f7891a559fc2e705e7153bc28ed3f50d074b0c8e2d9f81d297617"), looks := false }, kinds := [], alts := [], laidByText := true, laidKinds := [.data], laidTests := true, laidLooks := .later }
def IntervalExactUptoCardSaid : Prop := Claim7.holds Tryz.pinned (.plain (OpenSpec.upto intervalExactSpec)) intervalExactUptoCard

/-- THE SECOND FORM's CARD OF 'sparselaw06.AccumNorms'. -/
def accumNormsUptoCard : Claim7 := { stood := { row := accumNormsUptoRow, standIns := [], harness := (true, "704cc3ff6f0f7891a559fc2e705e7153bc28ed3f50d074b0c8e2d9f81d297617"), looks := false }, kinds := [], alts := [], laidByText := true, laidKinds := [.data, .data], laidTests := true, laidLooks := .later }
def AccumNormsUptoCardSaid : Prop := Claim7.holds Tryz.pinned (.plain (OpenSpec.upto accumNormsSpec)) accumNormsUptoCard
end Rows
end Go.Proofs.YtolghagbpnjpgaaGreatDoor
