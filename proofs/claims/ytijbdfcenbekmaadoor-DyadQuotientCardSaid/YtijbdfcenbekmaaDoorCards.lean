/-
  DERIVED. GIVEN WITH THE SEED: THE CARDS: each row of YtijbdfcenbekmaaDoorRows.lean that lists a variable, with what it lists TIED to the program's text (the seventh form; the later family's looks); each row that meets fmt, with fmt's text TOLD by the authors' own Lean function (tested against real Go, not proved from fmt's source: count such statements apart). THE CARD IS WHAT COUNTS. Prove the row's statement (the work); the ties are given (YtijbdfcenbekmaaDoorTie.lean); close each card by the builder's one call (the guide's Derived/Test/ToyasCard.lean, 'card_holds'). Laid BY PROGRAM, IN A SANDBOX (cutbox-door.mjs). By AI agents, Wed Nov 11 2026. No macro, syntax, notation, axiom, sorry.
-/
import Derived.Test.YtijbdfcenbekmaaDoorRows
import GoSem.ClaimSeven
namespace Go.Proofs.YtijbdfcenbekmaaDoor
namespace Rows

/-- THE TIED CARD OF 'sparselaw02.DyadQuotient'. -/
def dyadQuotientCard : Claim7 := { stood := { row := dyadQuotientRow, standIns := [], harness := (true, "92859d0ed5cc151af3e5273282bca3275bd4ff42684c4f930ccdcb9ce3101763"), looks := false }, kinds := [], alts := [], laidByText := true, laidKinds := [.data], laidTests := true, laidLooks := .later }
def DyadQuotientCardSaid : Prop := Claim7.holds Tryd.pinned (.plain (OpenSpec.ofChange dyadQuotientSpec)) dyadQuotientCard

/-- THE TIED CARD OF 'sparselaw03.FloatMonotone'. -/
def floatMonotoneCard : Claim7 := { stood := { row := floatMonotoneRow, standIns := [], harness := (true, "92859d0ed5cc151af3e5273282bca3275bd4ff42684c4f930ccdcb9ce3101763"), looks := false }, kinds := [], alts := [], laidByText := true, laidKinds := [.data], laidTests := true, laidLooks := .later }
def FloatMonotoneCardSaid : Prop := Claim7.holds Tryd.pinned (.plain (OpenSpec.ofChange floatMonotoneSpec)) floatMonotoneCard

/-- THE TIED CARD OF 'sparselaw03.FloatMirrors'. -/
def floatMirrorsCard : Claim7 := { stood := { row := floatMirrorsRow, standIns := [], harness := (true, "92859d0ed5cc151af3e5273282bca3275bd4ff42684c4f930ccdcb9ce3101763"), looks := false }, kinds := [], alts := [], laidByText := true, laidKinds := [.data], laidTests := true, laidLooks := .later }
def FloatMirrorsCardSaid : Prop := Claim7.holds Tryd.pinned (.plain (OpenSpec.ofChange floatMirrorsSpec)) floatMirrorsCard

/-- THE TIED CARD OF 'sparselaw03.FloatSterbenz'. -/
def floatSterbenzCard : Claim7 := { stood := { row := floatSterbenzRow, standIns := [], harness := (true, "92859d0ed5cc151af3e5273282bca3275bd4ff42684c4f930ccdcb9ce3101763"), looks := false }, kinds := [], alts := [], laidByText := true, laidKinds := [.data, .data], laidTests := true, laidLooks := .later }
def FloatSterbenzCardSaid : Prop := Claim7.holds Tryd.pinned (.plain (OpenSpec.ofChange floatSterbenzSpec)) floatSterbenzCard

/-- THE SECOND FORM's CARD OF 'sparselaw02.DyadQuotient'. -/
def dyadQuotientUptoCard : Claim7 := { stood := { row := dyadQuotientUptoRow, standIns := [], harness := (true, "92859d0ed5cc151af3e5273282bca3275bd4ff42684c4f930ccdcb9ce3101763"), looks := false }, kinds := [], alts := [], laidByText := true, laidKinds := [.data], laidTests := true, laidLooks := .later }
def DyadQuotientUptoCardSaid : Prop := Claim7.holds Tryd.pinned (.plain (OpenSpec.upto dyadQuotientSpec)) dyadQuotientUptoCard

/-- THE SECOND FORM's CARD OF 'sparselaw03.FloatMonotone'. -/
def floatMonotoneUptoCard : Claim7 := { stood := { row := floatMonotoneUptoRow, standIns := [], harness := (true, "92859d0ed5cc151af3e5273282bca3275bd4ff42684c4f930ccdcb9ce3101763"), looks := false }, kinds := [], alts := [], laidByText := true, laidKinds := [.data], laidTests := true, laidLooks := .later }
def FloatMonotoneUptoCardSaid : Prop := Claim7.holds Tryd.pinned (.plain (OpenSpec.upto floatMonotoneSpec)) floatMonotoneUptoCard

/-- THE SECOND FORM's CARD OF 'sparselaw03.FloatMirrors'. -/
def floatMirrorsUptoCard : Claim7 := { stood := { row := floatMirrorsUptoRow, standIns := [], harness := (true, "92859d0ed5cc151af3e5273282bca3275bd4ff42684c4f930ccdcb9ce3101763"), looks := false }, kinds := [], alts := [], laidByText := true, laidKinds := [.data], laidTests := true, laidLooks := .later }
def FloatMirrorsUptoCardSaid : Prop := Claim7.holds Tryd.pinned (.plain (OpenSpec.upto floatMirrorsSpec)) floatMirrorsUptoCard

/-- THE SECOND FORM's CARD OF 'sparselaw03.FloatSterbenz'. -/
def floatSterbenzUptoCard : Claim7 := { stood := { row := floatSterbenzUptoRow, standIns := [], harness := (true, "92859d0ed5cc151af3e5273282bca3275bd4ff42684c4f930ccdcb9ce3101763"), looks := false }, kinds := [], alts := [], laidByText := true, laidKinds := [.data, .data], laidTests := true, laidLooks := .later }
def FloatSterbenzUptoCardSaid : Prop := Claim7.holds Tryd.pinned (.plain (OpenSpec.upto floatSterbenzSpec)) floatSterbenzUptoCard
end Rows
end Go.Proofs.YtijbdfcenbekmaaDoor
