/-
  DERIVED. GIVEN WITH THE SEED: THE CARDS: each row of YtpmbmemfoljfpaaDoorRows.lean that lists a variable, with what it lists TIED to the program's text (the seventh form; the later family's looks); each row that meets fmt, with fmt's text TOLD by the authors' own Lean function (tested against real Go, not proved from fmt's source: count such statements apart). THE CARD IS WHAT COUNTS. Prove the row's statement (the work); the ties are given (YtpmbmemfoljfpaaDoorTie.lean); close each card by the builder's one call (the guide's Derived/Test/ToyasCard.lean, 'card_holds'). Laid BY PROGRAM, IN A SANDBOX (cutbox-door.mjs). By AI agents, Wed Nov 11 2026. No macro, syntax, notation, axiom, sorry.
-/
import Derived.Test.YtpmbmemfoljfpaaDoorRows
import GoSem.ClaimSeven
namespace Go.Proofs.YtpmbmemfoljfpaaDoor
namespace Rows

/-- THE TIED CARD OF 'sparselaw01.IntegerExact'. -/
def integerExactCard : Claim7 := { stood := { row := integerExactRow, standIns := [], harness := (true, "48dff8296009c83145efbb74a838c5fcdbd98afec0509602b7ac1f062bb6aa03"), looks := false }, kinds := [], alts := [], laidByText := true, laidKinds := [.data, .data, .data], laidTests := true, laidLooks := .later }
def IntegerExactCardSaid : Prop := Claim7.holds Tryd.pinned (.plain (OpenSpec.ofChange integerExactSpec)) integerExactCard

/-- THE TIED CARD OF 'sparselaw01.IntegerTexts'. -/
def integerTextsCard : Claim7 := { stood := { row := integerTextsRow, standIns := [], harness := (true, "48dff8296009c83145efbb74a838c5fcdbd98afec0509602b7ac1f062bb6aa03"), looks := false }, kinds := [], alts := [], laidByText := true, laidKinds := [.data, .data, .data], laidTests := true, laidLooks := .later }
def IntegerTextsCardSaid : Prop := Claim7.holds Tryd.pinned (.plain (OpenSpec.ofChange integerTextsSpec)) integerTextsCard

/-- THE TIED CARD OF 'sparselaw01.IntegerRing'. -/
def integerRingCard : Claim7 := { stood := { row := integerRingRow, standIns := [], harness := (true, "48dff8296009c83145efbb74a838c5fcdbd98afec0509602b7ac1f062bb6aa03"), looks := false }, kinds := [], alts := [], laidByText := true, laidKinds := [.data, .data, .data], laidTests := true, laidLooks := .later }
def IntegerRingCardSaid : Prop := Claim7.holds Tryd.pinned (.plain (OpenSpec.ofChange integerRingSpec)) integerRingCard

/-- THE TIED CARD OF 'sparselaw01.IntegerDivision'. -/
def integerDivisionCard : Claim7 := { stood := { row := integerDivisionRow, standIns := [], harness := (true, "48dff8296009c83145efbb74a838c5fcdbd98afec0509602b7ac1f062bb6aa03"), looks := false }, kinds := [], alts := [], laidByText := true, laidKinds := [.data, .data, .data], laidTests := true, laidLooks := .later }
def IntegerDivisionCardSaid : Prop := Claim7.holds Tryd.pinned (.plain (OpenSpec.ofChange integerDivisionSpec)) integerDivisionCard

/-- THE TIED CARD OF 'sparselaw01.IntegerDivisor'. -/
def integerDivisorCard : Claim7 := { stood := { row := integerDivisorRow, standIns := [], harness := (true, "48dff8296009c83145efbb74a838c5fcdbd98afec0509602b7ac1f062bb6aa03"), looks := false }, kinds := [], alts := [], laidByText := true, laidKinds := [.data, .data, .data], laidTests := true, laidLooks := .later }
def IntegerDivisorCardSaid : Prop := Claim7.holds Tryd.pinned (.plain (OpenSpec.ofChange integerDivisorSpec)) integerDivisorCard

/-- THE TIED CARD OF 'sparselaw01.IntegerPowers'. -/
def integerPowersCard : Claim7 := { stood := { row := integerPowersRow, standIns := [], harness := (true, "48dff8296009c83145efbb74a838c5fcdbd98afec0509602b7ac1f062bb6aa03"), looks := false }, kinds := [], alts := [], laidByText := true, laidKinds := [.data, .data, .data], laidTests := true, laidLooks := .later }
def IntegerPowersCardSaid : Prop := Claim7.holds Tryd.pinned (.plain (OpenSpec.ofChange integerPowersSpec)) integerPowersCard

/-- THE TIED CARD OF 'sparselaw01.IntegerRoot'. -/
def integerRootCard : Claim7 := { stood := { row := integerRootRow, standIns := [], harness := (true, "48dff8296009c83145efbb74a838c5fcdbd98afec0509602b7ac1f062bb6aa03"), looks := false }, kinds := [], alts := [], laidByText := true, laidKinds := [.data, .data, .data], laidTests := true, laidLooks := .later }
def IntegerRootCardSaid : Prop := Claim7.holds Tryd.pinned (.plain (OpenSpec.ofChange integerRootSpec)) integerRootCard

/-- THE TIED CARD OF 'sparselaw01.IntegerOrder'. -/
def integerOrderCard : Claim7 := { stood := { row := integerOrderRow, standIns := [], harness := (true, "48dff8296009c83145efbb74a838c5fcdbd98afec0509602b7ac1f062bb6aa03"), looks := false }, kinds := [], alts := [], laidByText := true, laidKinds := [.data, .data, .data], laidTests := true, laidLooks := .later }
def IntegerOrderCardSaid : Prop := Claim7.holds Tryd.pinned (.plain (OpenSpec.ofChange integerOrderSpec)) integerOrderCard

/-- THE TIED CARD OF 'sparselaw02.DyadSums'. -/
def dyadSumsCard : Claim7 := { stood := { row := dyadSumsRow, standIns := [], harness := (true, "48dff8296009c83145efbb74a838c5fcdbd98afec0509602b7ac1f062bb6aa03"), looks := false }, kinds := [], alts := [], laidByText := true, laidKinds := [.data], laidTests := true, laidLooks := .later }
def DyadSumsCardSaid : Prop := Claim7.holds Tryd.pinned (.plain (OpenSpec.ofChange dyadSumsSpec)) dyadSumsCard

/-- THE TIED CARD OF 'sparselaw02.DyadRing'. -/
def dyadRingCard : Claim7 := { stood := { row := dyadRingRow, standIns := [], harness := (true, "48dff8296009c83145efbb74a838c5fcdbd98afec0509602b7ac1f062bb6aa03"), looks := false }, kinds := [], alts := [], laidByText := true, laidKinds := [.data], laidTests := true, laidLooks := .later }
def DyadRingCardSaid : Prop := Claim7.holds Tryd.pinned (.plain (OpenSpec.ofChange dyadRingSpec)) dyadRingCard

/-- THE TIED CARD OF 'sparselaw02.DyadNearest'. -/
def dyadNearestCard : Claim7 := { stood := { row := dyadNearestRow, standIns := [], harness := (true, "48dff8296009c83145efbb74a838c5fcdbd98afec0509602b7ac1f062bb6aa03"), looks := false }, kinds := [], alts := [], laidByText := true, laidKinds := [.data], laidTests := true, laidLooks := .later }
def DyadNearestCardSaid : Prop := Claim7.holds Tryd.pinned (.plain (OpenSpec.ofChange dyadNearestSpec)) dyadNearestCard

/-- THE TIED CARD OF 'sparselaw02.DyadQuotient'. -/
def dyadQuotientCard : Claim7 := { stood := { row := dyadQuotientRow, standIns := [], harness := (true, "48dff8296009c83145efbb74a838c5fcdbd98afec0509602b7ac1f062bb6aa03"), looks := false }, kinds := [], alts := [], laidByText := true, laidKinds := [.data], laidTests := true, laidLooks := .later }
def DyadQuotientCardSaid : Prop := Claim7.holds Tryd.pinned (.plain (OpenSpec.ofChange dyadQuotientSpec)) dyadQuotientCard

/-- THE TIED CARD OF 'sparselaw02.DyadRoot'. -/
def dyadRootCard : Claim7 := { stood := { row := dyadRootRow, standIns := [], harness := (true, "48dff8296009c83145efbb74a838c5fcdbd98afec0509602b7ac1f062bb6aa03"), looks := false }, kinds := [], alts := [], laidByText := true, laidKinds := [.data], laidTests := true, laidLooks := .later }
def DyadRootCardSaid : Prop := Claim7.holds Tryd.pinned (.plain (OpenSpec.ofChange dyadRootSpec)) dyadRootCard

/-- THE TIED CARD OF 'sparselaw02.DyadScales'. -/
def dyadScalesCard : Claim7 := { stood := { row := dyadScalesRow, standIns := [], harness := (true, "48dff8296009c83145efbb74a838c5fcdbd98afec0509602b7ac1f062bb6aa03"), looks := false }, kinds := [], alts := [], laidByText := true, laidKinds := [.data], laidTests := true, laidLooks := .later }
def DyadScalesCardSaid : Prop := Claim7.holds Tryd.pinned (.plain (OpenSpec.ofChange dyadScalesSpec)) dyadScalesCard

/-- THE TIED CARD OF 'sparselaw02.DyadLimits'. -/
def dyadLimitsCard : Claim7 := { stood := { row := dyadLimitsRow, standIns := [], harness := (true, "48dff8296009c83145efbb74a838c5fcdbd98afec0509602b7ac1f062bb6aa03"), looks := false }, kinds := [], alts := [], laidByText := true, laidKinds := [.data], laidTests := true, laidLooks := .later }
def DyadLimitsCardSaid : Prop := Claim7.holds Tryd.pinned (.plain (OpenSpec.ofChange dyadLimitsSpec)) dyadLimitsCard

/-- THE SECOND FORM's CARD OF 'sparselaw01.IntegerExact'. -/
def integerExactUptoCard : Claim7 := { stood := { row := integerExactUptoRow, standIns := [], harness := (true, "48dff8296009c83145efbb74a838c5fcdbd98afec0509602b7ac1f062bb6aa03"), looks := false }, kinds := [], alts := [], laidByText := true, laidKinds := [.data, .data, .data], laidTests := true, laidLooks := .later }
def IntegerExactUptoCardSaid : Prop := Claim7.holds Tryd.pinned (.plain (OpenSpec.upto integerExactSpec)) integerExactUptoCard

/-- THE SECOND FORM's CARD OF 'sparselaw01.IntegerTexts'. -/
def integerTextsUptoCard : Claim7 := { stood := { row := integerTextsUptoRow, standIns := [], harness := (true, "48dff8296009c83145efbb74a838c5fcdbd98afec0509602b7ac1f062bb6aa03"), looks := false }, kinds := [], alts := [], laidByText := true, laidKinds := [.data, .data, .data], laidTests := true, laidLooks := .later }
def IntegerTextsUptoCardSaid : Prop := Claim7.holds Tryd.pinned (.plain (OpenSpec.upto integerTextsSpec)) integerTextsUptoCard

/-- THE SECOND FORM's CARD OF 'sparselaw01.IntegerRing'. -/
def integerRingUptoCard : Claim7 := { stood := { row := integerRingUptoRow, standIns := [], harness := (true, "48dff8296009c83145efbb74a838c5fcdbd98afec0509602b7ac1f062bb6aa03"), looks := false }, kinds := [], alts := [], laidByText := true, laidKinds := [.data, .data, .data], laidTests := true, laidLooks := .later }
def IntegerRingUptoCardSaid : Prop := Claim7.holds Tryd.pinned (.plain (OpenSpec.upto integerRingSpec)) integerRingUptoCard

/-- THE SECOND FORM's CARD OF 'sparselaw01.IntegerDivision'. -/
def integerDivisionUptoCard : Claim7 := { stood := { row := integerDivisionUptoRow, standIns := [], harness := (true, "48dff8296009c83145efbb74a838c5fcdbd98afec0509602b7ac1f062bb6aa03"), looks := false }, kinds := [], alts := [], laidByText := true, laidKinds := [.data, .data, .data], laidTests := true, laidLooks := .later }
def IntegerDivisionUptoCardSaid : Prop := Claim7.holds Tryd.pinned (.plain (OpenSpec.upto integerDivisionSpec)) integerDivisionUptoCard

/-- THE SECOND FORM's CARD OF 'sparselaw01.IntegerDivisor'. -/
def integerDivisorUptoCard : Claim7 := { stood := { row := integerDivisorUptoRow, standIns := [], harness := (true, "48dff8296009c83145efbb74a838c5fcdbd98afec0509602b7ac1f062bb6aa03"), looks := false }, kinds := [], alts := [], laidByText := true, laidKinds := [.data, .data, .data], laidTests := true, laidLooks := .later }
def IntegerDivisorUptoCardSaid : Prop := Claim7.holds Tryd.pinned (.plain (OpenSpec.upto integerDivisorSpec)) integerDivisorUptoCard

/-- THE SECOND FORM's CARD OF 'sparselaw01.IntegerPowers'. -/
def integerPowersUptoCard : Claim7 := { stood := { row := integerPowersUptoRow, standIns := [], harness := (true, "48dff8296009c83145efbb74a838c5fcdbd98afec0509602b7ac1f062bb6aa03"), looks := false }, kinds := [], alts := [], laidByText := true, laidKinds := [.data, .data, .data], laidTests := true, laidLooks := .later }
def IntegerPowersUptoCardSaid : Prop := Claim7.holds Tryd.pinned (.plain (OpenSpec.upto integerPowersSpec)) integerPowersUptoCard

/-- THE SECOND FORM's CARD OF 'sparselaw01.IntegerRoot'. -/
def integerRootUptoCard : Claim7 := { stood := { row := integerRootUptoRow, standIns := [], harness := (true, "48dff8296009c83145efbb74a838c5fcdbd98afec0509602b7ac1f062bb6aa03"), looks := false }, kinds := [], alts := [], laidByText := true, laidKinds := [.data, .data, .data], laidTests := true, laidLooks := .later }
def IntegerRootUptoCardSaid : Prop := Claim7.holds Tryd.pinned (.plain (OpenSpec.upto integerRootSpec)) integerRootUptoCard

/-- THE SECOND FORM's CARD OF 'sparselaw01.IntegerOrder'. -/
def integerOrderUptoCard : Claim7 := { stood := { row := integerOrderUptoRow, standIns := [], harness := (true, "48dff8296009c83145efbb74a838c5fcdbd98afec0509602b7ac1f062bb6aa03"), looks := false }, kinds := [], alts := [], laidByText := true, laidKinds := [.data, .data, .data], laidTests := true, laidLooks := .later }
def IntegerOrderUptoCardSaid : Prop := Claim7.holds Tryd.pinned (.plain (OpenSpec.upto integerOrderSpec)) integerOrderUptoCard

/-- THE SECOND FORM's CARD OF 'sparselaw02.DyadSums'. -/
def dyadSumsUptoCard : Claim7 := { stood := { row := dyadSumsUptoRow, standIns := [], harness := (true, "48dff8296009c83145efbb74a838c5fcdbd98afec0509602b7ac1f062bb6aa03"), looks := false }, kinds := [], alts := [], laidByText := true, laidKinds := [.data], laidTests := true, laidLooks := .later }
def DyadSumsUptoCardSaid : Prop := Claim7.holds Tryd.pinned (.plain (OpenSpec.upto dyadSumsSpec)) dyadSumsUptoCard

/-- THE SECOND FORM's CARD OF 'sparselaw02.DyadRing'. -/
def dyadRingUptoCard : Claim7 := { stood := { row := dyadRingUptoRow, standIns := [], harness := (true, "48dff8296009c83145efbb74a838c5fcdbd98afec0509602b7ac1f062bb6aa03"), looks := false }, kinds := [], alts := [], laidByText := true, laidKinds := [.data], laidTests := true, laidLooks := .later }
def DyadRingUptoCardSaid : Prop := Claim7.holds Tryd.pinned (.plain (OpenSpec.upto dyadRingSpec)) dyadRingUptoCard

/-- THE SECOND FORM's CARD OF 'sparselaw02.DyadNearest'. -/
def dyadNearestUptoCard : Claim7 := { stood := { row := dyadNearestUptoRow, standIns := [], harness := (true, "48dff8296009c83145efbb74a838c5fcdbd98afec0509602b7ac1f062bb6aa03"), looks := false }, kinds := [], alts := [], laidByText := true, laidKinds := [.data], laidTests := true, laidLooks := .later }
def DyadNearestUptoCardSaid : Prop := Claim7.holds Tryd.pinned (.plain (OpenSpec.upto dyadNearestSpec)) dyadNearestUptoCard

/-- THE SECOND FORM's CARD OF 'sparselaw02.DyadQuotient'. -/
def dyadQuotientUptoCard : Claim7 := { stood := { row := dyadQuotientUptoRow, standIns := [], harness := (true, "48dff8296009c83145efbb74a838c5fcdbd98afec0509602b7ac1f062bb6aa03"), looks := false }, kinds := [], alts := [], laidByText := true, laidKinds := [.data], laidTests := true, laidLooks := .later }
def DyadQuotientUptoCardSaid : Prop := Claim7.holds Tryd.pinned (.plain (OpenSpec.upto dyadQuotientSpec)) dyadQuotientUptoCard

/-- THE SECOND FORM's CARD OF 'sparselaw02.DyadRoot'. -/
def dyadRootUptoCard : Claim7 := { stood := { row := dyadRootUptoRow, standIns := [], harness := (true, "48dff8296009c83145efbb74a838c5fcdbd98afec0509602b7ac1f062bb6aa03"), looks := false }, kinds := [], alts := [], laidByText := true, laidKinds := [.data], laidTests := true, laidLooks := .later }
def DyadRootUptoCardSaid : Prop := Claim7.holds Tryd.pinned (.plain (OpenSpec.upto dyadRootSpec)) dyadRootUptoCard

/-- THE SECOND FORM's CARD OF 'sparselaw02.DyadScales'. -/
def dyadScalesUptoCard : Claim7 := { stood := { row := dyadScalesUptoRow, standIns := [], harness := (true, "48dff8296009c83145efbb74a838c5fcdbd98afec0509602b7ac1f062bb6aa03"), looks := false }, kinds := [], alts := [], laidByText := true, laidKinds := [.data], laidTests := true, laidLooks := .later }
def DyadScalesUptoCardSaid : Prop := Claim7.holds Tryd.pinned (.plain (OpenSpec.upto dyadScalesSpec)) dyadScalesUptoCard

/-- THE SECOND FORM's CARD OF 'sparselaw02.DyadLimits'. -/
def dyadLimitsUptoCard : Claim7 := { stood := { row := dyadLimitsUptoRow, standIns := [], harness := (true, "48dff8296009c83145efbb74a838c5fcdbd98afec0509602b7ac1f062bb6aa03"), looks := false }, kinds := [], alts := [], laidByText := true, laidKinds := [.data], laidTests := true, laidLooks := .later }
def DyadLimitsUptoCardSaid : Prop := Claim7.holds Tryd.pinned (.plain (OpenSpec.upto dyadLimitsSpec)) dyadLimitsUptoCard
end Rows
end Go.Proofs.YtpmbmemfoljfpaaDoor
