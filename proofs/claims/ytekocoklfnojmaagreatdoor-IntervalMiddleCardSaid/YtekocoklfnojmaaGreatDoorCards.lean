/-
  DERIVED. GIVEN WITH THE SEED: THE CARDS: each row of YtekocoklfnojmaaGreatDoorRows.lean that lists a variable, with what it lists TIED to the program's text (the seventh form; the later family's looks); each row that meets fmt, with fmt's text TOLD by the authors' own Lean function (tested against real Go, not proved from fmt's source: count such statements apart). THE CARD IS WHAT COUNTS. Prove the row's statement (the work); the ties are given (YtekocoklfnojmaaGreatDoorTie.lean); close each card by the builder's one call (the guide's Derived/Test/ToyasCard.lean, 'card_holds'). Laid BY PROGRAM, IN A SANDBOX (cutbox-door.mjs). By AI agents, Wed Nov 11 2026. No macro, syntax, notation, axiom, sorry.
-/
import Derived.Test.YtekocoklfnojmaaGreatDoorRows
import GoSem.ClaimSeven
namespace Go.Proofs.YtekocoklfnojmaaGreatDoor
namespace Rows

/-- THE TIED CARD OF 'sparselaw05.IntervalExact'. -/
def intervalExactCard : Claim7 := { stood := { row := intervalExactRow, standIns := [], harness := (true, "1f24d1755c7211d0f00edfc3bd2afa6828877bd7b9fb09c3a5e4f936773daf57"), looks := false }, kinds := [], alts := [], laidByText := true, laidKinds := [.data], laidTests := true, laidLooks := .later }
def IntervalExactCardSaid : Prop := Claim7.holds Tryz.pinned (.plain (OpenSpec.ofChange intervalExactSpec)) intervalExactCard

/-- THE TIED CARD OF 'sparselaw05.IntervalRelations'. -/
def intervalRelationsCard : Claim7 := { stood := { row := intervalRelationsRow, standIns := [], harness := (true, "1f24d1755c7211d0f00edfc3bd2afa6828877bd7b9fb09c3a5e4f936773daf57"), looks := false }, kinds := [], alts := [], laidByText := true, laidKinds := [.data, .data], laidTests := true, laidLooks := .later }
def IntervalRelationsCardSaid : Prop := Claim7.holds Tryz.pinned (.plain (OpenSpec.ofChange intervalRelationsSpec)) intervalRelationsCard

/-- THE TIED CARD OF 'sparselaw05.IntervalHolds'. -/
def intervalHoldsCard : Claim7 := { stood := { row := intervalHoldsRow, standIns := [], harness := (true, "1f24d1755c7211d0f00edfc3bd2afa6828877bd7b9fb09c3a5e4f936773daf57"), looks := false }, kinds := [], alts := [], laidByText := true, laidKinds := [.data, .data], laidTests := true, laidLooks := .later }
def IntervalHoldsCardSaid : Prop := Claim7.holds Tryz.pinned (.plain (OpenSpec.ofChange intervalHoldsSpec)) intervalHoldsCard

/-- THE TIED CARD OF 'sparselaw05.IntervalMiddle'. -/
def intervalMiddleCard : Claim7 := { stood := { row := intervalMiddleRow, standIns := [], harness := (true, "1f24d1755c7211d0f00edfc3bd2afa6828877bd7b9fb09c3a5e4f936773daf57"), looks := false }, kinds := [], alts := [], laidByText := true, laidKinds := [.data, .data], laidTests := true, laidLooks := .later }
def IntervalMiddleCardSaid : Prop := Claim7.holds Tryz.pinned (.plain (OpenSpec.ofChange intervalMiddleSpec)) intervalMiddleCard

/-- THE TIED CARD OF 'sparselaw06.AccumRoots'. -/
def accumRootsCard : Claim7 := { stood := { row := accumRootsRow, standIns := [], harness := (true, "1f24d1755c7211d0f00edfc3bd2afa6828877bd7b9fb09c3a5e4f936773daf57"), looks := false }, kinds := [], alts := [], laidByText := true, laidKinds := [.data, .data], laidTests := true, laidLooks := .later }
def AccumRootsCardSaid : Prop := Claim7.holds Tryz.pinned (.plain (OpenSpec.ofChange accumRootsSpec)) accumRootsCard

/-- THE SECOND FORM's CARD OF 'sparselaw05.IntervalExact'. -/
def intervalExactUptoCard : Claim7 := { stood := { row := intervalExactUptoRow, standIns := [], harness := (true, "1f24d1755c7211d0f00edfc3bd2afa6828877bd7b9fb09c3a5e4f936773daf57"), looks := false }, kinds := [], alts := [], laidByText := true, laidKinds := [.data], laidTests := true, laidLooks := .later }
def IntervalExactUptoCardSaid : Prop := Claim7.holds Tryz.pinned (.plain (OpenSpec.upto intervalExactSpec)) intervalExactUptoCard

/-- THE SECOND FORM's CARD OF 'sparselaw05.IntervalRelations'. -/
def intervalRelationsUptoCard : Claim7 := { stood := { row := intervalRelationsUptoRow, standIns := [], harness := (true, "1f24d1755c7211d0f00edfc3bd2afa6828877bd7b9fb09c3a5e4f936773daf57"), looks := false }, kinds := [], alts := [], laidByText := true, laidKinds := [.data, .data], laidTests := true, laidLooks := .later }
def IntervalRelationsUptoCardSaid : Prop := Claim7.holds Tryz.pinned (.plain (OpenSpec.upto intervalRelationsSpec)) intervalRelationsUptoCard

/-- THE SECOND FORM's CARD OF 'sparselaw05.IntervalHolds'. -/
def intervalHoldsUptoCard : Claim7 := { stood := { row := intervalHoldsUptoRow, standIns := [], harness := (true, "1f24d1755c7211d0f00edfc3bd2afa6828877bd7b9fb09c3a5e4f936773daf57"), looks := false }, kinds := [], alts := [], laidByText := true, laidKinds := [.data, .data], laidTests := true, laidLooks := .later }
def IntervalHoldsUptoCardSaid : Prop := Claim7.holds Tryz.pinned (.plain (OpenSpec.upto intervalHoldsSpec)) intervalHoldsUptoCard

/-- THE SECOND FORM's CARD OF 'sparselaw05.IntervalMiddle'. -/
def intervalMiddleUptoCard : Claim7 := { stood := { row := intervalMiddleUptoRow, standIns := [], harness := (true, "1f24d1755c7211d0f00edfc3bd2afa6828877bd7b9fb09c3a5e4f936773daf57"), looks := false }, kinds := [], alts := [], laidByText := true, laidKinds := [.data, .data], laidTests := true, laidLooks := .later }
def IntervalMiddleUptoCardSaid : Prop := Claim7.holds Tryz.pinned (.plain (OpenSpec.upto intervalMiddleSpec)) intervalMiddleUptoCard

/-- THE SECOND FORM's CARD OF 'sparselaw06.AccumRoots'. -/
def accumRootsUptoCard : Claim7 := { stood := { row := accumRootsUptoRow, standIns := [], harness := (true, "1f24d1755c7211d0f00edfc3bd2afa6828877bd7b9fb09c3a5e4f936773daf57"), looks := false }, kinds := [], alts := [], laidByText := true, laidKinds := [.data, .data], laidTests := true, laidLooks := .later }
def AccumRootsUptoCardSaid : Prop := Claim7.holds Tryz.pinned (.plain (OpenSpec.upto accumRootsSpec)) accumRootsUptoCard
end Rows
end Go.Proofs.YtekocoklfnojmaaGreatDoor
