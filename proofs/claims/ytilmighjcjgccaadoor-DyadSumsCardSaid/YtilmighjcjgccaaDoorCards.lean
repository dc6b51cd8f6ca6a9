/-
  DERIVED. GIVEN WITH THE SEED: THE CARDS: each row of YtilmighjcjgccaaDoorRows.lean that lists a variable, with what it lists TIED to the program's text (the seventh form; the later family's looks); each row that meets fmt, with fmt's text TOLD by the authors' own Lean function (tested against real Go, not proved from fmt's source: count such statements apart). THE CARD IS WHAT COUNTS. Prove the row's statement (the work); the ties are given (YtilmighjcjgccaaDoorTie.lean); close each card by the builder's one call (the guide's Derived/Test/ToyasCard.lean, 'card_holds'). Laid BY PROGRAM, IN A SANDBOX (cutbox-door.mjs). By AI agents, Wed Nov 11 2026. No macro, syntax, notation, axiom, sorry.
-/
import Derived.Test.YtilmighjcjgccaaDoorRows
import GoSem.ClaimSeven
namespace Go.Proofs.YtilmighjcjgccaaDoor
namespace Rows

/-- THE TIED CARD OF 'sparselaw02.DyadSums'. -/
def dyadSumsCard : Claim7 := { stood := { row := dyadSumsRow, standIns := [], harness := (true, "4e5536ed0a419d196b50d66584cc685aff3d2b0f173d90f4dbd51b49f91f709c"), looks := false }, kinds := [], alts := [], laidByText := true, laidKinds := [.data], laidTests := true, laidLooks := .later }
def DyadSumsCardSaid : Prop := Claim7.holds Tryd.pinned (.plain (OpenSpec.ofChange dyadSumsSpec)) dyadSumsCard

/-- THE TIED CARD OF 'sparselaw05.IntervalMeets'. -/
def intervalMeetsCard : Claim7 := { stood := { row := intervalMeetsRow, standIns := [], harness := (true, "4e5536ed0a419d196b50d66584cc685aff3d2b0f173d90f4dbd51b49f91f709c"), looks := false }, kinds := [], alts := [], laidByText := true, laidKinds := [.data], laidTests := true, laidLooks := .later }
def IntervalMeetsCardSaid : Prop := Claim7.holds Tryd.pinned (.plain (OpenSpec.ofChange intervalMeetsSpec)) intervalMeetsCard

/-- THE TIED CARD OF 'sparselaw05.IntervalMonotone'. -/
def intervalMonotoneCard : Claim7 := { stood := { row := intervalMonotoneRow, standIns := [], harness := (true, "4e5536ed0a419d196b50d66584cc685aff3d2b0f173d90f4dbd51b49f91f709c"), looks := false }, kinds := [], alts := [], laidByText := true, laidKinds := [.data], laidTests := true, laidLooks := .later }
def IntervalMonotoneCardSaid : Prop := Claim7.holds Tryd.pinned (.plain (OpenSpec.ofChange intervalMonotoneSpec)) intervalMonotoneCard

/-- THE SECOND FORM's CARD OF 'sparselaw02.DyadSums'. -/
def dyadSumsUptoCard : Claim7 := { stood := { row := dyadSumsUptoRow, standIns := [], harness := (true, "4e5536ed0a419d196b50d66584cc685aff3d2b0f173d90f4dbd51b49f91f709c"), looks := false }, kinds := [], alts := [], laidByText := true, laidKinds := [.data], laidTests := true, laidLooks := .later }
def DyadSumsUptoCardSaid : Prop := Claim7.holds Tryd.pinned (.plain (OpenSpec.upto dyadSumsSpec)) dyadSumsUptoCard

/-- THE SECOND FORM's CARD OF 'sparselaw05.IntervalMeets'. -/
def intervalMeetsUptoCard : Claim7 := { stood := { row := intervalMeetsUptoRow, standIns := [], harness := (true, "4e5536ed0a419d196b50d66584cc685aff3d2b0f173d90f4dbd51b49f91f709c"), looks := false }, kinds := [], alts := [], laidByText := true, laidKinds := [.data], laidTests := true, laidLooks := .later }
def IntervalMeetsUptoCardSaid : Prop := Claim7.holds Tryd.pinned (.plain (OpenSpec.upto intervalMeetsSpec)) intervalMeetsUptoCard

/-- THE SECOND FORM's CARD OF 'sparselaw05.IntervalMonotone'. -/
def intervalMonotoneUptoCard : Claim7 := { stood := { row := intervalMonotoneUptoRow, standIns := [], harness := (true, "4e5536ed0a419d196b50d66584cc685aff3d2b0f173d90f4dbd51b49f91f709c"), looks := false }, kinds := [], alts := [], laidByText := true, laidKinds := [.data], laidTests := true, laidLooks := .later }
def IntervalMonotoneUptoCardSaid : Prop := Claim7.holds Tryd.pinned (.plain (OpenSpec.upto intervalMonotoneSpec)) intervalMonotoneUptoCard
end Rows
end Go.Proofs.YtilmighjcjgccaaDoor
