/-
  DERIVED. GIVEN WITH THE SEED: THE CARDS: each row of YtfgmkeiiidckbaaDoorRows.lean that lists a variable, with what it lists TIED to the program's text (the seventh form; the later family's looks); each row that meets fmt, with fmt's text TOLD by the authors' own Lean function (tested against real Go, not proved from fmt's source: count such statements apart). THE CARD IS WHAT COUNTS. Prove the row's statement (the work); the ties are given (YtfgmkeiiidckbaaDoorTie.lean); close each card by the builder's one call (the guide's Derived/Test/ToyasCard.lean, 'card_holds'). Laid BY PROGRAM, IN A SANDBOX (cutbox-door.mjs). By AI agents, Wed Nov 11 2026. No macro, syntax, notation, axiom, sorry.
-/
import Derived.Test.YtfgmkeiiidckbaaDoorRows
import GoSem.ClaimSeven
namespace Go.Proofs.YtfgmkeiiidckbaaDoor
namespace Rows

/-- THE TIED CARD OF 'sparselaw05.IntervalMonotone'. -/
def intervalMonotoneCard : Claim7 := { stood := { row := intervalMonotoneRow, standIns := [], harness := (true, "f36dab6d625292263e3abc79cfdf6ec270ff65030561342497092a150ce5f153"), looks := false }, kinds := [], alts := [], laidByText := true, laidKinds := [.data], laidTests := true, laidLooks := .later }
def IntervalMonotoneCardSaid : Prop := Claim7.holds Tryd.pinned (.plain (OpenSpec.ofChange intervalMonotoneSpec)) intervalMonotoneCard

/-- THE TIED CARD OF 'sparselaw05.IntervalWhole'. -/
def intervalWholeCard : Claim7 := { stood := { row := intervalWholeRow, standIns := [], harness := (true, "f36dab6d625292263e3abc79cfdf6ec270ff65030561342497092a150ce5f153"), looks := false }, kinds := [], alts := [], laidByText := true, laidKinds := [.data], laidTests := true, laidLooks := .later }
def IntervalWholeCardSaid : Prop := Claim7.holds Tryd.pinned (.plain (OpenSpec.ofChange intervalWholeSpec)) intervalWholeCard

/-- THE SECOND FORM's CARD OF 'sparselaw05.IntervalMonotone'. -/
def intervalMonotoneUptoCard : Claim7 := { stood := { row := intervalMonotoneUptoRow, standIns := [], harness := (true, "f36dab6d625292263e3abc79cfdf6ec270ff65030561342497092a150ce5f153"), looks := false }, kinds := [], alts := [], laidByText := true, laidKinds := [.data], laidTests := true, laidLooks := .later }
def IntervalMonotoneUptoCardSaid : Prop := Claim7.holds Tryd.pinned (.plain (OpenSpec.upto intervalMonotoneSpec)) intervalMonotoneUptoCard

/-- THE SECOND FORM's CARD OF 'sparselaw05.IntervalWhole'. -/
def intervalWholeUptoCard : Claim7 := { stood := { row := intervalWholeUptoRow, standIns := [], harness := (true, "f36dab6d625292263e3abc79cfdf6ec270ff65030561342497092a150ce5f153"), looks := false }, kinds := [], alts := [], laidByText := true, laidKinds := [.data], laidTests := true, laidLooks := .later }
def IntervalWholeUptoCardSaid : Prop := Claim7.holds Tryd.pinned (.plain (OpenSpec.upto intervalWholeSpec)) intervalWholeUptoCard
end Rows
end Go.Proofs.YtfgmkeiiidckbaaDoor
