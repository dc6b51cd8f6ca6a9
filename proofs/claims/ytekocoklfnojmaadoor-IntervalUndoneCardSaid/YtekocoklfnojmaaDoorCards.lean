/-
  DERIVED. GIVEN WITH THE SEED: THE CARDS: each row of YtekocoklfnojmaaDoorRows.lean that lists a variable, with what it lists TIED to the program's text (the seventh form; the later family's looks); each row that meets fmt, with fmt's text TOLD by the authors' own Lean function (tested against real Go, not proved from fmt's source: count such statements apart). THE CARD IS WHAT COUNTS. Prove the row's statement (the work); the ties are given (YtekocoklfnojmaaDoorTie.lean); close each card by the builder's one call (the guide's Derived/Test/ToyasCard.lean, 'card_holds'). Laid BY PROGRAM, IN A SANDBOX (cutbox-door.mjs). By AI agents, Wed Nov 11 2026. No macro, syntax, notation, axiom, sorry.
-/
import Derived.Test.YtekocoklfnojmaaDoorRows
import GoSem.ClaimSeven
namespace Go.Proofs.YtekocoklfnojmaaDoor
namespace Rows

/-- THE TIED CARD OF 'sparselaw05.IntervalUndone'. -/
def intervalUndoneCard : Claim7 := { stood := { row := intervalUndoneRow, standIns := [], harness := (true, "8f4a01ea784e6497c0bb42470dbc28c2d190718be789f53443e781f780217ea7"), looks := false }, kinds := [], alts := [], laidByText := true, laidKinds := [.data], laidTests := true, laidLooks := .later }
def IntervalUndoneCardSaid : Prop := Claim7.holds Tryd.pinned (.plain (OpenSpec.ofChange intervalUndoneSpec)) intervalUndoneCard

/-- THE SECOND FORM's CARD OF 'sparselaw05.IntervalUndone'. -/
def intervalUndoneUptoCard : Claim7 := { stood := { row := intervalUndoneUptoRow, standIns := [], harness := (true, "8f4a01ea784e6497c0bb42470dbc28c2d190718be789f53443e781f780217ea7"), looks := false }, kinds := [], alts := [], laidByText := true, laidKinds := [.data], laidTests := true, laidLooks := .later }
def IntervalUndoneUptoCardSaid : Prop := Claim7.holds Tryd.pinned (.plain (OpenSpec.upto intervalUndoneSpec)) intervalUndoneUptoCard
end Rows
end Go.Proofs.YtekocoklfnojmaaDoor
