/-
  DERIVED. GIVEN WITH THE SEED: THE CARDS: each row of YtolghagbpnjpgaaDoorRows.lean that lists a variable, with what it lists TIED to the program's text (the seventh form; the later family's looks); each row that meets fmt, with fmt's text TOLD by the authors' own Lean function (tested against real Go, not proved from fmt's source: count such statements apart). THE CARD IS WHAT COUNTS. Prove the row's statement (the work); the ties are given (YtolghagbpnjpgaaDoorTie.lean); close each card by the builder's one call (the guide's Derived/Test/ToyasCard.lean, 'card_holds'). Laid BY PROGRAM, IN A SANDBOX (cutbox-door.mjs). By AI agents, Wed Nov 11 2026. No macro, syntax, notation, axiom, sorry.
-/
import Derived.Test.YtolghagbpnjpgaaDoorRows
import GoSem.ClaimSeven
namespace Go.Proofs.YtolghagbpnjpgaaDoor
namespace Rows

/-- THE TIED CARD OF 'sparselaw05.IntervalMonotone'. -/
def intervalMonotoneCard : Claim7 := { stood := { row := intervalMonotoneRow, standIns := [], harness := (true, "aa947eadd81c04a06ffd483662eb9fff863464205c4b8c08cb5809cb1f4ee10d"), looks := false }, kinds := [], alts := [], laidByText := true, laidKinds := [.data], laidTests := true, laidLooks := .later }
def IntervalMonotoneCardSaid : Prop := Claim7.holds Tryd.pinned (.plain (OpenSpec.ofChange intervalMonotoneSpec)) intervalMonotoneCard

/-- THE TIED CARD OF 'sparselaw05.IntervalUndone'. -/
def intervalUndoneCard : Claim7 := { stood := { row := intervalUndoneRow, standIns := [], harness := (true, "aa947eadd81c04a06ffd483662eb9fff863464205c4b8c08cb5809cb1f4ee10d"), looks := false }, kinds := [], alts := [], laidByText := true, laidKinds := [.data], laidTests := true, laidLooks := .later }
def IntervalUndoneCardSaid : Prop := Claim7.holds Tryd.pinned (.plain (OpenSpec.ofChange intervalUndoneSpec)) intervalUndoneCard

/-- THE SECOND FORM's CARD OF 'sparselaw05.IntervalMonotone'. -/
def intervalMonotoneUptoCard : Claim7 := { stood := { row := intervalMonotoneUptoRow, standIns := [], harness := (true, "aa947eadd81c04a06ffd483662eb9fff863464205c4b8c08cb5809cb1f4ee10d"), looks := false }, kinds := [], alts := [], laidByText := true, laidKinds := [.data], laidTests := true, laidLooks := .later }
def IntervalMonotoneUptoCardSaid : Prop := Claim7.holds Tryd.pinned (.plain (OpenSpec.upto intervalMonotoneSpec)) intervalMonotoneUptoCard

/-- THE SECOND FORM's CARD OF 'sparselaw05.IntervalUndone'. -/
def intervalUndoneUptoCard : Claim7 := { stood := { row := intervalUndoneUptoRow, standIns := [], harness := (true, "aa947eadd81c04a06ffd483662eb9fff863464205c4b8c08cb5809cb1f4ee10d"), looks := false }, kinds := [], alts := [], laidByText := true, laidKinds := [.data], laidTests := true, laidLooks := .later }
def IntervalUndoneUptoCardSaid : Prop := Claim7.holds Tryd.pinned (.plain (OpenSpec.upto intervalUndoneSpec)) intervalUndoneUptoCard
end Rows
end Go.Proofs.YtolghagbpnjpgaaDoor
