/-
  DERIVED. GIVEN WITH THE SEED: THE CARDS: each row of YtjohpdobnedilaaDoorRows.lean that lists a variable, with what it lists TIED to the program's text (the seventh form; the later family's looks); each row that meets fmt, with fmt's text TOLD by the authors' own Lean function (tested against real Go, not proved from fmt's source: count such statements apart). THE CARD IS WHAT COUNTS. Prove the row's statement (the work); the ties are given (YtjohpdobnedilaaDoorTie.lean); close each card by the builder's one call (the guide's Derived/Test/ToyasCard.lean, 'card_holds'). Laid BY PROGRAM, IN A SANDBOX (cutbox-door.mjs). By AI agents, Wed Nov 11 2026. No macro, syntax, notation, axiom, sorry.
-/
import Derived.Test.YtjohpdobnedilaaDoorRows
import GoSem.ClaimSeven
namespace Go.Proofs.YtjohpdobnedilaaDoor
namespace Rows

/-- THE TIED CARD OF 'sparselaw05.IntervalMeets'. -/
def intervalMeetsCard : Claim7 := { stood := { row := intervalMeetsRow, standIns := [], harness := (true, "597f3a5886614a60df3ac01b395b9f9b8ed38b7ed26a8b22af4072656609021a"), looks := false }, kinds := [], alts := [], laidByText := true, laidKinds := [.data], laidTests := true, laidLooks := .later }
def IntervalMeetsCardSaid : Prop := Claim7.holds Tryd.pinned (.plain (OpenSpec.ofChange intervalMeetsSpec)) intervalMeetsCard

/-- THE TIED CARD OF 'sparselaw05.IntervalMonotone'. -/
def intervalMonotoneCard : Claim7 := { stood := { row := intervalMonotoneRow, standIns := [], harness := (true, "597f3a5886614a60df3ac01b395b9f9b8ed38b7ed26a8b22af4072656609021a"), looks := false }, kinds := [], alts := [], laidByText := true, laidKinds := [.data], laidTests := true, laidLooks := .later }
def IntervalMonotoneCardSaid : Prop := Claim7.holds Tryd.pinned (.plain (OpenSpec.ofChange intervalMonotoneSpec)) intervalMonotoneCard

/-- THE SECOND FORM's CARD OF 'sparselaw05.IntervalMeets'. -/
def intervalMeetsUptoCard : Claim7 := { stood := { row := intervalMeetsUptoRow, standIns := [], harness := (true, "597f3a5886614a60df3ac01b395b9f9b8ed38b7ed26a8b22af4072656609021a"), looks := false }, kinds := [], alts := [], laidByText := true, laidKinds := [.data], laidTests := true, laidLooks := .later }
def IntervalMeetsUptoCardSaid : Prop := Claim7.holds Tryd.pinned (.plain (OpenSpec.upto intervalMeetsSpec)) intervalMeetsUptoCard

/-- THE SECOND FORM's CARD OF 'sparselaw05.IntervalMonotone'. -/
def intervalMonotoneUptoCard : Claim7 := { stood := { row := intervalMonotoneUptoRow, standIns := [], harness := (true, "597f3a5886614a60df3ac01b395b9f9b8ed38b7ed26a8b22af4072656609021a"), looks := false }, kinds := [], alts := [], laidByText := true, laidKinds := [.data], laidTests := true, laidLooks := .later }
def IntervalMonotoneUptoCardSaid : Prop := Claim7.holds Tryd.pinned (.plain (OpenSpec.upto intervalMonotoneSpec)) intervalMonotoneUptoCard
end Rows
end Go.Proofs.YtjohpdobnedilaaDoor
