/- What dyad.Round does. -/
import Derived.Test.YthakjcdchaimpaaDoorGm
namespace Go.Proofs.YthakjcdchaimpaaDoor
open Go.RowKit

/-- a dyad rounded -/
def dround (d : Dy) (p mode : Int) : Dy := match d with
  | some (m, e) => if 1 ≤ p ∧ p ≤ 4096 then drd m e p.toNat mode else none
  | none => none

end Go.Proofs.YthakjcdchaimpaaDoor
