/- DyadNearest's first pair of roundings. -/
import Derived.Test.YthakjcdchaimpaaDoorCDPair
import Derived.Test.YthakjcdchaimpaaDoorCDRing
namespace Go.Proofs.YthakjcdchaimpaaDoor
open Go.RowKit
/-- the region with a number -/
def regionOf (n : Nat) : Code → Option Code
  | .region id ops d => if id = n then some (.region id ops d) else none
  | .seq a b => match regionOf n a with
    | some c => some c
    | none => regionOf n b
  | .cond _ a b => match regionOf n a with
    | some c => some c
    | none => regionOf n b
  | .block _ c => regionOf n c
  | .loop c => regionOf n c
  | .scope c => regionOf n c
  | _ => none
end Go.Proofs.YthakjcdchaimpaaDoor
