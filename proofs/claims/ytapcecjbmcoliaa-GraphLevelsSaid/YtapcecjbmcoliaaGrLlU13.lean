import Derived.Test.YtapcecjbmcoliaaGrLlU0
import Derived.Shelf.Small.Bits
import Derived.Test.YtapcecjbmcoliaaProg
import Derived.Test.YtapcecjbmcoliaaGrLlU3
import Derived.Test.YtapcecjbmcoliaaRows
import Derived.Test.YtapcecjbmcoliaaGrLlU1
import Derived.WalkKit
import Derived.WalkSpells
import Derived.WalkLawsBesides
import Derived.Laws.Bits64
import Derived.Laws.Bits64b
import Derived.Deep.QuietTactic
import Derived.BigQuiet
import Derived.OwnWalk
import Derived.Laws.ShiftsVar
import Derived.Laws.ShiftsVarLaws
import Derived.BigRegion
import Derived.RegionTactic
import Derived.ChangeAlike
import Derived.Deep.RegionHeld3
import Derived.Shelf.Spec.TrailingZeros
import Derived.Test.YtapcecjbmcoliaaGrLlU4
import Derived.Laws.AppendOwn
import Derived.WalkSmall
import Derived.Lib.Hide
import Derived.Deep.CutRange
import Derived.Test.YtapcecjbmcoliaaGrLlU7
import Derived.IntWalk
import Derived.Laws.Shifts
import Derived.Test.YtapcecjbmcoliaaGrLlU12
import Derived.Test.YtapcecjbmcoliaaGrLlU2
import Derived.Deep.RegionWith
import Derived.Deep.CutBlock
import Derived.LoopTactic
namespace Go.Proofs.Ytapcecjbmcoliaa

/-- a dyad: none if it is not representable, otherwise the odd integer and the exponent (or two zeros) -/
abbrev Dy := Option (Int × Int)

/-- the integer in units of 2^-65536; not for none -/
def sc : Dy → Int
  | none => 0
  | some (m, e) => m * 2 ^ (e + 65536).toNat

end Go.Proofs.Ytapcecjbmcoliaa

namespace Go.Proofs.Ytapcecjbmcoliaa
open Go.RowKit

theorem Bg.ext {w w' : World} {nb : Bool} {ao : Option Addr} {n ca : Nat} {x : Int} (h : Bg w nb ao n ca x) (he : Ext w w') : Bg w' nb ao n ca x := h.below he

end Go.Proofs.Ytapcecjbmcoliaa

namespace Go.Proofs.Ytapcecjbmcoliaa
open Go Go.RowKit

def invZ (a p : Int) : Int := ((powm a.toNat (p - 2).toNat p.toNat : Nat) : Int)
end Go.Proofs.Ytapcecjbmcoliaa

namespace Go.Proofs.Ytapcecjbmcoliaa
open Go Go.RowKit

def scaleRow (p inv : Int) (l : List Int) : List Int := (List.range l.length).map fun x => l.getD x 0 * inv % p
def scaleM (p : Int) (np col : Nat) (M : List (List Int)) : List (List Int) := M.set np (scaleRow p (invZ ((M.getD np []).getD col 0) p) (M.getD np []))
end Go.Proofs.Ytapcecjbmcoliaa
