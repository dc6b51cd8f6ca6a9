import Derived.Test.YtapcecjbmcoliaaRows
import Derived.Test.YtapcecjbmcoliaaGrLlU1
import Derived.WalkKit
import Derived.WalkSpells
import Derived.WalkLawsBesides
import Derived.OwnWalk
import Derived.Deep.QuietTactic
import Derived.BigQuiet
import Derived.Deep.RegionHeld3
import Derived.Test.YtapcecjbmcoliaaGrLlU2
import Derived.Laws.Bits64
import Derived.Laws.Bits64b
import Derived.Test.YtapcecjbmcoliaaGrLlU3
import Derived.Laws.ShiftsVar
import Derived.Laws.ShiftsVarLaws
import Derived.BigRegion
import Derived.RegionTactic
import Derived.ChangeAlike
import Derived.Shelf.Small.Bits
import Derived.Test.YtapcecjbmcoliaaProg
import Derived.Laws.AppendOwn
namespace Go.Proofs.Ytapcecjbmcoliaa
open Go.RowKit

theorem Bg.drew {w : World} {nb : Bool} {ao : Option Addr} {n cap : Nat} {x : Int} (h : Bg w nb ao n cap x) : Bg w.drew nb ao n cap x := h.below (Below.refl _ _).drew

end Go.Proofs.Ytapcecjbmcoliaa

namespace Go.Proofs.Ytapcecjbmcoliaa
open Go.RowKit

section
variable {W w : World} {L : List Ent} {u v : Value} {x y : Int} {N M : Nat} {c d : Bool}

end

theorem St.alloc {W w : World} {L : List Ent} (h : St W w L) (o : Obj) : St W (w.alloc o) L := h.step ((Below.refl _ w).alloc (Nat.le_refl _) o)

end Go.Proofs.Ytapcecjbmcoliaa
