import Derived.Test.YtapcecjbmcoliaaGrPlU6
import Derived.Test.YtapcecjbmcoliaaGrPlU1
import Derived.Test.YtapcecjbmcoliaaProg
import Derived.IntWalk
import Derived.Laws.Shifts
import Derived.Test.YtapcecjbmcoliaaRows
import Derived.WalkKit
import Derived.WalkSpells
import Derived.WalkLawsBesides
import Derived.Shelf.Spec.TrailingZeros
import Derived.Test.YtapcecjbmcoliaaGrPlU4
import Derived.Maps.OwnOps
import Derived.Maps.OwnSet
import Derived.Maps.Views
namespace Go.Proofs.Ytapcecjbmcoliaa
open Go Go.RowKit Go.Maps

/-- is one of the first n numbers there -/
def inB (l : List Int) (z : Int) : Bool := l.any fun y => y == z
end Go.Proofs.Ytapcecjbmcoliaa
