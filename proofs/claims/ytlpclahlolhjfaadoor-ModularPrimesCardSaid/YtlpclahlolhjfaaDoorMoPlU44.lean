import Derived.Test.YtlpclahlolhjfaaDoorMoPlU5
import Derived.Laws.IdiomStrings
import Derived.Lib.ConvBytes
import Derived.Lib.AtoiErrMem
import Derived.Laws.Strings3
import Derived.Lib.ItoaWalk
import Derived.Lib.Strings
import Derived.Test.YtlpclahlolhjfaaDoorMoPlU10
import Derived.Test.YtlpclahlolhjfaaDoorMoPlU24
import Derived.Deep.QuietTactic
import Derived.Deep.CutRange
import Derived.Deep.RegionHeld3
import Derived.Deep.RegionWith
import Derived.Test.YtlpclahlolhjfaaDoorMoPlU16
import Derived.Deep.LoopGhost
namespace Go.Proofs.YtlpclahlolhjfaaDoor
open Go Go.RowKit
open Go.Lib (decDigits)

/-- the text of an integer -/
def texI (x : Int) : List UInt8 := (if x < 0 then [45] else []) ++ decDigits x.natAbs
end Go.Proofs.YtlpclahlolhjfaaDoor
