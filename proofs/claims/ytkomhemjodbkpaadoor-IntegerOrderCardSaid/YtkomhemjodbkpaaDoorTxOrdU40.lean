import Derived.Test.YtkomhemjodbkpaaDoorTxOrdU8
import Derived.Laws.IdiomStrings
import Derived.Test.YtkomhemjodbkpaaDoorTxOrdU39
import Derived.Test.YtkomhemjodbkpaaDoorTxOrdU26
import Derived.Test.YtkomhemjodbkpaaDoorTxOrdU17
import Derived.Deep.LoopGhost
import Derived.Test.YtkomhemjodbkpaaDoorTxOrdU23
import Derived.Test.YtkomhemjodbkpaaDoorTxOrdU24
import Derived.Test.YtkomhemjodbkpaaDoorTxOrdU4
import Derived.Shelf.Spec.TrailingZeros
import Derived.Test.YtkomhemjodbkpaaDoorTxOrdU18
import Derived.Test.YtkomhemjodbkpaaDoorTxOrdU0
namespace Go.Proofs.YtkomhemjodbkpaaDoor
open Go Go.RowKit
open Go.Lib (decDigits)

/-- the text of an integer -/
def texI (x : Int) : List UInt8 := (if x < 0 then [45] else []) ++ decDigits x.natAbs
end Go.Proofs.YtkomhemjodbkpaaDoor

namespace Go.Proofs.YtkomhemjodbkpaaDoor
open Go.RowKit

theorem limbs_len_toNat {zs : List Int} (h : Wf zs) : (limbs (num zs).toNat).length ≤ zs.length := by
  rw [tlen_eq h]; exact tlen_le _ _

end Go.Proofs.YtkomhemjodbkpaaDoor
