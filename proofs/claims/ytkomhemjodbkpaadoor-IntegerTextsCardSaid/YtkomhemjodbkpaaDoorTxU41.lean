import Derived.Test.YtkomhemjodbkpaaDoorTxU28
import Derived.Test.YtkomhemjodbkpaaDoorTxU29
import Derived.Test.YtkomhemjodbkpaaDoorTxU4
import Derived.Shelf.Spec.TrailingZeros
import Derived.Test.YtkomhemjodbkpaaDoorTxU38
import Derived.Test.YtkomhemjodbkpaaDoorTxU27
import Derived.Test.YtkomhemjodbkpaaDoorTxU25
import Derived.Test.YtkomhemjodbkpaaDoorTxU0
namespace Go.Proofs.YtkomhemjodbkpaaDoor
open Go.RowKit

theorem limbs_len_toNat {zs : List Int} (h : Wf zs) : (limbs (num zs).toNat).length ≤ zs.length := by
  rw [tlen_eq h]; exact tlen_le _ _

end Go.Proofs.YtkomhemjodbkpaaDoor
