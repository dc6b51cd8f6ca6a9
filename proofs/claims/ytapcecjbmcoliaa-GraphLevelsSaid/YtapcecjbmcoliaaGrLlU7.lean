import Derived.Test.YtapcecjbmcoliaaRows
import Derived.Test.YtapcecjbmcoliaaGrLlU1
import Derived.WalkKit
import Derived.WalkSpells
import Derived.WalkLawsBesides
import Derived.Shelf.Spec.TrailingZeros
namespace Go.Proofs.Ytapcecjbmcoliaa

/-- a to the power of n modulo p -/
def powm (a n p : Nat) : Nat := a ^ n % p
end Go.Proofs.Ytapcecjbmcoliaa
