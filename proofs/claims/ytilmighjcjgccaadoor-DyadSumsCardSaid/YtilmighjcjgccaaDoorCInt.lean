/- What integer.Int does for an integer of at most 62 bits. -/
import Derived.Test.YtilmighjcjgccaaDoorGa
import Derived.Test.YtilmighjcjgccaaDoorGd
import Derived.Laws.Bits64
namespace Go.Proofs.YtilmighjcjgccaaDoor
open Go.RowKit

theorem or_comm64i (a b : Int) : bits BinOp.or IntKind.u64 a b = bits BinOp.or IntKind.u64 b a := by
  show IntKind.u64.wrap _ = IntKind.u64.wrap _
  rw [BitVec.or_comm]

end Go.Proofs.YtilmighjcjgccaaDoor
