/- What integer.Int does for an integer of at most 62 bits. -/
import Derived.Test.YtjohpdobnedilaaDoorGa
import Derived.Test.YtjohpdobnedilaaDoorGd
import Derived.Laws.Bits64
namespace Go.Proofs.YtjohpdobnedilaaDoor
open Go.RowKit

theorem or_comm64i (a b : Int) : bits BinOp.or IntKind.u64 a b = bits BinOp.or IntKind.u64 b a := by
  show IntKind.u64.wrap _ = IntKind.u64.wrap _
  rw [BitVec.or_comm]

end Go.Proofs.YtjohpdobnedilaaDoor
