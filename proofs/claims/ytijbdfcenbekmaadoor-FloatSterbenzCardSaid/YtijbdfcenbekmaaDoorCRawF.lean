/- How a float that comes in reads. -/
import Derived.Test.YtijbdfcenbekmaaDoorCRawD
namespace Go.Proofs.YtijbdfcenbekmaaDoor
theorem Tryd.readFloat : Tryd.prog.readableRec 38 = true := by kernel_rfl
theorem Tryd.sizeFloat : 38 < Tryd.prog.types.size := of_decide_eq_true (by kernel_rfl)
theorem Tryd.readInt' : Tryd.prog.readableRec 3 = true := by kernel_rfl
end Go.Proofs.YtijbdfcenbekmaaDoor
