/- How a float that comes in reads. -/
import Derived.Test.YthakjcdchaimpaaDoorCRawD
namespace Go.Proofs.YthakjcdchaimpaaDoor
theorem Tryd.readFloat : Tryd.prog.readableRec 39 = true := by kernel_rfl
theorem Tryd.sizeFloat : 39 < Tryd.prog.types.size := of_decide_eq_true (by kernel_rfl)
theorem Tryd.readInt' : Tryd.prog.readableRec 3 = true := by kernel_rfl
end Go.Proofs.YthakjcdchaimpaaDoor
