/- How a float that comes in reads. -/
import Derived.Test.YtimehdepiigkgacDoorCRawD
namespace Go.Proofs.YtimehdepiigkgacDoor
theorem Tryd.readFloat : Tryd.prog.readableRec 23 = true := by kernel_rfl
theorem Tryd.sizeFloat : 23 < Tryd.prog.types.size := of_decide_eq_true (by kernel_rfl)
theorem Tryd.readInt' : Tryd.prog.readableRec 3 = true := by kernel_rfl
end Go.Proofs.YtimehdepiigkgacDoor
