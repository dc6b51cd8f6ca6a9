/- How a float that comes in reads. -/
import Derived.Test.YtijbdfcenbekmaaGreatDoorCRawD
namespace Go.Proofs.YtijbdfcenbekmaaGreatDoor
theorem Tryz.readFloat : Tryz.prog.readableRec 32 = true := by kernel_rfl
theorem Tryz.sizeFloat : 32 < Tryz.prog.types.size := of_decide_eq_true (by kernel_rfl)
theorem Tryz.readInt' : Tryz.prog.readableRec 3 = true := by kernel_rfl
end Go.Proofs.YtijbdfcenbekmaaGreatDoor
