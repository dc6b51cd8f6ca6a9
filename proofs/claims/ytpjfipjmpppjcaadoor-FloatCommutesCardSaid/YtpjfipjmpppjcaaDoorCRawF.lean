/- How a float that comes in reads. -/
import Derived.Test.YtpjfipjmpppjcaaDoorCRawD
namespace Go.Proofs.YtpjfipjmpppjcaaDoor
theorem Tryd.readFloat : Tryd.prog.readableRec 37 = true := by kernel_rfl
theorem Tryd.sizeFloat : 37 < Tryd.prog.types.size := of_decide_eq_true (by kernel_rfl)
theorem Tryd.readInt' : Tryd.prog.readableRec 3 = true := by kernel_rfl
end Go.Proofs.YtpjfipjmpppjcaaDoor
