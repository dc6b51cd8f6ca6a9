/- How a float that comes in reads. -/
import Derived.Test.YtilmighjcjgccaaGreatDoorCRawD
namespace Go.Proofs.YtilmighjcjgccaaGreatDoor
theorem Tryz.readFloat : Tryz.prog.readableRec 45 = true := by kernel_rfl
theorem Tryz.sizeFloat : 45 < Tryz.prog.types.size := of_decide_eq_true (by kernel_rfl)
theorem Tryz.readInt' : Tryz.prog.readableRec 3 = true := by kernel_rfl
end Go.Proofs.YtilmighjcjgccaaGreatDoor

/- How an interval that comes in reads. -/
namespace Go.Proofs.YtilmighjcjgccaaGreatDoor
open Go.ChangeShapes Go.WideShapes Go.ChangeAt Go.RowKit Go.Joins Go.Deep

theorem Tryz.cellsFloat : Tryz.prog.cellsOf 45 = 1 := by kernel_rfl
end Go.Proofs.YtilmighjcjgccaaGreatDoor
