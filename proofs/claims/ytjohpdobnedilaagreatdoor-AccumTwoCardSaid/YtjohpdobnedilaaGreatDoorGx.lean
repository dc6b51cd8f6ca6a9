/- How a float that comes in reads. -/
import Derived.Test.YtjohpdobnedilaaGreatDoorCRawD
namespace Go.Proofs.YtjohpdobnedilaaGreatDoor
theorem Tryz.readFloat : Tryz.prog.readableRec 23 = true := by kernel_rfl
theorem Tryz.sizeFloat : 23 < Tryz.prog.types.size := of_decide_eq_true (by kernel_rfl)
theorem Tryz.readInt' : Tryz.prog.readableRec 3 = true := by kernel_rfl
end Go.Proofs.YtjohpdobnedilaaGreatDoor

/- How an interval that comes in reads. -/
namespace Go.Proofs.YtjohpdobnedilaaGreatDoor
open Go.ChangeShapes Go.WideShapes Go.ChangeAt Go.RowKit Go.Joins Go.Deep

theorem Tryz.cellsFloat : Tryz.prog.cellsOf 23 = 1 := by kernel_rfl
end Go.Proofs.YtjohpdobnedilaaGreatDoor
