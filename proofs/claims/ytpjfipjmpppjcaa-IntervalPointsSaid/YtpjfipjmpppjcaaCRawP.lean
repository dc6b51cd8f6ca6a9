/- How a float that comes in reads, in a seat without a card. -/
import Derived.Test.YtpjfipjmpppjcaaRows
import Derived.Test.YtpjfipjmpppjcaaGa
import Derived.WalkKit
import Derived.ProofKit
import Derived.OpenShut
import Derived.Deep.DeepHandedRow
import Derived.Lib.SmallJoins
import Derived.LaidMore
namespace Go.Proofs.Ytpjfipjmpppjcaa
open Go.ChangeShapes Go.WideShapes Go.ChangeAt Go.RowKit Go.Joins
theorem Try.own : ownKnob Try.prog.godebug = none := by kernel_rfl
theorem Try.laidOut : laidOutB Try.prog = true := by kernel_rfl
theorem Try.readFloat : Try.prog.readableRec 23 = true := by kernel_rfl
theorem Try.sizeFloat : 23 < Try.prog.types.size := of_decide_eq_true (by kernel_rfl)
end Go.Proofs.Ytpjfipjmpppjcaa
