/- Plain facts on the sign of a comparison. No program stands here. -/
import Derived.Test.YtkifefinbgceeaaDoorBase
namespace Go.Proofs.YtkifefinbgceeaaDoor

theorem sgn3_zero {x : Int} (h : sgn3 x 0 = 0) : x = 0 := by unfold sgn3 at h; split at h <;> (try split at h) <;> omega
theorem sgn3_nonneg {x : Int} (h : 0 ≤ x) : 0 ≤ sgn3 x 0 := by unfold sgn3; split <;> (try split) <;> omega
theorem sgn3_less {x y : Int} (h : x < y) : sgn3 x y = -1 := by unfold sgn3; rw [if_pos h]
end Go.Proofs.YtkifefinbgceeaaDoor
