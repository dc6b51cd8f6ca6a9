/- What integer.signed does: it makes the integer with a magnitude; zero is never negative. -/
import Derived.Test.YtkifefinbgceeaaDoorClone
namespace Go.Proofs.YtkifefinbgceeaaDoor
open Go.RowKit

set_option maxRecDepth 100000 in
set_option maxHeartbeats 400000 in
theorem signed_zero (nb : Bool) (ao : Option Addr) (cap : Nat) (w : World) :
    Calls Tryd.prog 50 #[.bool nb, .slice ao 0 cap] w fun e w' => e = .returned (.agg #[.bool false, .slice none 0 0]) ∧ Below w.heap.size w w' := by
  go_enter Tryd.func50, Tryd.ntmps50
  go_wp2
  exact bodyPost_ret (v := .agg #[.bool false, .slice none 0 0]) (by simp [results, Tryd.results50, go_sem]) rfl ⟨rfl, ((Below.refl _ _).alloc (Nat.le_refl _) _)⟩
set_option maxRecDepth 100000 in
set_option maxHeartbeats 400000 in
theorem signed_pos (nb : Bool) (ao : Option Addr) (n cap : Nat) (w : World) (h : 0 < n) :
    Calls Tryd.prog 50 #[.bool nb, .slice ao n cap] w fun e w' => e = .returned (.agg #[.bool nb, .slice ao n cap]) ∧ Below w.heap.size w w' := by
  have hn : ((n : Int) == 0) = false := beq_eq_false_iff_ne.2 (by omega)
  go_enter Tryd.func50, Tryd.ntmps50
  go_wp2
  exact bodyPost_ret (v := .agg #[.bool nb, .slice ao n cap]) (by simp [results, Tryd.results50, go_sem]) rfl ⟨rfl, ((Below.refl _ _).alloc (Nat.le_refl _) _)⟩

/-- whatever the limbs: they stay, and zero is not negative -/
theorem signed_any (nb : Bool) (ao : Option Addr) (n cap : Nat) (zs : List Int) (w : World) (h : Sl w ao n cap zs) :
    Calls Tryd.prog 50 #[.bool nb, .slice ao n cap] w fun e w' => ∃ ao' cap', e = .returned (.agg #[.bool (nb && decide (0 < n)), .slice ao' n cap']) ∧ Sl w' ao' n cap' zs ∧ Below w.heap.size w w' := by
  by_cases h0 : 0 < n
  · refine (signed_pos nb ao n cap w h0).mono fun e w' ⟨he, hw⟩ => ⟨ao, cap, ?_, h.below hw, hw⟩
    rw [he]; simp [h0]
  · obtain rfl : n = 0 := by omega
    have hz : zs = [] := List.eq_nil_of_length_eq_zero h.len
    subst hz
    exact (signed_zero nb ao cap w).mono fun e w' ⟨he, hw⟩ => ⟨none, 0, by rw [he]; simp, Sl.nil w', hw⟩
end Go.Proofs.YtkifefinbgceeaaDoor
