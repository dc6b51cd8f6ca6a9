/- What sparsekit.Big and Slim do. -/
import Derived.Test.YtkifefinbgceeaaDoorLimbs
import Derived.Test.YtkifefinbgceeaaDoorSigned
namespace Go.Proofs.YtkifefinbgceeaaDoor
open Go.RowKit

set_option maxRecDepth 100000 in
set_option maxHeartbeats 1000000 in
theorem big_same (nb mb : Bool) (ao : Option Addr) (n ca : Nat) (bo : Option Addr) (m cb : Nat) (zs : List Int) (w : World) (hm : nb = mb) (ha : Sl w ao n ca zs) (hb : Sl w bo m cb zs) :
    Calls Tryd.prog 16 #[.agg #[.bool nb, .slice ao n ca], .agg #[.bool mb, .slice bo m cb]] w fun e w' => e = .returned (.bool true) ∧ Below w.heap.size w w' := by
  subst hm
  obtain rfl : n = m := by rw [← ha.len, hb.len]
  go_enter Tryd.func16, Tryd.ntmps16
  go_wp2_with fail
  obtain ⟨W, hW, hB⟩ : ∃ W, W = (w.alloc (.cells #[.bool nb, .slice ao n ca] 24)).alloc (.cells #[.bool nb, .slice bo n cb] 24) ∧ Below w.heap.size w W :=
    ⟨_, rfl, ((Below.refl _ w).alloc (Nat.le_refl _) _).alloc (by simp) _⟩
  rw [← hW]
  clear hW
  refine (limbs_same _ _ _ _ _ zs W (ha.below hB) (hb.below hB)).mono ?_
  rintro e w1 ⟨rfl, q, rfl⟩
  have hB' := Lib.hid hB; clear hB
  go_wp2
  go_ret
  exact ⟨rfl, below_drewN hB'.out q⟩

theorem big_eq (nb mb : Bool) (ao : Option Addr) (n ca : Nat) (bo : Option Addr) (m cb : Nat) (x y : Int) (w : World) (ha : Bn w nb ao n ca x) (hb : Bn w mb bo m cb y) (hxy : x = y) :
    Calls Tryd.prog 16 #[.agg #[.bool nb, .slice ao n ca], .agg #[.bool mb, .slice bo m cb]] w fun e w' => e = .returned (.bool true) ∧ Below w.heap.size w w' := by
  subst hxy
  exact big_same nb mb ao n ca bo m cb _ w (by rw [ha.neg, hb.neg]) ha.sl hb.sl

set_option maxRecDepth 100000 in
set_option maxHeartbeats 1000000 in
theorem slim_any (nb : Bool) (ao : Option Addr) (n ca k : Nat) (w : World) :
    Calls Tryd.prog 11 #[.agg #[.bool nb, .slice ao n ca], .int .i64 k] w fun e w' => e = .returned (.bool (decide (n ≤ k))) ∧ Below w.heap.size w w' := by
  go_enter Tryd.func11, Tryd.ntmps11
  go_wp2
  go_ret
  exact ⟨by first | rfl | simp, (Below.refl _ w).alloc (Nat.le_refl _) _⟩
end Go.Proofs.YtkifefinbgceeaaDoor
