/- IntegerRing returns true, from what its callees do. -/
import Derived.Test.YtjohpdobnedilaaGreatDoorGc
import Derived.Deep.RegionHeld3
namespace Go.Proofs.YtjohpdobnedilaaGreatDoor
open Go.RowKit

/-- what the check of fixed numbers gives -/
def AwakeSays (W : World) : Prop := ∀ w, Ext W w → Calls Tryz.prog 45 #[] w fun e w' => e = .returned (.bool true) ∧ Ext w w'

theorem boxes_in (w : World) (nb : Bool) (ao : Option Addr) (n ca : Nat) (mb : Bool) (bo : Option Addr) (m cb : Nat) (lb : Bool) (co : Option Addr) (l cc : Nat) :
    ∃ W, W = ((w.alloc (.cells #[.bool nb, .slice ao n ca] 37)).alloc (.cells #[.bool mb, .slice bo m cb] 37)).alloc (.cells #[.bool lb, .slice co l cc] 37) ∧ Ext w W ∧
      Box W w.heap.size nb ao n ca ∧ Box W (w.heap.size + 1) mb bo m cb ∧ Box W (w.heap.size + 1 + 1) lb co l cc := by
  refine ⟨_, rfl, (((Below.refl _ w).alloc (Nat.le_refl _) _).alloc (by simp) _).alloc (by simp; omega) _, ?_, ?_, ?_⟩
  · exact (Box.new w nb ao n ca).below (((Below.refl _ _).alloc (Nat.le_refl _) _).alloc (by simp) _)
  · have := (Box.new (w.alloc (.cells #[.bool nb, .slice ao n ca] 37)) mb bo m cb).below ((Below.refl _ _).alloc (Nat.le_refl _) (.cells #[.bool lb, .slice co l cc] 37))
    simpa using this
  · have := Box.new ((w.alloc (.cells #[.bool nb, .slice ao n ca] 37)).alloc (.cells #[.bool mb, .slice bo m cb] 37)) lb co l cc
    simpa using this

end Go.Proofs.YtjohpdobnedilaaGreatDoor
