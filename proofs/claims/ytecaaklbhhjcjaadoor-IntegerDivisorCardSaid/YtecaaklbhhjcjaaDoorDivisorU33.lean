import Derived.Test.YtecaaklbhhjcjaaDoorDivisorU31
import Derived.Test.YtecaaklbhhjcjaaDoorDivisorU1
import Derived.Deep.RegionHeld3
import Derived.Deep.CutRange
import Derived.Deep.CutBlock
import Derived.Test.YtecaaklbhhjcjaaDoorProg
namespace Go.Proofs.YtecaaklbhhjcjaaDoor
open Go.RowKit

/-- block g holds cofactors -/
def Cof (W : World) (g : Nat) (a b c d : Int) : Prop := W.heap[g]? = some (.cells #[.int .i64 a, .int .i64 b, .int .i64 c, .int .i64 d] 70 (0, 0))
section
variable {W w w' : World} {g : Nat} {a b c d : Int}
theorem Cof.c0 (h : Cof W g a b c d) : W.cell? ⟨g, 0, none⟩ = some (.int .i64 a) := by rw [cell_of_row W g 0 _ _ _ h]; rfl
theorem Cof.c1 (h : Cof W g a b c d) : W.cell? ⟨g, 1, none⟩ = some (.int .i64 b) := by rw [cell_of_row W g 1 _ _ _ h]; rfl
theorem Cof.c2 (h : Cof W g a b c d) : W.cell? ⟨g, 2, none⟩ = some (.int .i64 c) := by rw [cell_of_row W g 2 _ _ _ h]; rfl
theorem Cof.c3 (h : Cof W g a b c d) : W.cell? ⟨g, 3, none⟩ = some (.int .i64 d) := by rw [cell_of_row W g 3 _ _ _ h]; rfl
theorem Cof.f (h : Cof W g a b c d) (o : Nat) : W.frozen? ⟨g, o, none⟩ = false := by
  unfold Cof at h; simp [World.frozen?, h]
theorem Cof.lt (h : Cof w g a b c d) : g < w.heap.size := lt_of_cell h.c0
theorem Cof.kept {B : Nat} (h : Cof w g a b c d) (hb : Below B w w') (hg : g < B) : Cof w' g a b c d := by
  unfold Cof; rw [hb.block g hg]; exact h
theorem Cof.below (h : Cof w g a b c d) (hb : Below w.heap.size w w') : Cof w' g a b c d := h.kept hb h.lt
theorem Cof.only {k : Nat} (h : Cof w g a b c d) (ho : Only k w w') (hne : g ≠ k) : Cof w' g a b c d := by
  unfold Cof; rw [ho.block g hne]; exact h
end
theorem Cof.new (w : World) (a b c d : Int) : Cof (w.alloc (.cells #[.int .i64 a, .int .i64 b, .int .i64 c, .int .i64 d] 70)) w.heap.size a b c d := heap_alloc_new w _
theorem Cof.stored {w : World} {g : Nat} {a b c d : Int} (h : Cof w g a b c d) (a' b' c' d' : Int) :
    Cof ((((w.setCell ⟨g, 0, none⟩ (.int .i64 a')).setCell ⟨g, 1, none⟩ (.int .i64 b')).setCell ⟨g, 2, none⟩ (.int .i64 c')).setCell ⟨g, 3, none⟩ (.int .i64 d')) g a' b' c' d' := by
  unfold Cof at h ⊢
  simp [World.setCell, Array.getElem?_modify, h]
theorem only_cset4 (w : World) (g : Nat) (u v x y : Value) : Only g w ((((w.setCell ⟨g, 0, none⟩ u).setCell ⟨g, 1, none⟩ v).setCell ⟨g, 2, none⟩ x).setCell ⟨g, 3, none⟩ y) := ((((Only.refl g w).setCell _ _).setCell _ _).setCell _ _).setCell _ _
theorem cof_new (w : World) (a b c d : Int) :
    ∃ W, W = w.alloc (.cells #[.int .i64 a, .int .i64 b, .int .i64 c, .int .i64 d] 70) ∧ Below w.heap.size w W ∧ Cof W w.heap.size a b c d ∧ w.heap.size + 1 ≤ W.heap.size :=
  ⟨_, rfl, (Below.refl _ w).alloc (Nat.le_refl _) _, Cof.new w a b c d, by simp⟩
end Go.Proofs.YtecaaklbhhjcjaaDoor
