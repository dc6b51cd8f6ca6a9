/- A number of package float in a block of its own. -/
import Derived.Test.YtfgmkeiiidckbaaDoorGa
import Derived.Test.YtfgmkeiiidckbaaDoorCW64
import Derived.Deep.RegionHeld3
import Derived.Deep.CutRange
import Derived.Deep.CutBlock
import Derived.Test.YtfgmkeiiidckbaaDoorProg
namespace Go.Proofs.YtfgmkeiiidckbaaDoor
open Go.RowKit

/-- block g holds a number with these parts, in a block of the call's own -/
def NBox (W : World) (g : Nat) (hi lo e : Int) (t : Bool) : Prop := W.heap[g]? = some (.cells #[.int .u64 hi, .int .u64 lo, .int .i64 e, .bool t] 66 (0, 0))

section
variable {W w w' : World} {g : Nat} {hi lo e : Int} {t : Bool}
theorem NBox.c0 (h : NBox W g hi lo e t) : W.cell? ⟨g, 0, none⟩ = some (.int .u64 hi) := by rw [cell_of_row W g 0 _ _ _ h]; rfl
theorem NBox.c1 (h : NBox W g hi lo e t) : W.cell? ⟨g, 1, none⟩ = some (.int .u64 lo) := by rw [cell_of_row W g 1 _ _ _ h]; rfl
theorem NBox.c2 (h : NBox W g hi lo e t) : W.cell? ⟨g, 2, none⟩ = some (.int .i64 e) := by rw [cell_of_row W g 2 _ _ _ h]; rfl
theorem NBox.c3 (h : NBox W g hi lo e t) : W.cell? ⟨g, 3, none⟩ = some (.bool t) := by rw [cell_of_row W g 3 _ _ _ h]; rfl
theorem NBox.f (h : NBox W g hi lo e t) (o : Nat) : W.frozen? ⟨g, o, none⟩ = false := by
  unfold NBox at h; simp [World.frozen?, h]
theorem NBox.lt (h : NBox w g hi lo e t) : g < w.heap.size := lt_of_cell h.c0
theorem NBox.kept {B : Nat} (h : NBox w g hi lo e t) (hb : Below B w w') (hg : g < B) : NBox w' g hi lo e t := by
  unfold NBox; rw [hb.block g hg]; exact h
theorem NBox.below (h : NBox w g hi lo e t) (hb : Below w.heap.size w w') : NBox w' g hi lo e t := h.kept hb h.lt
theorem NBox.only {k : Nat} (h : NBox w g hi lo e t) (ho : Only k w w') (hne : g ≠ k) : NBox w' g hi lo e t := by
  unfold NBox; rw [ho.block g hne]; exact h
end

theorem NBox.new (w : World) (hi lo e : Int) (t : Bool) : NBox (w.alloc (.cells #[.int .u64 hi, .int .u64 lo, .int .i64 e, .bool t] 66)) w.heap.size hi lo e t := heap_alloc_new w _

theorem nbox_new (w : World) (hi lo e : Int) (t : Bool) :
    ∃ W, W = w.alloc (.cells #[.int .u64 hi, .int .u64 lo, .int .i64 e, .bool t] 66) ∧ Below w.heap.size w W ∧ NBox W w.heap.size hi lo e t ∧ w.heap.size + 1 ≤ W.heap.size :=
  ⟨_, rfl, (Below.refl _ w).alloc (Nat.le_refl _) _, NBox.new w hi lo e t, by simp⟩

theorem NBox.stored {w : World} {g : Nat} {hi lo e : Int} {t : Bool} (h : NBox w g hi lo e t) (hi' lo' e' : Int) (t' : Bool) :
    NBox ((((w.setCell ⟨g, 0, none⟩ (.int .u64 hi')).setCell ⟨g, 1, none⟩ (.int .u64 lo')).setCell ⟨g, 2, none⟩ (.int .i64 e')).setCell ⟨g, 3, none⟩ (.bool t')) g hi' lo' e' t' := by
  unfold NBox at h ⊢
  simp [World.setCell, Array.getElem?_modify, h]
theorem NBox.stored012 {w : World} {g : Nat} {hi lo e : Int} {t : Bool} (h : NBox w g hi lo e t) (hi' lo' e' : Int) :
    NBox (((w.setCell ⟨g, 0, none⟩ (.int .u64 hi')).setCell ⟨g, 1, none⟩ (.int .u64 lo')).setCell ⟨g, 2, none⟩ (.int .i64 e')) g hi' lo' e' t := by
  unfold NBox at h ⊢
  simp [World.setCell, Array.getElem?_modify, h]
theorem NBox.drew {w : World} {g : Nat} {hi lo e : Int} {t : Bool} (h : NBox w g hi lo e t) : NBox w.drew g hi lo e t := h
theorem only_nset3 (w : World) (g : Nat) (u v x : Value) : Only g w (((w.setCell ⟨g, 0, none⟩ u).setCell ⟨g, 1, none⟩ v).setCell ⟨g, 2, none⟩ x) := (((Only.refl g w).setCell _ _).setCell _ _).setCell _ _
theorem only_nset4 (w : World) (g : Nat) (u v x y : Value) : Only g w ((((w.setCell ⟨g, 0, none⟩ u).setCell ⟨g, 1, none⟩ v).setCell ⟨g, 2, none⟩ x).setCell ⟨g, 3, none⟩ y) := ((((Only.refl g w).setCell _ _).setCell _ _).setCell _ _).setCell _ _

/-- two numbers boxed -/
theorem boxes_nn (w : World) (hi lo e : Int) (t : Bool) (hi' lo' e' : Int) (t' : Bool) :
    ∃ W, W = (w.alloc (.cells #[.int .u64 hi, .int .u64 lo, .int .i64 e, .bool t] 66)).alloc (.cells #[.int .u64 hi', .int .u64 lo', .int .i64 e', .bool t'] 66) ∧ Below w.heap.size w W ∧ NBox W w.heap.size hi lo e t ∧ NBox W (w.heap.size + 1) hi' lo' e' t' ∧ w.heap.size + 2 ≤ W.heap.size := by
  refine ⟨_, rfl, ((Below.refl _ w).alloc (Nat.le_refl _) _).alloc (by simp) _, ?_, ?_, by simp⟩
  · exact (NBox.new w hi lo e t).below ((Below.refl _ _).alloc (Nat.le_refl _) _)
  · have := NBox.new (w.alloc (.cells #[.int .u64 hi, .int .u64 lo, .int .i64 e, .bool t] 66)) hi' lo' e' t'
    simpa using this
/-- three numbers boxed -/
theorem boxes_nnn (w : World) (hi lo e : Int) (t : Bool) (hi' lo' e' : Int) (t' : Bool) (hi2 lo2 e2 : Int) (t2 : Bool) :
    ∃ W, W = ((w.alloc (.cells #[.int .u64 hi, .int .u64 lo, .int .i64 e, .bool t] 66)).alloc (.cells #[.int .u64 hi', .int .u64 lo', .int .i64 e', .bool t'] 66)).alloc (.cells #[.int .u64 hi2, .int .u64 lo2, .int .i64 e2, .bool t2] 66) ∧ Below w.heap.size w W ∧
      NBox W w.heap.size hi lo e t ∧ NBox W (w.heap.size + 1) hi' lo' e' t' ∧ NBox W (w.heap.size + 1 + 1) hi2 lo2 e2 t2 ∧ w.heap.size + 3 ≤ W.heap.size := by
  refine ⟨_, rfl, (((Below.refl _ w).alloc (Nat.le_refl _) _).alloc (by simp) _).alloc (by simp; omega) _, ?_, ?_, ?_, by simp⟩
  · exact (NBox.new w hi lo e t).below (((Below.refl _ _).alloc (Nat.le_refl _) _).alloc (by simp) _)
  · have := (NBox.new (w.alloc (.cells #[.int .u64 hi, .int .u64 lo, .int .i64 e, .bool t] 66)) hi' lo' e' t').below ((Below.refl _ _).alloc (Nat.le_refl _) (.cells #[.int .u64 hi2, .int .u64 lo2, .int .i64 e2, .bool t2] 66))
    simpa using this
  · have := NBox.new ((w.alloc (.cells #[.int .u64 hi, .int .u64 lo, .int .i64 e, .bool t] 66)).alloc (.cells #[.int .u64 hi', .int .u64 lo', .int .i64 e', .bool t'] 66)) hi2 lo2 e2 t2
    simpa using this
end Go.Proofs.YtfgmkeiiidckbaaDoor
