import Derived.Test.YtapcecjbmcoliaaGrLlU7
import Derived.Test.YtapcecjbmcoliaaGrLlU1
import Derived.Test.YtapcecjbmcoliaaProg
import Derived.IntWalk
import Derived.Laws.Shifts
import Derived.Test.YtapcecjbmcoliaaRows
import Derived.WalkKit
import Derived.WalkSpells
import Derived.WalkLawsBesides
import Derived.Shelf.Spec.TrailingZeros
import Derived.LoopN
import Derived.Test.YtapcecjbmcoliaaGrLlU2
import Derived.Deep.CutRange
import Derived.Deep.RegionWith
import Derived.Deep.RegionHeld3
namespace Go.Proofs.Ytapcecjbmcoliaa
open Go Go.RowKit

/-- block g holds these values, in a block of the call's own -/
def VBlk (W : World) (g : Nat) (vs : Array Value) (t : TypeId) : Prop := W.heap[g]? = some (.cells vs t (0, 0))
theorem VBlk.c {W : World} {g : Nat} {vs : Array Value} {t : TypeId} (h : VBlk W g vs t) (i : Nat) : W.cell? ⟨g, i, none⟩ = vs[i]? := cell_of_row W g i _ _ _ h
theorem VBlk.f {W : World} {g : Nat} {vs : Array Value} {t : TypeId} (h : VBlk W g vs t) (o : Nat) : W.frozen? ⟨g, o, none⟩ = false := by
  unfold VBlk at h; simp [World.frozen?, h]
theorem VBlk.lt {W : World} {g : Nat} {vs : Array Value} {t : TypeId} (h : VBlk W g vs t) : g < W.heap.size := (Array.getElem?_eq_some_iff.1 h).1
theorem VBlk.below {w w' : World} {g : Nat} {vs : Array Value} {t : TypeId} (h : VBlk w g vs t) (hb : Below w.heap.size w w') : VBlk w' g vs t := by
  unfold VBlk; rw [hb.block g h.lt]; exact h
theorem VBlk.only {w w' : World} {g k : Nat} {vs : Array Value} {t : TypeId} (h : VBlk w g vs t) (ho : Only k w w') (hne : g ≠ k) : VBlk w' g vs t := by
  unfold VBlk; rw [ho.block g hne]; exact h
theorem VBlk.new (w : World) (vs : Array Value) (t : TypeId) : VBlk (w.alloc (.cells vs t)) w.heap.size vs t := heap_alloc_new w _
theorem VBlk.set {w : World} {g : Nat} {vs : Array Value} {t : TypeId} (h : VBlk w g vs t) (i : Nat) (v : Value) : VBlk (w.setCell ⟨g, i, none⟩ v) g (vs.setIfInBounds i v) t := by
  unfold VBlk at h ⊢
  simp [World.setCell, Array.getElem?_modify, h]
end Go.Proofs.Ytapcecjbmcoliaa
