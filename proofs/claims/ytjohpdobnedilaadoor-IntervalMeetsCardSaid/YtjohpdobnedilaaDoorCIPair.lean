/- Two intervals that a statement stores into variables of its own. -/
import Derived.Test.YtjohpdobnedilaaDoorCIMath
namespace Go.Proofs.YtjohpdobnedilaaDoor
open Go.RowKit

theorem ext_allocB' (w : World) (o : Obj) : Ext w (w.alloc o) := (Below.refl _ _).alloc (Nat.le_refl _) o
theorem ext_drewB' (w : World) : Ext w w.drew := (Below.refl _ _).drew
theorem sizeB' {a b : World} (h : Ext a b) : a.heap.size ≤ b.heap.size := Below.size h
theorem ipair_stored {W w : World} {g h : Nat} {x1 x2 y1 y2 a1 a2 b1 b2 : Int} (hg : IBox w g a1 a2) (hh : IBox w h b1 b2) (hne : g ≠ h) (hst : Ext W w) (h1 : W.heap.size ≤ g) (h2 : W.heap.size ≤ h) :
    IBox ((((w.setCell ⟨g, 0, none⟩ (.int .u64 x1)).setCell ⟨g, 1, none⟩ (.int .u64 x2)).setCell ⟨h, 0, none⟩ (.int .u64 y1)).setCell ⟨h, 1, none⟩ (.int .u64 y2)) g x1 x2 ∧
    IBox ((((w.setCell ⟨g, 0, none⟩ (.int .u64 x1)).setCell ⟨g, 1, none⟩ (.int .u64 x2)).setCell ⟨h, 0, none⟩ (.int .u64 y1)).setCell ⟨h, 1, none⟩ (.int .u64 y2)) h y1 y2 ∧
    Ext W ((((w.setCell ⟨g, 0, none⟩ (.int .u64 x1)).setCell ⟨g, 1, none⟩ (.int .u64 x2)).setCell ⟨h, 0, none⟩ (.int .u64 y1)).setCell ⟨h, 1, none⟩ (.int .u64 y2)) := by
  have a := hg.stored x1 x2
  have b := hh.only (only_iset2 w g (.int .u64 x1) (.int .u64 x2)) (Ne.symm hne)
  exact ⟨a.only (only_iset2 _ h _ _) hne, b.stored y1 y2, (Below.trans hst ((only_iset2 w g _ _).below h1)).trans ((only_iset2 _ h _ _).below h2)⟩
theorem ibox_new1v (w : World) (o : Obj) (x y : Int) : IBox ((w.alloc o).alloc (.cells #[.int .u64 x, .int .u64 y] 25)) (w.heap.size + 1) x y := by
  have := IBox.new (w.alloc o) x y
  simpa using this
theorem ibox_in1 {w wn : World} (h : Ext (w.alloc (.cells #[.int .u64 0, .int .u64 0] 25)) wn) : IBox wn w.heap.size 0 0 := (IBox.new w _ _).below h
theorem ibox_in2 {w wn : World} (h : Ext ((w.alloc (.cells #[.int .u64 0, .int .u64 0] 25)).alloc (.cells #[.int .u64 0, .int .u64 0] 25)) wn) :
    IBox wn w.heap.size 0 0 ∧ IBox wn (w.heap.size + 1) 0 0 :=
  ⟨((IBox.new w _ _).below (ext_allocB' _ _)).below h, (ibox_new1v w _ 0 0).below h⟩
theorem ibox_in1d {w wn : World} (h : Ext (w.alloc (.cells #[.int .u64 0, .int .u64 0] 25)).drew wn) : IBox wn w.heap.size 0 0 := ibox_in1 ((ext_drewB' _).trans h)
theorem ibox_in2d {w wn : World} (h : Ext ((w.alloc (.cells #[.int .u64 0, .int .u64 0] 25)).alloc (.cells #[.int .u64 0, .int .u64 0] 25)).drew wn) :
    IBox wn w.heap.size 0 0 ∧ IBox wn (w.heap.size + 1) 0 0 := ibox_in2 ((ext_drewB' _).trans h)
theorem ibox_new_set (w : World) (g : Nat) (u v : Value) (x y : Int) :
    IBox (((w.setCell ⟨g, 0, none⟩ u).setCell ⟨g, 1, none⟩ v).alloc (.cells #[.int .u64 x, .int .u64 y] 25)) w.heap.size x y := by
  have := IBox.new ((w.setCell ⟨g, 0, none⟩ u).setCell ⟨g, 1, none⟩ v) x y
  rwa [(only_iset2 w g u v).size] at this
theorem icells_only {w w' : World} {g B : Nat} {a b : Option Value} (ho : Only g w w') (hne : g ≠ B) (h : w.cell? ⟨B, 0, none⟩ = a ∧ w.cell? ⟨B, 1, none⟩ = b) : w'.cell? ⟨B, 0, none⟩ = a ∧ w'.cell? ⟨B, 1, none⟩ = b := by
  have e : ∀ i, w'.cell? ⟨B, i, none⟩ = w.cell? ⟨B, i, none⟩ := fun i => World.cell?_of_block (w := w) (ho.block B (Ne.symm hne))
  rw [e, e]
  exact h
theorem icells_stored {w : World} {g B : Nat} {u v : Value} {a b : Option Value} (hne : g ≠ B) (h : w.cell? ⟨B, 0, none⟩ = a ∧ w.cell? ⟨B, 1, none⟩ = b) :
    ((w.setCell ⟨g, 0, none⟩ u).setCell ⟨g, 1, none⟩ v).cell? ⟨B, 0, none⟩ = a ∧ ((w.setCell ⟨g, 0, none⟩ u).setCell ⟨g, 1, none⟩ v).cell? ⟨B, 1, none⟩ = b := icells_only (only_iset2 w g u v) hne h
theorem icells_alloc {w : World} {B : Nat} {o : Obj} {a b : Value} (h : w.cell? ⟨B, 0, none⟩ = some a ∧ w.cell? ⟨B, 1, none⟩ = some b) : (w.alloc o).cell? ⟨B, 0, none⟩ = some a ∧ (w.alloc o).cell? ⟨B, 1, none⟩ = some b := by
  obtain ⟨h0, h1⟩ := h
  have hb := lt_of_cell h0
  refine ⟨?_, ?_⟩
  · rw [World.cell?_alloc_past _ _ _ hb]; exact h0
  · rw [World.cell?_alloc_past _ _ _ hb]; exact h1
theorem icells_drew {w : World} {B : Nat} {a b : Option Value} (h : w.cell? ⟨B, 0, none⟩ = a ∧ w.cell? ⟨B, 1, none⟩ = b) : w.drew.cell? ⟨B, 0, none⟩ = a ∧ w.drew.cell? ⟨B, 1, none⟩ = b := h
theorem ifin_new {W w : World} {x1 x2 y1 y2 : Int} (h : Ext W w) :
    IBox ((w.alloc (.cells #[.int .u64 x1, .int .u64 x2] 25)).alloc (.cells #[.int .u64 y1, .int .u64 y2] 25)) w.heap.size x1 x2 ∧ IBox ((w.alloc (.cells #[.int .u64 x1, .int .u64 x2] 25)).alloc (.cells #[.int .u64 y1, .int .u64 y2] 25)) (w.heap.size + 1) y1 y2 ∧ Ext W ((w.alloc (.cells #[.int .u64 x1, .int .u64 x2] 25)).alloc (.cells #[.int .u64 y1, .int .u64 y2] 25)) :=
  ⟨(IBox.new w x1 x2).below (ext_allocB' _ _), ibox_new1v _ _ y1 y2, (h.trans (ext_allocB' _ _)).trans (ext_allocB' _ _)⟩
theorem ifin_mix {W w : World} {g : Nat} {x1 x2 y1 y2 a1 a2 : Int} (h : Ext W w) (hx : IBox w g a1 a2) (hg : W.heap.size ≤ g) :
    IBox (((w.setCell ⟨g, 0, none⟩ (.int .u64 x1)).setCell ⟨g, 1, none⟩ (.int .u64 x2)).alloc (.cells #[.int .u64 y1, .int .u64 y2] 25)) g x1 x2 ∧ IBox (((w.setCell ⟨g, 0, none⟩ (.int .u64 x1)).setCell ⟨g, 1, none⟩ (.int .u64 x2)).alloc (.cells #[.int .u64 y1, .int .u64 y2] 25)) w.heap.size y1 y2 ∧ Ext W (((w.setCell ⟨g, 0, none⟩ (.int .u64 x1)).setCell ⟨g, 1, none⟩ (.int .u64 x2)).alloc (.cells #[.int .u64 y1, .int .u64 y2] 25)) :=
  ⟨(hx.stored x1 x2).below (ext_allocB' _ _), ibox_new_set _ _ _ _ y1 y2, Ext.trans (show Ext W _ from Below.trans h ((only_iset2 w g (.int .u64 x1) (.int .u64 x2)).below hg)) (ext_allocB' _ _)⟩
end Go.Proofs.YtjohpdobnedilaaDoor
