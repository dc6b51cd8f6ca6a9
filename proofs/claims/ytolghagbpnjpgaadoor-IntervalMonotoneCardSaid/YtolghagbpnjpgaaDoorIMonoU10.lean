import Derived.Test.YtolghagbpnjpgaaDoorIMonoU9
import Derived.Test.YtolghagbpnjpgaaDoorIMonoU8
import Derived.Test.YtolghagbpnjpgaaDoorIMonoU1
import Derived.Test.YtolghagbpnjpgaaDoorIMonoU6
import Derived.Test.YtolghagbpnjpgaaDoorRows
import Derived.WalkKit
import Derived.WalkSpells
import Derived.WalkLawsBesides
import Derived.Laws.Bits64
import Derived.Laws.Bits64b
import Derived.Deep.QuietTactic
import Derived.BigQuiet
import Derived.Test.YtolghagbpnjpgaaDoorIMonoU7
import Derived.WalkSmall
import Derived.Lib.Hide
import Derived.Deep.RegionHeld3
import Derived.Deep.CutRange
namespace Go.Proofs.YtolghagbpnjpgaaDoor
open Go.RowKit

/-- block g holds a dyad with these parts, in a block of the call's own -/
def DBox (W : World) (g : Nat) (bb nb : Bool) (ao : Option Addr) (n ca : Nat) (e : Int) : Prop := W.heap[g]? = some (.cells #[.bool bb, .bool nb, .slice ao n ca, .int .i64 e] 37 (0, 0))

section
variable {W w w' : World} {g : Nat} {bb nb : Bool} {ao : Option Addr} {n ca : Nat} {e : Int}
theorem DBox.c0 (h : DBox W g bb nb ao n ca e) : W.cell? ⟨g, 0, none⟩ = some (.bool bb) := by rw [cell_of_row W g 0 _ _ _ h]; rfl
theorem DBox.c1 (h : DBox W g bb nb ao n ca e) : W.cell? ⟨g, 1, none⟩ = some (.bool nb) := by rw [cell_of_row W g 1 _ _ _ h]; rfl
theorem DBox.c2 (h : DBox W g bb nb ao n ca e) : W.cell? ⟨g, 2, none⟩ = some (.slice ao n ca) := by rw [cell_of_row W g 2 _ _ _ h]; rfl
theorem DBox.c3 (h : DBox W g bb nb ao n ca e) : W.cell? ⟨g, 3, none⟩ = some (.int .i64 e) := by rw [cell_of_row W g 3 _ _ _ h]; rfl
theorem DBox.f (h : DBox W g bb nb ao n ca e) (o : Nat) : W.frozen? ⟨g, o, none⟩ = false := by
  unfold DBox at h; simp [World.frozen?, h]
theorem DBox.lt (h : DBox w g bb nb ao n ca e) : g < w.heap.size := lt_of_cell h.c0
theorem DBox.kept {B : Nat} (h : DBox w g bb nb ao n ca e) (hb : Below B w w') (hg : g < B) : DBox w' g bb nb ao n ca e := by
  unfold DBox; rw [hb.block g hg]; exact h
theorem DBox.below (h : DBox w g bb nb ao n ca e) (hb : Below w.heap.size w w') : DBox w' g bb nb ao n ca e := h.kept hb h.lt
theorem DBox.ext (h : DBox w g bb nb ao n ca e) (hb : Ext w w') : DBox w' g bb nb ao n ca e := h.below hb
theorem DBox.only {k : Nat} (h : DBox w g bb nb ao n ca e) (ho : Only k w w') (hne : g ≠ k) : DBox w' g bb nb ao n ca e := by
  unfold DBox; rw [ho.block g hne]; exact h
end

theorem DBox.new (w : World) (bb nb : Bool) (ao : Option Addr) (n ca : Nat) (e : Int) : DBox (w.alloc (.cells #[.bool bb, .bool nb, .slice ao n ca, .int .i64 e] 37)) w.heap.size bb nb ao n ca e := heap_alloc_new w _

theorem DBox.stored {w : World} {g : Nat} {bb nb : Bool} {ao : Option Addr} {n ca : Nat} {e : Int} (h : DBox w g bb nb ao n ca e) (mbb mb : Bool) (bo : Option Addr) (m cb : Nat) (f : Int) :
    DBox ((((w.setCell ⟨g, 0, none⟩ (.bool mbb)).setCell ⟨g, 1, none⟩ (.bool mb)).setCell ⟨g, 2, none⟩ (.slice bo m cb)).setCell ⟨g, 3, none⟩ (.int .i64 f)) g mbb mb bo m cb f := by
  unfold DBox at h ⊢
  simp [World.setCell, Array.getElem?_modify, h]
theorem only_set4 (w : World) (g : Nat) (u v x y : Value) : Only g w ((((w.setCell ⟨g, 0, none⟩ u).setCell ⟨g, 1, none⟩ v).setCell ⟨g, 2, none⟩ x).setCell ⟨g, 3, none⟩ y) := ((((Only.refl g w).setCell _ _).setCell _ _).setCell _ _).setCell _ _
/-- limbs do not lie in a dyad's block -/
theorem At.only_dbox {w w' : World} {g : Nat} {bb nb : Bool} {ao ro : Option Addr} {n cap : Nat} {f : Int} {zs : List Int} (hx : DBox w g bb nb ao n cap f) (h : At w ro zs) (ho : Only g w w') : At w' ro zs := by
  intro h0
  obtain ⟨b, off, e, hc⟩ := h h0
  refine ⟨b, off, e, fun j hj => ?_⟩
  have hne : b ≠ g := by
    rintro rfl
    have := hc j hj
    rw [cell_of_row w b (off + j) _ _ _ hx] at this
    match off + j, this with
    | 0, this => simp at this
    | 1, this => simp at this
    | 2, this => simp at this
    | 3, this => simp at this
    | k + 4, this => simp at this
  rw [World.cell?_of_block (w := w) (ho.block b hne)]
  exact hc j hj
theorem Sl.only_dbox {w w' : World} {g : Nat} {bb nb : Bool} {ao ro : Option Addr} {n cap k cr : Nat} {f : Int} {zs : List Int} (h : Sl w ro k cr zs) (hx : DBox w g bb nb ao n cap f) (ho : Only g w w') : Sl w' ro k cr zs :=
  ⟨h.len, h.cap, h.big, h.wf, h.cells.only_dbox hx ho⟩
theorem Bn.only_dbox {w w' : World} {g : Nat} {bb nb mb : Bool} {ao ro : Option Addr} {n cap k cr : Nat} {f x : Int} (h : Bn w mb ro k cr x) (hx : DBox w g bb nb ao n cap f) (ho : Only g w w') : Bn w' mb ro k cr x :=
  ⟨h.neg, h.sl.only_dbox hx ho⟩
theorem Bg.only_dbox {w w' : World} {g : Nat} {bb nb mb : Bool} {ao ro : Option Addr} {n cap k cr : Nat} {f x : Int} (h : Bg w mb ro k cr x) (hx : DBox w g bb nb ao n cap f) (ho : Only g w w') : Bg w' mb ro k cr x := by
  obtain ⟨⟨zs, h1, h2⟩, h3⟩ := h
  exact ⟨⟨zs, h1.only_dbox hx ho, h2⟩, h3⟩

theorem dbox_new (w : World) (bb nb : Bool) (ao : Option Addr) (n ca : Nat) (e : Int) :
    ∃ W, W = w.alloc (.cells #[.bool bb, .bool nb, .slice ao n ca, .int .i64 e] 37) ∧ Below w.heap.size w W ∧ DBox W w.heap.size bb nb ao n ca e ∧ w.heap.size + 1 ≤ W.heap.size :=
  ⟨_, rfl, (Below.refl _ w).alloc (Nat.le_refl _) _, DBox.new w bb nb ao n ca e, by simp⟩

/-- an integer boxed, and the place of a dyad -/
theorem boxes_bd (w : World) (nb : Bool) (ao : Option Addr) (n cap : Nat) :
    ∃ W, W = (w.alloc (.cells #[.bool nb, .slice ao n cap] 35)).alloc (.cells #[.bool false, .bool false, .slice none 0 0, .int .i64 0] 37) ∧ Below w.heap.size w W ∧ Box W w.heap.size nb ao n cap ∧ DBox W (w.heap.size + 1) false false none 0 0 0 ∧ w.heap.size + 2 ≤ W.heap.size := by
  refine ⟨_, rfl, ((Below.refl _ w).alloc (Nat.le_refl _) _).alloc (by simp) _, ?_, ?_, by simp⟩
  · exact (Box.new w nb ao n cap).below ((Below.refl _ _).alloc (Nat.le_refl _) _)
  · have := DBox.new (w.alloc (.cells #[.bool nb, .slice ao n cap] 35)) false false none 0 0 0
    simpa using this

/-- a dyad boxed, and the place of a dyad -/
theorem boxes_dd (w : World) (bb nb : Bool) (ao : Option Addr) (n cap : Nat) (e : Int) :
    ∃ W, W = (w.alloc (.cells #[.bool bb, .bool nb, .slice ao n cap, .int .i64 e] 37)).alloc (.cells #[.bool false, .bool false, .slice none 0 0, .int .i64 0] 37) ∧ Below w.heap.size w W ∧ DBox W w.heap.size bb nb ao n cap e ∧ DBox W (w.heap.size + 1) false false none 0 0 0 ∧ w.heap.size + 2 ≤ W.heap.size := by
  refine ⟨_, rfl, ((Below.refl _ w).alloc (Nat.le_refl _) _).alloc (by simp) _, ?_, ?_, by simp⟩
  · exact (DBox.new w bb nb ao n cap e).below ((Below.refl _ _).alloc (Nat.le_refl _) _)
  · have := DBox.new (w.alloc (.cells #[.bool bb, .bool nb, .slice ao n cap, .int .i64 e] 37)) false false none 0 0 0
    simpa using this

/-- the parts of a dyad: zeros for none -/
def dm (d : Dy) : Int := (d.getD (0, 0)).1
def dx (d : Dy) : Int := (d.getD (0, 0)).2

/-- the value v is the normalized dyad d -/
def Dn (w : World) (v : Value) (d : Dy) : Prop := Nd d ∧ ∃ nb ao n ca, v = .agg #[.bool d.isNone, .bool nb, .slice ao n ca, .int .i64 (dx d)] ∧ Bn w nb ao n ca (dm d)

theorem cast2 (c s k : Nat) : ((c ^ s * 2 ^ k : Nat) : Int) = (c : Int) ^ s * 2 ^ k := by push_cast; rfl
theorem tzf_lt {a : Nat} (h : a ≠ 0) : tzf a < blen a := by
  rcases tzf_isTz a with ⟨h0, _⟩ | ⟨_, m, hm⟩
  · exact absurd h0 h
  · obtain ⟨l, h1, h2, h3⟩ := blen_spec h
    rw [h1]
    have h4 : 2 ^ tzf a * 1 ≤ 2 ^ tzf a * (2 * m + 1) := Nat.mul_le_mul_left _ (by omega)
    rw [← hm] at h4
    have : 2 ^ tzf a < 2 ^ (l + 1) := by omega
    exact (Nat.pow_lt_pow_iff_right (by omega)).1 this

theorem dn_bad (w : World) : Dn w (.agg #[.bool true, .bool false, .slice none 0 0, .int .i64 0]) none :=
  ⟨trivial, false, none, 0, 0, rfl, ⟨rfl, by simp [dm, limbs_zero]; exact Sl.nil w⟩⟩
theorem dn_zero (w : World) : Dn w (.agg #[.bool false, .bool false, .slice none 0 0, .int .i64 0]) (some (0, 0)) :=
  ⟨Or.inl ⟨rfl, rfl⟩, false, none, 0, 0, rfl, ⟨rfl, by simp [dm, limbs_zero]; exact Sl.nil w⟩⟩
theorem Dn.ext {w w' : World} {v : Value} {d : Dy} (h : Dn w v d) (he : Ext w w') : Dn w' v d := by
  obtain ⟨h0, nb, ao, n, ca, h1, h2⟩ := h
  exact ⟨h0, nb, ao, n, ca, h1, h2.below he⟩
theorem Dn.only_dbox {w w' : World} {g : Nat} {bb nb : Bool} {ao : Option Addr} {n cap : Nat} {f : Int} {v : Value} {d : Dy} (h : Dn w v d) (hx : DBox w g bb nb ao n cap f) (ho : Only g w w') : Dn w' v d := by
  obtain ⟨h0, nb, ao, n, ca, h1, h2⟩ := h
  exact ⟨h0, nb, ao, n, ca, h1, h2.only_dbox hx ho⟩

/-- the ends of a dyad's function: the result lies in its place -/
theorem dn_stored {w : World} {g B : Nat} {bb nb mbb mb : Bool} {ao bo : Option Addr} {n ca m cb : Nat} {e f : Int} {d : Dy} (hx : DBox w g bb nb ao n ca e) (h : Dn w (.agg #[.bool mbb, .bool mb, .slice bo m cb, .int .i64 f]) d) (w0 : World) (hb : Below B w0 w) (hg : B ≤ g) :
    Dn ((((w.setCell ⟨g, 0, none⟩ (.bool mbb)).setCell ⟨g, 1, none⟩ (.bool mb)).setCell ⟨g, 2, none⟩ (.slice bo m cb)).setCell ⟨g, 3, none⟩ (.int .i64 f)) (.agg #[.bool mbb, .bool mb, .slice bo m cb, .int .i64 f]) d ∧
    Below B w0 ((((w.setCell ⟨g, 0, none⟩ (.bool mbb)).setCell ⟨g, 1, none⟩ (.bool mb)).setCell ⟨g, 2, none⟩ (.slice bo m cb)).setCell ⟨g, 3, none⟩ (.int .i64 f)) :=
  ⟨h.only_dbox hx (only_set4 _ _ _ _ _ _), hb.trans ((only_set4 _ _ _ _ _ _).below hg)⟩

end Go.Proofs.YtolghagbpnjpgaaDoor
