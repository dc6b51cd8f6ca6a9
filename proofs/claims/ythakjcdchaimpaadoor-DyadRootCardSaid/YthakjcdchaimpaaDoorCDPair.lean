/- Dyads at hand: two that a statement stores into variables of its own. -/
import Derived.Test.YthakjcdchaimpaaDoorGp
import Derived.Test.YthakjcdchaimpaaDoorCDRoundOut
namespace Go.Proofs.YthakjcdchaimpaaDoor
open Go.RowKit

section
variable {W w : World} {L : List DEnt} {u v : Value} {d d' : Dy} {c c' : Bool}
/-- a call's result, written out, and what lies between -/
theorem dE {f : FuncId} {args : Array Value} (h : DSt W w L) (hc : ∀ W', DSt W' w L → Calls Tryd.prog f args w fun e w' => ∃ r, e = .returned r ∧ DSt W' w' (⟨r, d, true⟩ :: L)) :
    Calls Tryd.prog f args w fun e w' => ∃ rb rn ro rk rc re, e = .returned (.agg #[.bool rb, .bool rn, .slice ro rk rc, .int .i64 re]) ∧ Ext w w' ∧ DSt W w' (⟨.agg #[.bool rb, .bool rn, .slice ro rk rc, .int .i64 re], d, true⟩ :: L) :=
  (hc w h.self).mono fun e w' ⟨r, he, hst⟩ => by
    obtain ⟨rb, rn, ro, rk, rc, re, rfl⟩ := (hst.dn (List.Mem.head _)).parts
    exact ⟨rb, rn, ro, rk, rc, re, he, hst.ext, h.ext.trans hst.ext, hst.tab, hst.bag⟩
end

theorem DEnt.Ok.only_dbox {w w' : World} {p : DEnt} {g : Nat} {bb nb : Bool} {ao : Option Addr} {n ca : Nat} {f : Int} (h : p.Ok w) (hb : DBox w g bb nb ao n ca f) (ho : Only g w w') : p.Ok w' :=
  ⟨h.1.only_dbox hb ho, fun e => (h.2 e).only_dbox hb ho⟩

/-- a variable of this call's own is written -/
theorem DSt.stored {W w : World} {L : List DEnt} {g : Nat} {bb nb : Bool} {ao : Option Addr} {n ca : Nat} {f : Int} (h : DSt W w L) (hb : DBox w g bb nb ao n ca f) (hg : W.heap.size ≤ g) (xb xn : Bool) (xo : Option Addr) (xk xc : Nat) (xe : Int) :
    DSt W ((((w.setCell ⟨g, 0, none⟩ (.bool xb)).setCell ⟨g, 1, none⟩ (.bool xn)).setCell ⟨g, 2, none⟩ (.slice xo xk xc)).setCell ⟨g, 3, none⟩ (.int .i64 xe)) L :=
  ⟨Below.trans h.ext ((only_set4 w g _ _ _ _).below hg), by
    intro j hj
    have hc := h.tab j hj
    have hne : (3 : Nat) ≠ g := by
      rintro e
      rw [e] at hc
      rw [cell_of_row w g j _ _ _ hb] at hc
      match j, hc with
      | 0, hc => simp at hc
      | 1, hc => simp at hc
      | 2, hc => simp at hc
      | 3, hc => simp at hc
      | k + 4, hc => simp at hc
    rw [World.cell?_of_block (w := w) ((only_set4 w g _ _ _ _).block _ hne)]
    exact hc, fun p hp => (h.bag p hp).only_dbox hb (only_set4 w g _ _ _ _)⟩

/-- both variables are written -/
theorem pair_stored {W w : World} {L : List DEnt} {g h : Nat} {xb xn yb yn : Bool} {xo yo : Option Addr} {xk xc yk yc : Nat} {xe ye : Int} {ab an bb bn : Bool} {ao bo : Option Addr} {ak ac bk bc : Nat} {ae be : Int}
    (hg : DBox w g ab an ao ak ac ae) (hh : DBox w h bb bn bo bk bc be) (hne : g ≠ h) (hst : DSt W w L) (h1 : W.heap.size ≤ g) (h2 : W.heap.size ≤ h) :
    DBox ((((((((w.setCell ⟨g, 0, none⟩ (.bool xb)).setCell ⟨g, 1, none⟩ (.bool xn)).setCell ⟨g, 2, none⟩ (.slice xo xk xc)).setCell ⟨g, 3, none⟩ (.int .i64 xe)).setCell ⟨h, 0, none⟩ (.bool yb)).setCell ⟨h, 1, none⟩ (.bool yn)).setCell ⟨h, 2, none⟩ (.slice yo yk yc)).setCell ⟨h, 3, none⟩ (.int .i64 ye)) g xb xn xo xk xc xe ∧
    DBox ((((((((w.setCell ⟨g, 0, none⟩ (.bool xb)).setCell ⟨g, 1, none⟩ (.bool xn)).setCell ⟨g, 2, none⟩ (.slice xo xk xc)).setCell ⟨g, 3, none⟩ (.int .i64 xe)).setCell ⟨h, 0, none⟩ (.bool yb)).setCell ⟨h, 1, none⟩ (.bool yn)).setCell ⟨h, 2, none⟩ (.slice yo yk yc)).setCell ⟨h, 3, none⟩ (.int .i64 ye)) h yb yn yo yk yc ye ∧
    DSt W ((((((((w.setCell ⟨g, 0, none⟩ (.bool xb)).setCell ⟨g, 1, none⟩ (.bool xn)).setCell ⟨g, 2, none⟩ (.slice xo xk xc)).setCell ⟨g, 3, none⟩ (.int .i64 xe)).setCell ⟨h, 0, none⟩ (.bool yb)).setCell ⟨h, 1, none⟩ (.bool yn)).setCell ⟨h, 2, none⟩ (.slice yo yk yc)).setCell ⟨h, 3, none⟩ (.int .i64 ye)) L := by
  have a := hg.stored xb xn xo xk xc xe
  have b := hh.only (only_set4 w g (.bool xb) (.bool xn) (.slice xo xk xc) (.int .i64 xe)) (Ne.symm hne)
  have s := hst.stored hg h1 xb xn xo xk xc xe
  exact ⟨a.only (only_set4 _ h _ _ _ _) hne, b.stored yb yn yo yk yc ye, s.stored b h2 yb yn yo yk yc ye⟩

/-- a variable that was laid before a call -/
theorem dbox_in1 {w wn : World} (h : Ext (w.alloc (.cells #[.bool false, .bool false, .slice none 0 0, .int .i64 0] 26)) wn) : DBox wn w.heap.size false false none 0 0 0 := (DBox.new w _ _ _ _ _ _).ext h
theorem dbox_in2 {w wn : World} (h : Ext ((w.alloc (.cells #[.bool false, .bool false, .slice none 0 0, .int .i64 0] 26)).alloc (.cells #[.bool false, .bool false, .slice none 0 0, .int .i64 0] 26)) wn) :
    DBox wn w.heap.size false false none 0 0 0 ∧ DBox wn (w.heap.size + 1) false false none 0 0 0 := by
  refine ⟨((DBox.new w _ _ _ _ _ _).ext ((Below.refl _ _).alloc (Nat.le_refl _) _)).ext h, ?_⟩
  have := (DBox.new (w.alloc (.cells #[.bool false, .bool false, .slice none 0 0, .int .i64 0] 26)) false false none 0 0 0).ext h
  simpa using this
theorem dbox_new1 (w : World) : DBox ((w.alloc (.cells #[.bool false, .bool false, .slice none 0 0, .int .i64 0] 26)).alloc (.cells #[.bool false, .bool false, .slice none 0 0, .int .i64 0] 26)) (w.heap.size + 1) false false none 0 0 0 := by
  have := DBox.new (w.alloc (.cells #[.bool false, .bool false, .slice none 0 0, .int .i64 0] 26)) false false none 0 0 0
  simpa using this
theorem ext_alloc (w : World) (o : Obj) : Ext w (w.alloc o) := (Below.refl _ _).alloc (Nat.le_refl _) o
theorem size_of_ext {a b : World} (h : Ext a b) : a.heap.size ≤ b.heap.size := Below.size h

/-- four cells of another variable -/
theorem cells_only {w w' : World} {g B : Nat} {a b c d : Option Value} (ho : Only g w w') (hne : g ≠ B) (h : w.cell? ⟨B, 0, none⟩ = a ∧ w.cell? ⟨B, 1, none⟩ = b ∧ w.cell? ⟨B, 2, none⟩ = c ∧ w.cell? ⟨B, 3, none⟩ = d) :
    w'.cell? ⟨B, 0, none⟩ = a ∧ w'.cell? ⟨B, 1, none⟩ = b ∧ w'.cell? ⟨B, 2, none⟩ = c ∧ w'.cell? ⟨B, 3, none⟩ = d := by
  have e : ∀ i, w'.cell? ⟨B, i, none⟩ = w.cell? ⟨B, i, none⟩ := fun i => World.cell?_of_block (w := w) (ho.block B (Ne.symm hne))
  rw [e, e, e, e]
  exact h
theorem cells_stored {w : World} {g B : Nat} {u v x y : Value} {a b c d : Option Value} (hne : g ≠ B) (h : w.cell? ⟨B, 0, none⟩ = a ∧ w.cell? ⟨B, 1, none⟩ = b ∧ w.cell? ⟨B, 2, none⟩ = c ∧ w.cell? ⟨B, 3, none⟩ = d) :
    ((((w.setCell ⟨g, 0, none⟩ u).setCell ⟨g, 1, none⟩ v).setCell ⟨g, 2, none⟩ x).setCell ⟨g, 3, none⟩ y).cell? ⟨B, 0, none⟩ = a ∧ ((((w.setCell ⟨g, 0, none⟩ u).setCell ⟨g, 1, none⟩ v).setCell ⟨g, 2, none⟩ x).setCell ⟨g, 3, none⟩ y).cell? ⟨B, 1, none⟩ = b ∧
    ((((w.setCell ⟨g, 0, none⟩ u).setCell ⟨g, 1, none⟩ v).setCell ⟨g, 2, none⟩ x).setCell ⟨g, 3, none⟩ y).cell? ⟨B, 2, none⟩ = c ∧ ((((w.setCell ⟨g, 0, none⟩ u).setCell ⟨g, 1, none⟩ v).setCell ⟨g, 2, none⟩ x).setCell ⟨g, 3, none⟩ y).cell? ⟨B, 3, none⟩ = d :=
  cells_only (only_set4 w g u v x y) hne h

theorem cells_alloc {w : World} {B : Nat} {o : Obj} {a b c d : Value} (h : w.cell? ⟨B, 0, none⟩ = some a ∧ w.cell? ⟨B, 1, none⟩ = some b ∧ w.cell? ⟨B, 2, none⟩ = some c ∧ w.cell? ⟨B, 3, none⟩ = some d) :
    (w.alloc o).cell? ⟨B, 0, none⟩ = some a ∧ (w.alloc o).cell? ⟨B, 1, none⟩ = some b ∧ (w.alloc o).cell? ⟨B, 2, none⟩ = some c ∧ (w.alloc o).cell? ⟨B, 3, none⟩ = some d := by
  obtain ⟨h0, h1, h2, h3⟩ := h
  have hb := lt_of_cell h0
  refine ⟨?_, ?_, ?_, ?_⟩
  · rw [World.cell?_alloc_past _ _ _ hb]; exact h0
  · rw [World.cell?_alloc_past _ _ _ hb]; exact h1
  · rw [World.cell?_alloc_past _ _ _ hb]; exact h2
  · rw [World.cell?_alloc_past _ _ _ hb]; exact h3
theorem cells_of {w : World} {B : Nat} {a b c d : Value} (h : w.cell? ⟨B, 0, none⟩ = some a ∧ w.cell? ⟨B, 1, none⟩ = some b ∧ w.cell? ⟨B, 2, none⟩ = some c ∧ w.cell? ⟨B, 3, none⟩ = some d) :
    w.cell? ⟨B, 0, none⟩ = some a ∧ w.cell? ⟨B, 1, none⟩ = some b ∧ w.cell? ⟨B, 2, none⟩ = some c ∧ w.cell? ⟨B, 3, none⟩ = some d := h

theorem dbox_new1v (w : World) (o : Obj) (bb nb : Bool) (ao : Option Addr) (n ca : Nat) (e : Int) : DBox ((w.alloc o).alloc (.cells #[.bool bb, .bool nb, .slice ao n ca, .int .i64 e] 26)) (w.heap.size + 1) bb nb ao n ca e := by
  have := DBox.new (w.alloc o) bb nb ao n ca e
  simpa using this
theorem dbox_new_set (w : World) (g : Nat) (u v x y : Value) (bb nb : Bool) (ao : Option Addr) (n ca : Nat) (e : Int) :
    DBox (((((w.setCell ⟨g, 0, none⟩ u).setCell ⟨g, 1, none⟩ v).setCell ⟨g, 2, none⟩ x).setCell ⟨g, 3, none⟩ y).alloc (.cells #[.bool bb, .bool nb, .slice ao n ca, .int .i64 e] 26)) w.heap.size bb nb ao n ca e := by
  have := DBox.new ((((w.setCell ⟨g, 0, none⟩ u).setCell ⟨g, 1, none⟩ v).setCell ⟨g, 2, none⟩ x).setCell ⟨g, 3, none⟩ y) bb nb ao n ca e
  rwa [(only_set4 w g u v x y).size] at this

theorem cells_drew {w : World} {B : Nat} {a b c d : Option Value} (h : w.cell? ⟨B, 0, none⟩ = a ∧ w.cell? ⟨B, 1, none⟩ = b ∧ w.cell? ⟨B, 2, none⟩ = c ∧ w.cell? ⟨B, 3, none⟩ = d) :
    w.drew.cell? ⟨B, 0, none⟩ = a ∧ w.drew.cell? ⟨B, 1, none⟩ = b ∧ w.drew.cell? ⟨B, 2, none⟩ = c ∧ w.drew.cell? ⟨B, 3, none⟩ = d := h
theorem ext_drew (w : World) : Ext w w.drew := (Below.refl _ _).drew
theorem dbox_in1d {w wn : World} (h : Ext (w.alloc (.cells #[.bool false, .bool false, .slice none 0 0, .int .i64 0] 26)).drew wn) : DBox wn w.heap.size false false none 0 0 0 := dbox_in1 ((ext_drew _).trans h)
theorem dbox_in2d {w wn : World} (h : Ext ((w.alloc (.cells #[.bool false, .bool false, .slice none 0 0, .int .i64 0] 26)).alloc (.cells #[.bool false, .bool false, .slice none 0 0, .int .i64 0] 26)).drew wn) :
    DBox wn w.heap.size false false none 0 0 0 ∧ DBox wn (w.heap.size + 1) false false none 0 0 0 := dbox_in2 ((ext_drew _).trans h)

/-- both variables are laid behind the calls -/
theorem fin_new {W w : World} {L : List DEnt} {xb xn yb yn : Bool} {xo yo : Option Addr} {xk xc yk yc : Nat} {xe ye : Int} (h : DSt W w L) :
    DBox ((w.alloc (.cells #[.bool xb, .bool xn, .slice xo xk xc, .int .i64 xe] 26)).alloc (.cells #[.bool yb, .bool yn, .slice yo yk yc, .int .i64 ye] 26)) w.heap.size xb xn xo xk xc xe ∧ DBox ((w.alloc (.cells #[.bool xb, .bool xn, .slice xo xk xc, .int .i64 xe] 26)).alloc (.cells #[.bool yb, .bool yn, .slice yo yk yc, .int .i64 ye] 26)) (w.heap.size + 1) yb yn yo yk yc ye ∧ DSt W ((w.alloc (.cells #[.bool xb, .bool xn, .slice xo xk xc, .int .i64 xe] 26)).alloc (.cells #[.bool yb, .bool yn, .slice yo yk yc, .int .i64 ye] 26)) L :=
  ⟨(DBox.new w xb xn xo xk xc xe).ext (ext_alloc _ _), dbox_new1v _ _ yb yn yo yk yc ye, (h.alloc _).alloc _⟩
/-- one is laid behind the calls -/
theorem fin_mix {W w : World} {L : List DEnt} {g : Nat} {xb xn yb yn : Bool} {xo yo : Option Addr} {xk xc yk yc : Nat} {xe ye : Int} {ab an : Bool} {ao : Option Addr} {ak ac : Nat} {ae : Int} (h : DSt W w L) (hx : DBox w g ab an ao ak ac ae) (hg : W.heap.size ≤ g) :
    DBox (((((w.setCell ⟨g, 0, none⟩ (.bool xb)).setCell ⟨g, 1, none⟩ (.bool xn)).setCell ⟨g, 2, none⟩ (.slice xo xk xc)).setCell ⟨g, 3, none⟩ (.int .i64 xe)).alloc (.cells #[.bool yb, .bool yn, .slice yo yk yc, .int .i64 ye] 26)) g xb xn xo xk xc xe ∧ DBox (((((w.setCell ⟨g, 0, none⟩ (.bool xb)).setCell ⟨g, 1, none⟩ (.bool xn)).setCell ⟨g, 2, none⟩ (.slice xo xk xc)).setCell ⟨g, 3, none⟩ (.int .i64 xe)).alloc (.cells #[.bool yb, .bool yn, .slice yo yk yc, .int .i64 ye] 26)) w.heap.size yb yn yo yk yc ye ∧ DSt W (((((w.setCell ⟨g, 0, none⟩ (.bool xb)).setCell ⟨g, 1, none⟩ (.bool xn)).setCell ⟨g, 2, none⟩ (.slice xo xk xc)).setCell ⟨g, 3, none⟩ (.int .i64 xe)).alloc (.cells #[.bool yb, .bool yn, .slice yo yk yc, .int .i64 ye] 26)) L :=
  ⟨(hx.stored xb xn xo xk xc xe).ext (ext_alloc _ _), dbox_new_set _ _ _ _ _ _ yb yn yo yk yc ye, (h.stored hx hg xb xn xo xk xc xe).alloc _⟩
end Go.Proofs.YthakjcdchaimpaaDoor
