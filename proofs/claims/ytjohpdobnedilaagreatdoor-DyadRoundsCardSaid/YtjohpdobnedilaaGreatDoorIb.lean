/- What dyad.Round does. -/
import Derived.Test.YtjohpdobnedilaaGreatDoorGm
import Derived.Test.YtjohpdobnedilaaGreatDoorIe
import Derived.Test.YtjohpdobnedilaaGreatDoorGr
namespace Go.Proofs.YtjohpdobnedilaaGreatDoor
open Go.RowKit

/-- a dyad rounded -/
def dround (d : Dy) (p mode : Int) : Dy := match d with
  | some (m, e) => if 1 ≤ p ∧ p ≤ 4096 then drd m e p.toNat mode else none
  | none => none

set_option maxRecDepth 100000 in
set_option maxHeartbeats 4000000 in
theorem dround_any (u : Value) (d : Dy) (p mode : Int) (w : World) (hu : Dg w u d) (hT : Table w) :
    Calls Tryz.prog 38 #[u, .int .i64 p, .int .i64 mode] w fun e w' => ∃ r, e = .returned r ∧ Dn w' r (dround d p mode) ∧ Ext w w' := by
  have hu0 := hu
  obtain ⟨ub, un, uo, uk, uc, _, uf, rfl, -⟩ := hu0
  go_enter Tryz.func38, Tryz.ntmps38
  go_upto_region 1 with fail
  obtain ⟨W, hW, hB, hbx, hrx, hz⟩ := boxes_dd w ub un uo uk uc uf
  rw [← hW]
  clear hW
  have hu := hu.ext hB
  have HT := Lib.hid (hT.below hB)
  have HT0 := Lib.hid hT
  generalize hBe : w.heap.size = B at *
  have HBe := Lib.hid hBe; clear hBe hT
  have k0 := hbx.c0
  have k1 := hbx.c1
  have k2 := hbx.c2
  have k3 := hbx.c3
  go_wp2_with fail
  refine (dnormal_any _ _ _ hu HT.out).mono ?_
  rintro e w1 ⟨r, rfl, hr, hw1⟩
  obtain ⟨mbb, mb, mo, m, cb, me, rfl⟩ := hr.parts
  have b1 := hbx.below hw1
  have c1 := hrx.below hw1
  have hT1 := HT.out.below hw1
  obtain ⟨hB1, hB1'⟩ := bnext hB (by omega) hw1
  have ho := only_set4 w1 B (.bool mbb) (.bool mb) (.slice mo m cb) (.int .i64 me)
  have b2 := b1.stored mbb mb mo m cb me
  have c2 := c1.only ho (by omega)
  have hr2 := hr.only_dbox b1 ho
  have hB2 := hB1.trans (ho.below (Nat.le_refl B))
  have hT2 := (show Table w from HT0.out).below (w' := (((((w1.setCell ⟨B, 0, none⟩ (.bool mbb)).setCell ⟨B, 1, none⟩ (.bool mb)).setCell ⟨B, 2, none⟩ (.slice mo m cb)).setCell ⟨B, 3, none⟩ (.int .i64 me)))) (by rw [HBe.out]; exact hB2)
  have hz2 : B + 2 ≤ (((((w1.setCell ⟨B, 0, none⟩ (.bool mbb)).setCell ⟨B, 1, none⟩ (.bool mb)).setCell ⟨B, 2, none⟩ (.slice mo m cb)).setCell ⟨B, 3, none⟩ (.int .i64 me))).heap.size := by rw [ho.size]; have := hw1.size; omega
  have HT2 := Lib.hid hT2; clear hT2
  clear k0 k1 k2 k3 hT1 hu
  have k0 := b1.c0
  have k1 := b1.c1
  have k2 := b1.c2
  have k3 := b1.c3
  have f0 := b1.f 0
  have f1 := b1.f 1
  have f2 := b1.f 2
  have f3 := b1.f 3
  go_upto_region 2 with fail
  generalize (((w1.setCell ⟨B, 0, none⟩ (.bool mbb)).setCell ⟨B, 1, none⟩ (.bool mb)).setCell ⟨B, 2, none⟩ (.slice mo m cb)).setCell ⟨B, 3, none⟩ (.int .i64 me) = w2 at *
  clear k0 k1 k2 k3 f0 f1 f2 f3 ho b1 c1 hr hw1 HT
  have k0 := b2.c0
  have k1 := b2.c1
  have k2 := b2.c2
  have k3 := b2.c3
  cases d with
  | none =>
    obtain rfl := dn_none hr2
    have hd : dround none p mode = none := rfl
    have HD := Lib.hid hd; clear hd
    go_wp2_with fail
    refine (bad_any _).mono ?_
    rintro e w3 ⟨rfl, hw3⟩
    have c3 := c2.below hw3
    obtain ⟨hB3, hB3'⟩ := bnext hB2 (by omega) hw3
    clear k0 k1 k2 k3
    have q0 := c3.c0
    have q1 := c3.c1
    have q2 := c3.c2
    have q3 := c3.c3
    have f0 := c3.f 0
    have f1 := c3.f 1
    have f2 := c3.f 2
    have f3 := c3.f 3
    have hres := dn_stored c3 (dn_bad _) w hB3 (Nat.le_succ B)
    have z3 := c3.stored true false none 0 0 0
    have z0 := z3.c0
    have z1 := z3.c1
    have z2 := z3.c2
    have z4 := z3.c3
    have HRES := Lib.hid hres; clear hres z3
    go_wp2
    refine bodyPost_ret (v := .agg #[.bool true, .bool false, .slice none 0 0, .int .i64 0]) (by simp [results, Tryz.results38, go_sem, z0, z1, z2, z4]) rfl ⟨_, rfl, ?_, ?_⟩
    · rw [HD.out]; exact HRES.out.1
    · show Below _ _ _; rw [HBe.out]; exact HRES.out.2
  | some q =>
    obtain ⟨x, e0⟩ := q
    obtain ⟨rfl, hme, hbn⟩ := dn_some hr2
    subst hme
    have hd0 : dround (some (x, me)) p mode = if 1 ≤ p ∧ p ≤ 4096 then drd x me p.toNat mode else none := rfl
    have hnd := nd_blen hr2.1
    simp only [dm, dx, Option.getD_some] at hnd
    have hms : m ≤ 4096 := by
      rw [← hbn.sl.len]
      exact limbs_of_blen (by omega)
    have HD0 := Lib.hid hd0; clear hd0 hr2
    by_cases hp : 1 ≤ p ∧ p ≤ 4096
    · have hpb : decide (1 ≤ p ∧ p ≤ 4096) = true := by simpa using hp
      have HPB := Lib.hid hpb; clear hpb
      have hdd := HD0.out
      rw [if_pos hp] at hdd
      have HD := Lib.hid hdd; clear hdd
      obtain ⟨hp0, hp1⟩ := hp
      go_wp2_with fail
      refine (isPrec_any _ _).mono ?_
      rintro e w3 ⟨rfl, rfl⟩
      rw [HPB.out]
      go_wp2_with fail
      refine (rounded_int _ _ _ _ _ _ _ _ _ (hbn.bg (by omega)) (by omega) (by omega) (by omega) hp1 hp0 HT2.out).mono ?_
      rintro e w4 ⟨r, rfl, hr, hw4⟩
      rw [← HD.out] at hr
      have c4 := c2.below hw4
      obtain ⟨hB4, hB4'⟩ := bnext hB2 (by omega) hw4
      obtain ⟨rb, rn, ro, rk, rc, re, rfl⟩ := hr.parts
      clear k0 k1 k2 k3
      have q0 := c4.c0
      have q1 := c4.c1
      have q2 := c4.c2
      have q3 := c4.c3
      have f0 := c4.f 0
      have f1 := c4.f 1
      have f2 := c4.f 2
      have f3 := c4.f 3
      have hres := dn_stored c4 hr w hB4 (Nat.le_succ B)
      have z3 := c4.stored rb rn ro rk rc re
      have z0 := z3.c0
      have z1 := z3.c1
      have z2 := z3.c2
      have z4 := z3.c3
      have HRES := Lib.hid hres; clear hres z3
      go_wp2
      refine bodyPost_ret (v := .agg #[.bool rb, .bool rn, .slice ro rk rc, .int .i64 re]) (by simp [results, Tryz.results38, go_sem, z0, z1, z2, z4]) rfl ⟨_, rfl, ?_, ?_⟩
      · exact HRES.out.1
      · show Below _ _ _; rw [HBe.out]; exact HRES.out.2
    · have hpb : decide (1 ≤ p ∧ p ≤ 4096) = false := by simpa using hp
      have HPB := Lib.hid hpb; clear hpb
      have hdd := HD0.out
      rw [if_neg hp] at hdd
      have HD := Lib.hid hdd; clear hdd hp
      go_wp2_with fail
      refine (isPrec_any _ _).mono ?_
      rintro e w3 ⟨rfl, rfl⟩
      rw [HPB.out]
      go_wp2_with fail
      refine (bad_any _).mono ?_
      rintro e w4 ⟨rfl, hw4⟩
      have c4 := c2.below hw4
      obtain ⟨hB4, hB4'⟩ := bnext hB2 (by omega) hw4
      clear k0 k1 k2 k3
      have q0 := c4.c0
      have q1 := c4.c1
      have q2 := c4.c2
      have q3 := c4.c3
      have f0 := c4.f 0
      have f1 := c4.f 1
      have f2 := c4.f 2
      have f3 := c4.f 3
      have hres := dn_stored c4 (dn_bad _) w hB4 (Nat.le_succ B)
      have z3 := c4.stored true false none 0 0 0
      have z0 := z3.c0
      have z1 := z3.c1
      have z2 := z3.c2
      have z4 := z3.c3
      have HRES := Lib.hid hres; clear hres z3
      go_wp2
      refine bodyPost_ret (v := .agg #[.bool true, .bool false, .slice none 0 0, .int .i64 0]) (by simp [results, Tryz.results38, go_sem, z0, z1, z2, z4]) rfl ⟨_, rfl, ?_, ?_⟩
      · rw [HD.out]; exact HRES.out.1
      · show Below _ _ _; rw [HBe.out]; exact HRES.out.2
end Go.Proofs.YtjohpdobnedilaaGreatDoor

/- Dyads at hand: two that a statement stores into variables of its own. -/
namespace Go.Proofs.YtjohpdobnedilaaGreatDoor
open Go.RowKit

section
variable {W w : World} {L : List DEnt} {u v : Value} {d d' : Dy} {c c' : Bool}
theorem dround_bag (h : DSt W w L) (h1 : ⟨u, d, c⟩ ∈ L) (p mode : Int) :
    Calls Tryz.prog 38 #[u, .int .i64 p, .int .i64 mode] w fun e w' => ∃ r, e = .returned r ∧ DSt W w' (⟨r, dround d p mode, true⟩ :: L) :=
  (dround_any u d p mode w (h.bag _ h1).1 h.tab).mono fun _ _ ⟨r, he, hr, hw⟩ => ⟨r, he, h.push hw (dok_dn hr)⟩

/-- a call's result, written out, and what lies between -/
theorem dE {f : FuncId} {args : Array Value} (h : DSt W w L) (hc : ∀ W', DSt W' w L → Calls Tryz.prog f args w fun e w' => ∃ r, e = .returned r ∧ DSt W' w' (⟨r, d, true⟩ :: L)) :
    Calls Tryz.prog f args w fun e w' => ∃ rb rn ro rk rc re, e = .returned (.agg #[.bool rb, .bool rn, .slice ro rk rc, .int .i64 re]) ∧ Ext w w' ∧ DSt W w' (⟨.agg #[.bool rb, .bool rn, .slice ro rk rc, .int .i64 re], d, true⟩ :: L) :=
  (hc w h.self).mono fun e w' ⟨r, he, hst⟩ => by
    obtain ⟨rb, rn, ro, rk, rc, re, rfl⟩ := (hst.dn (List.Mem.head _)).parts
    exact ⟨rb, rn, ro, rk, rc, re, he, hst.ext, h.ext.trans hst.ext, hst.tab, hst.bag⟩
end

theorem DEnt.Ok.only_dbox {w w' : World} {p : DEnt} {g : Nat} {bb nb : Bool} {ao : Option Addr} {n ca : Nat} {f : Int} (h : p.Ok w) (hb : DBox w g bb nb ao n ca f) (ho : Only g w w') : p.Ok w' :=
  ⟨h.1.only_dbox hb ho, fun e => (h.2 e).only_dbox hb ho⟩

/-- a variable of this call's own is written -/
theorem DSt.stored {W w : World} {L : List DEnt} {g : Nat} {bb nb : Bool} {ao : Option Addr} {n ca : Nat} {f : Int} (h : DSt W w L) (hb : DBox w g bb nb ao n ca f) (hg : W.heap.size ≤ g) (xb xn : Bool) (xo : Option Addr) (xk xc : Nat) (xe : Int) :
    DSt W ((((w.setCell ⟨g, 0, none⟩ (.bool xb)).setCell ⟨g, 1, none⟩ (.bool xn)).setCell ⟨g, 2, none⟩ (.slice xo xk xc)).setCell ⟨g, 3, none⟩ (.int .i64 xe)) L :=
  ⟨Below.trans h.ext ((only_set4 w g _ _ _ _).below hg), by
    intro j hj
    have hc := h.tab j hj
    have hne : (1 : Nat) ≠ g := by
      rintro e
      rw [e] at hc
      rw [cell_of_row w g j _ _ _ hb] at hc
      match j, hc with
      | 0, hc => simp at hc
      | 1, hc => simp at hc
      | 2, hc => simp at hc
      | 3, hc => simp at hc
      | k + 4, hc => simp at hc
    rw [World.cell?_of_block (w := w) ((only_set4 w g _ _ _ _).block _ hne)]
    exact hc, fun p hp => (h.bag p hp).only_dbox hb (only_set4 w g _ _ _ _)⟩

/-- both variables are written -/
theorem pair_stored {W w : World} {L : List DEnt} {g h : Nat} {xb xn yb yn : Bool} {xo yo : Option Addr} {xk xc yk yc : Nat} {xe ye : Int} {ab an bb bn : Bool} {ao bo : Option Addr} {ak ac bk bc : Nat} {ae be : Int}
    (hg : DBox w g ab an ao ak ac ae) (hh : DBox w h bb bn bo bk bc be) (hne : g ≠ h) (hst : DSt W w L) (h1 : W.heap.size ≤ g) (h2 : W.heap.size ≤ h) :
    DBox ((((((((w.setCell ⟨g, 0, none⟩ (.bool xb)).setCell ⟨g, 1, none⟩ (.bool xn)).setCell ⟨g, 2, none⟩ (.slice xo xk xc)).setCell ⟨g, 3, none⟩ (.int .i64 xe)).setCell ⟨h, 0, none⟩ (.bool yb)).setCell ⟨h, 1, none⟩ (.bool yn)).setCell ⟨h, 2, none⟩ (.slice yo yk yc)).setCell ⟨h, 3, none⟩ (.int .i64 ye)) g xb xn xo xk xc xe ∧
    DBox ((((((((w.setCell ⟨g, 0, none⟩ (.bool xb)).setCell ⟨g, 1, none⟩ (.bool xn)).setCell ⟨g, 2, none⟩ (.slice xo xk xc)).setCell ⟨g, 3, none⟩ (.int .i64 xe)).setCell ⟨h, 0, none⟩ (.bool yb)).setCell ⟨h, 1, none⟩ (.bool yn)).setCell ⟨h, 2, none⟩ (.slice yo yk yc)).setCell ⟨h, 3, none⟩ (.int .i64 ye)) h yb yn yo yk yc ye ∧
    DSt W ((((((((w.setCell ⟨g, 0, none⟩ (.bool xb)).setCell ⟨g, 1, none⟩ (.bool xn)).setCell ⟨g, 2, none⟩ (.slice xo xk xc)).setCell ⟨g, 3, none⟩ (.int .i64 xe)).setCell ⟨h, 0, none⟩ (.bool yb)).setCell ⟨h, 1, none⟩ (.bool yn)).setCell ⟨h, 2, none⟩ (.slice yo yk yc)).setCell ⟨h, 3, none⟩ (.int .i64 ye)) L := by
  have a := hg.stored xb xn xo xk xc xe
  have b := hh.only (only_set4 w g (.bool xb) (.bool xn) (.slice xo xk xc) (.int .i64 xe)) (Ne.symm hne)
  have s := hst.stored hg h1 xb xn xo xk xc xe
  exact ⟨a.only (only_set4 _ h _ _ _ _) hne, b.stored yb yn yo yk yc ye, s.stored b h2 yb yn yo yk yc ye⟩

/-- a variable that was laid before a call -/
theorem dbox_in1 {w wn : World} (h : Ext (w.alloc (.cells #[.bool false, .bool false, .slice none 0 0, .int .i64 0] 39)) wn) : DBox wn w.heap.size false false none 0 0 0 := (DBox.new w _ _ _ _ _ _).ext h
theorem dbox_in2 {w wn : World} (h : Ext ((w.alloc (.cells #[.bool false, .bool false, .slice none 0 0, .int .i64 0] 39)).alloc (.cells #[.bool false, .bool false, .slice none 0 0, .int .i64 0] 39)) wn) :
    DBox wn w.heap.size false false none 0 0 0 ∧ DBox wn (w.heap.size + 1) false false none 0 0 0 := by
  refine ⟨((DBox.new w _ _ _ _ _ _).ext ((Below.refl _ _).alloc (Nat.le_refl _) _)).ext h, ?_⟩
  have := (DBox.new (w.alloc (.cells #[.bool false, .bool false, .slice none 0 0, .int .i64 0] 39)) false false none 0 0 0).ext h
  simpa using this
theorem dbox_new1 (w : World) : DBox ((w.alloc (.cells #[.bool false, .bool false, .slice none 0 0, .int .i64 0] 39)).alloc (.cells #[.bool false, .bool false, .slice none 0 0, .int .i64 0] 39)) (w.heap.size + 1) false false none 0 0 0 := by
  have := DBox.new (w.alloc (.cells #[.bool false, .bool false, .slice none 0 0, .int .i64 0] 39)) false false none 0 0 0
  simpa using this
theorem ext_alloc (w : World) (o : Obj) : Ext w (w.alloc o) := (Below.refl _ _).alloc (Nat.le_refl _) o
theorem size_of_ext {a b : World} (h : Ext a b) : a.heap.size ≤ b.heap.size := Below.size h

/-- four cells of another variable -/
theorem cells_only {w w' : World} {g B : Nat} {a b c d : Option Value} (ho : Only g w w') (hne : g ≠ B) (h : w.cell? ⟨B, 0, none⟩ = a ∧ w.cell? ⟨B, 1, none⟩ = b ∧ w.cell? ⟨B, 2, none⟩ = c ∧ w.cell? ⟨B, 3, none⟩ = d) :
    w'.cell? ⟨B, 0, none⟩ = a ∧ w'.cell? ⟨B, 1, none⟩ = b ∧ w'.cell? ⟨B, 2, none⟩ = c ∧ w'.cell? ⟨B, 3, none⟩ = d := by
  have e : ∀ i, w'.cell? ⟨B, i, none⟩ = w.cell? ⟨B, i, none⟩ := fun i => World.cell?_of_block (w := w) (ho.block B (Ne.symm hne))
  rw [e, e, e, e]
  exact h
theorem cells_stored {w : World} {g B : Nat} {u v x y : Value} {a b c d : Option Value} (hne : g ≠ B) (h : w.cell? ⟨B, 0, none⟩ = a ∧ w.cell? ⟨B, 1, none⟩ = b ∧ w.cell? ⟨B, 2, none⟩ = c ∧ w.cell? ⟨B, 3, none⟩ = d) :
    ((((w.setCell ⟨g, 0, none⟩ u).setCell ⟨g, 1, none⟩ v).setCell ⟨g, 2, none⟩ x).setCell ⟨g, 3, none⟩ y).cell? ⟨B, 0, none⟩ = a ∧ ((((w.setCell ⟨g, 0, none⟩ u).setCell ⟨g, 1, none⟩ v).setCell ⟨g, 2, none⟩ x).setCell ⟨g, 3, none⟩ y).cell? ⟨B, 1, none⟩ = b ∧
    ((((w.setCell ⟨g, 0, none⟩ u).setCell ⟨g, 1, none⟩ v).setCell ⟨g, 2, none⟩ x).setCell ⟨g, 3, none⟩ y).cell? ⟨B, 2, none⟩ = c ∧ ((((w.setCell ⟨g, 0, none⟩ u).setCell ⟨g, 1, none⟩ v).setCell ⟨g, 2, none⟩ x).setCell ⟨g, 3, none⟩ y).cell? ⟨B, 3, none⟩ = d :=
  cells_only (only_set4 w g u v x y) hne h

theorem cells_alloc {w : World} {B : Nat} {o : Obj} {a b c d : Value} (h : w.cell? ⟨B, 0, none⟩ = some a ∧ w.cell? ⟨B, 1, none⟩ = some b ∧ w.cell? ⟨B, 2, none⟩ = some c ∧ w.cell? ⟨B, 3, none⟩ = some d) :
    (w.alloc o).cell? ⟨B, 0, none⟩ = some a ∧ (w.alloc o).cell? ⟨B, 1, none⟩ = some b ∧ (w.alloc o).cell? ⟨B, 2, none⟩ = some c ∧ (w.alloc o).cell? ⟨B, 3, none⟩ = some d := by
  obtain ⟨h0, h1, h2, h3⟩ := h
  have hb := lt_of_cell h0
  refine ⟨?_, ?_, ?_, ?_⟩
  · rw [World.cell?_alloc_past _ _ _ hb]; exact h0
  · rw [World.cell?_alloc_past _ _ _ hb]; exact h1
  · rw [World.cell?_alloc_past _ _ _ hb]; exact h2
  · rw [World.cell?_alloc_past _ _ _ hb]; exact h3
theorem cells_of {w : World} {B : Nat} {a b c d : Value} (h : w.cell? ⟨B, 0, none⟩ = some a ∧ w.cell? ⟨B, 1, none⟩ = some b ∧ w.cell? ⟨B, 2, none⟩ = some c ∧ w.cell? ⟨B, 3, none⟩ = some d) :
    w.cell? ⟨B, 0, none⟩ = some a ∧ w.cell? ⟨B, 1, none⟩ = some b ∧ w.cell? ⟨B, 2, none⟩ = some c ∧ w.cell? ⟨B, 3, none⟩ = some d := h

theorem dbox_new1v (w : World) (o : Obj) (bb nb : Bool) (ao : Option Addr) (n ca : Nat) (e : Int) : DBox ((w.alloc o).alloc (.cells #[.bool bb, .bool nb, .slice ao n ca, .int .i64 e] 39)) (w.heap.size + 1) bb nb ao n ca e := by
  have := DBox.new (w.alloc o) bb nb ao n ca e
  simpa using this
theorem dbox_new_set (w : World) (g : Nat) (u v x y : Value) (bb nb : Bool) (ao : Option Addr) (n ca : Nat) (e : Int) :
    DBox (((((w.setCell ⟨g, 0, none⟩ u).setCell ⟨g, 1, none⟩ v).setCell ⟨g, 2, none⟩ x).setCell ⟨g, 3, none⟩ y).alloc (.cells #[.bool bb, .bool nb, .slice ao n ca, .int .i64 e] 39)) w.heap.size bb nb ao n ca e := by
  have := DBox.new ((((w.setCell ⟨g, 0, none⟩ u).setCell ⟨g, 1, none⟩ v).setCell ⟨g, 2, none⟩ x).setCell ⟨g, 3, none⟩ y) bb nb ao n ca e
  rwa [(only_set4 w g u v x y).size] at this

theorem cells_drew {w : World} {B : Nat} {a b c d : Option Value} (h : w.cell? ⟨B, 0, none⟩ = a ∧ w.cell? ⟨B, 1, none⟩ = b ∧ w.cell? ⟨B, 2, none⟩ = c ∧ w.cell? ⟨B, 3, none⟩ = d) :
    w.drew.cell? ⟨B, 0, none⟩ = a ∧ w.drew.cell? ⟨B, 1, none⟩ = b ∧ w.drew.cell? ⟨B, 2, none⟩ = c ∧ w.drew.cell? ⟨B, 3, none⟩ = d := h
theorem ext_drew (w : World) : Ext w w.drew := (Below.refl _ _).drew
theorem dbox_in1d {w wn : World} (h : Ext (w.alloc (.cells #[.bool false, .bool false, .slice none 0 0, .int .i64 0] 39)).drew wn) : DBox wn w.heap.size false false none 0 0 0 := dbox_in1 ((ext_drew _).trans h)
theorem dbox_in2d {w wn : World} (h : Ext ((w.alloc (.cells #[.bool false, .bool false, .slice none 0 0, .int .i64 0] 39)).alloc (.cells #[.bool false, .bool false, .slice none 0 0, .int .i64 0] 39)).drew wn) :
    DBox wn w.heap.size false false none 0 0 0 ∧ DBox wn (w.heap.size + 1) false false none 0 0 0 := dbox_in2 ((ext_drew _).trans h)

/-- both variables are laid behind the calls -/
theorem fin_new {W w : World} {L : List DEnt} {xb xn yb yn : Bool} {xo yo : Option Addr} {xk xc yk yc : Nat} {xe ye : Int} (h : DSt W w L) :
    DBox ((w.alloc (.cells #[.bool xb, .bool xn, .slice xo xk xc, .int .i64 xe] 39)).alloc (.cells #[.bool yb, .bool yn, .slice yo yk yc, .int .i64 ye] 39)) w.heap.size xb xn xo xk xc xe ∧ DBox ((w.alloc (.cells #[.bool xb, .bool xn, .slice xo xk xc, .int .i64 xe] 39)).alloc (.cells #[.bool yb, .bool yn, .slice yo yk yc, .int .i64 ye] 39)) (w.heap.size + 1) yb yn yo yk yc ye ∧ DSt W ((w.alloc (.cells #[.bool xb, .bool xn, .slice xo xk xc, .int .i64 xe] 39)).alloc (.cells #[.bool yb, .bool yn, .slice yo yk yc, .int .i64 ye] 39)) L :=
  ⟨(DBox.new w xb xn xo xk xc xe).ext (ext_alloc _ _), dbox_new1v _ _ yb yn yo yk yc ye, (h.alloc _).alloc _⟩
/-- one is laid behind the calls -/
theorem fin_mix {W w : World} {L : List DEnt} {g : Nat} {xb xn yb yn : Bool} {xo yo : Option Addr} {xk xc yk yc : Nat} {xe ye : Int} {ab an : Bool} {ao : Option Addr} {ak ac : Nat} {ae : Int} (h : DSt W w L) (hx : DBox w g ab an ao ak ac ae) (hg : W.heap.size ≤ g) :
    DBox (((((w.setCell ⟨g, 0, none⟩ (.bool xb)).setCell ⟨g, 1, none⟩ (.bool xn)).setCell ⟨g, 2, none⟩ (.slice xo xk xc)).setCell ⟨g, 3, none⟩ (.int .i64 xe)).alloc (.cells #[.bool yb, .bool yn, .slice yo yk yc, .int .i64 ye] 39)) g xb xn xo xk xc xe ∧ DBox (((((w.setCell ⟨g, 0, none⟩ (.bool xb)).setCell ⟨g, 1, none⟩ (.bool xn)).setCell ⟨g, 2, none⟩ (.slice xo xk xc)).setCell ⟨g, 3, none⟩ (.int .i64 xe)).alloc (.cells #[.bool yb, .bool yn, .slice yo yk yc, .int .i64 ye] 39)) w.heap.size yb yn yo yk yc ye ∧ DSt W (((((w.setCell ⟨g, 0, none⟩ (.bool xb)).setCell ⟨g, 1, none⟩ (.bool xn)).setCell ⟨g, 2, none⟩ (.slice xo xk xc)).setCell ⟨g, 3, none⟩ (.int .i64 xe)).alloc (.cells #[.bool yb, .bool yn, .slice yo yk yc, .int .i64 ye] 39)) L :=
  ⟨(hx.stored xb xn xo xk xc xe).ext (ext_alloc _ _), dbox_new_set _ _ _ _ _ _ yb yn yo yk yc ye, (h.stored hx hg xb xn xo xk xc xe).alloc _⟩
end Go.Proofs.YtjohpdobnedilaaGreatDoor

/- Raw dyads at hand: two copies that a statement stores into variables of its own. -/
namespace Go.Proofs.YtjohpdobnedilaaGreatDoor
open Go.RowKit

/-- a raw dyad at hand: its value, its flags, its limbs, its exponent -/
structure ZEnt where
  v : Value
  bb : Bool
  nb : Bool
  zs : List Int
  f : Int
def ZEnt.Ok (w : World) (p : ZEnt) : Prop := ∃ ao n ca, p.v = .agg #[.bool p.bb, .bool p.nb, .slice ao n ca, .int .i64 p.f] ∧ Sl w ao n ca p.zs
theorem ZEnt.Ok.ext {w w' : World} {p : ZEnt} (h : p.Ok w) (he : Ext w w') : p.Ok w' := by
  obtain ⟨ao, n, ca, h1, h2⟩ := h
  exact ⟨ao, n, ca, h1, h2.below he⟩
theorem ZEnt.Ok.only_dbox {w w' : World} {p : ZEnt} {g : Nat} {bb nb : Bool} {ao : Option Addr} {n ca : Nat} {f : Int} (h : p.Ok w) (hb : DBox w g bb nb ao n ca f) (ho : Only g w w') : p.Ok w' := by
  obtain ⟨ao, n, ca, h1, h2⟩ := h
  exact ⟨ao, n, ca, h1, h2.only_dbox hb ho⟩
theorem ZEnt.Ok.parts {w : World} {v : Value} {bb nb : Bool} {zs : List Int} {f : Int} (h : ZEnt.Ok w ⟨v, bb, nb, zs, f⟩) : ∃ ao n ca, v = .agg #[.bool bb, .bool nb, .slice ao n ca, .int .i64 f] ∧ Sl w ao n ca zs := h
structure ZSt (W w : World) (L : List ZEnt) : Prop where
  ext : Ext W w
  bag : ∀ p ∈ L, p.Ok w
theorem ZSt.step {W w w' : World} {L : List ZEnt} (h : ZSt W w L) (he : Ext w w') : ZSt W w' L := ⟨h.ext.trans he, fun p hp => (h.bag p hp).ext he⟩
theorem ZSt.self {W w : World} {L : List ZEnt} (h : ZSt W w L) : ZSt w w L := ⟨Ext.refl w, h.bag⟩
theorem ZSt.drew {W w : World} {L : List ZEnt} (h : ZSt W w L) : ZSt W w.drew L := h.step (Below.refl _ _).drew
theorem ZSt.alloc {W w : World} {L : List ZEnt} (h : ZSt W w L) (o : Obj) : ZSt W (w.alloc o) L := h.step ((Below.refl _ w).alloc (Nat.le_refl _) o)
theorem ZSt.stored {W w : World} {L : List ZEnt} {g : Nat} {bb nb : Bool} {ao : Option Addr} {n ca : Nat} {f : Int} (h : ZSt W w L) (hb : DBox w g bb nb ao n ca f) (hg : W.heap.size ≤ g) (xb xn : Bool) (xo : Option Addr) (xk xc : Nat) (xe : Int) :
    ZSt W ((((w.setCell ⟨g, 0, none⟩ (.bool xb)).setCell ⟨g, 1, none⟩ (.bool xn)).setCell ⟨g, 2, none⟩ (.slice xo xk xc)).setCell ⟨g, 3, none⟩ (.int .i64 xe)) L :=
  ⟨Below.trans h.ext ((only_set4 w g _ _ _ _).below hg), fun p hp => (h.bag p hp).only_dbox hb (only_set4 w g _ _ _ _)⟩
theorem zpair_stored {W w : World} {L : List ZEnt} {g h : Nat} {xb xn yb yn : Bool} {xo yo : Option Addr} {xk xc yk yc : Nat} {xe ye : Int} {ab an bb bn : Bool} {ao bo : Option Addr} {ak ac bk bc : Nat} {ae be : Int}
    (hg : DBox w g ab an ao ak ac ae) (hh : DBox w h bb bn bo bk bc be) (hne : g ≠ h) (hst : ZSt W w L) (h1 : W.heap.size ≤ g) (h2 : W.heap.size ≤ h) :
    DBox ((((((((w.setCell ⟨g, 0, none⟩ (.bool xb)).setCell ⟨g, 1, none⟩ (.bool xn)).setCell ⟨g, 2, none⟩ (.slice xo xk xc)).setCell ⟨g, 3, none⟩ (.int .i64 xe)).setCell ⟨h, 0, none⟩ (.bool yb)).setCell ⟨h, 1, none⟩ (.bool yn)).setCell ⟨h, 2, none⟩ (.slice yo yk yc)).setCell ⟨h, 3, none⟩ (.int .i64 ye)) g xb xn xo xk xc xe ∧
    DBox ((((((((w.setCell ⟨g, 0, none⟩ (.bool xb)).setCell ⟨g, 1, none⟩ (.bool xn)).setCell ⟨g, 2, none⟩ (.slice xo xk xc)).setCell ⟨g, 3, none⟩ (.int .i64 xe)).setCell ⟨h, 0, none⟩ (.bool yb)).setCell ⟨h, 1, none⟩ (.bool yn)).setCell ⟨h, 2, none⟩ (.slice yo yk yc)).setCell ⟨h, 3, none⟩ (.int .i64 ye)) h yb yn yo yk yc ye ∧
    ZSt W ((((((((w.setCell ⟨g, 0, none⟩ (.bool xb)).setCell ⟨g, 1, none⟩ (.bool xn)).setCell ⟨g, 2, none⟩ (.slice xo xk xc)).setCell ⟨g, 3, none⟩ (.int .i64 xe)).setCell ⟨h, 0, none⟩ (.bool yb)).setCell ⟨h, 1, none⟩ (.bool yn)).setCell ⟨h, 2, none⟩ (.slice yo yk yc)).setCell ⟨h, 3, none⟩ (.int .i64 ye)) L := by
  have a := hg.stored xb xn xo xk xc xe
  have b := hh.only (only_set4 w g (.bool xb) (.bool xn) (.slice xo xk xc) (.int .i64 xe)) (Ne.symm hne)
  have s := hst.stored hg h1 xb xn xo xk xc xe
  exact ⟨a.only (only_set4 _ h _ _ _ _) hne, b.stored yb yn yo yk yc ye, s.stored b h2 yb yn yo yk yc ye⟩

theorem zfin_new {W w : World} {L : List ZEnt} {xb xn yb yn : Bool} {xo yo : Option Addr} {xk xc yk yc : Nat} {xe ye : Int} (h : ZSt W w L) :
    DBox ((w.alloc (.cells #[.bool xb, .bool xn, .slice xo xk xc, .int .i64 xe] 39)).alloc (.cells #[.bool yb, .bool yn, .slice yo yk yc, .int .i64 ye] 39)) w.heap.size xb xn xo xk xc xe ∧ DBox ((w.alloc (.cells #[.bool xb, .bool xn, .slice xo xk xc, .int .i64 xe] 39)).alloc (.cells #[.bool yb, .bool yn, .slice yo yk yc, .int .i64 ye] 39)) (w.heap.size + 1) yb yn yo yk yc ye ∧ ZSt W ((w.alloc (.cells #[.bool xb, .bool xn, .slice xo xk xc, .int .i64 xe] 39)).alloc (.cells #[.bool yb, .bool yn, .slice yo yk yc, .int .i64 ye] 39)) L :=
  ⟨(DBox.new w xb xn xo xk xc xe).ext (ext_alloc _ _), dbox_new1v _ _ yb yn yo yk yc ye, (h.alloc _).alloc _⟩
theorem zfin_mix {W w : World} {L : List ZEnt} {g : Nat} {xb xn yb yn : Bool} {xo yo : Option Addr} {xk xc yk yc : Nat} {xe ye : Int} {ab an : Bool} {ao : Option Addr} {ak ac : Nat} {ae : Int} (h : ZSt W w L) (hx : DBox w g ab an ao ak ac ae) (hg : W.heap.size ≤ g) :
    DBox (((((w.setCell ⟨g, 0, none⟩ (.bool xb)).setCell ⟨g, 1, none⟩ (.bool xn)).setCell ⟨g, 2, none⟩ (.slice xo xk xc)).setCell ⟨g, 3, none⟩ (.int .i64 xe)).alloc (.cells #[.bool yb, .bool yn, .slice yo yk yc, .int .i64 ye] 39)) g xb xn xo xk xc xe ∧ DBox (((((w.setCell ⟨g, 0, none⟩ (.bool xb)).setCell ⟨g, 1, none⟩ (.bool xn)).setCell ⟨g, 2, none⟩ (.slice xo xk xc)).setCell ⟨g, 3, none⟩ (.int .i64 xe)).alloc (.cells #[.bool yb, .bool yn, .slice yo yk yc, .int .i64 ye] 39)) w.heap.size yb yn yo yk yc ye ∧ ZSt W (((((w.setCell ⟨g, 0, none⟩ (.bool xb)).setCell ⟨g, 1, none⟩ (.bool xn)).setCell ⟨g, 2, none⟩ (.slice xo xk xc)).setCell ⟨g, 3, none⟩ (.int .i64 xe)).alloc (.cells #[.bool yb, .bool yn, .slice yo yk yc, .int .i64 ye] 39)) L :=
  ⟨(hx.stored xb xn xo xk xc xe).ext (ext_alloc _ _), dbox_new_set _ _ _ _ _ _ yb yn yo yk yc ye, (h.stored hx hg xb xn xo xk xc xe).alloc _⟩

set_option maxRecDepth 100000 in
set_option maxHeartbeats 2000000 in
/-- the same parts -/
theorem kitDyad_raw (ub un : Bool) (uo vo : Option Addr) (uk uc vk vc : Nat) (uf : Int) (zs : List Int) (w : World) (hu : Sl w uo uk uc zs) (hv : Sl w vo vk vc zs) :
    Calls Tryz.prog 24 #[.agg #[.bool ub, .bool un, .slice uo uk uc, .int .i64 uf], .agg #[.bool ub, .bool un, .slice vo vk vc, .int .i64 uf]] w fun e w' => e = .returned (.bool true) ∧ Ext w w' := by
  go_enter Tryz.func24, Tryz.ntmps24
  go_upto_region 1 with fail
  obtain ⟨W, hW, hB, hbx, hby, hz⟩ := boxes_two_d w ub un uo uk uc uf ub un vo vk vc uf
  rw [← hW]
  clear hW
  have hu := hu.below hB
  have hv := hv.below hB
  have HB := Lib.hid (show Ext w W from hB)
  clear hB
  generalize w.heap.size = B at *
  have k0 := hbx.c0
  have k1 := hbx.c1
  have k2 := hbx.c2
  have k3 := hbx.c3
  have l0 := hby.c0
  have l1 := hby.c1
  have l2 := hby.c2
  have l3 := hby.c3
  go_wp2_with fail
  refine (big_same un un uo uk uc vo vk vc zs _ rfl hu hv).mono ?_
  rintro e w1 ⟨rfl, hw1⟩
  go_wp2
  go_ret
  exact ⟨rfl, HB.out.trans hw1⟩
theorem zkit_bag {W w : World} {L : List ZEnt} {u v : Value} {bb nb : Bool} {zs : List Int} {f : Int} (h : ZSt W w L) (h1 : ⟨u, bb, nb, zs, f⟩ ∈ L) (h2 : ⟨v, bb, nb, zs, f⟩ ∈ L) :
    Calls Tryz.prog 24 #[u, v] w fun e w' => e = .returned (.bool true) ∧ ZSt W w' L := by
  obtain ⟨ao, n, ca, rfl, hs⟩ := (h.bag _ h1).parts
  obtain ⟨bo, m, cb, rfl, hu⟩ := (h.bag _ h2).parts
  exact (kitDyad_raw bb nb ao bo n ca m cb f zs w hs hu).mono fun e w' ⟨he, hw⟩ => ⟨he, h.step hw⟩
end Go.Proofs.YtjohpdobnedilaaGreatDoor
