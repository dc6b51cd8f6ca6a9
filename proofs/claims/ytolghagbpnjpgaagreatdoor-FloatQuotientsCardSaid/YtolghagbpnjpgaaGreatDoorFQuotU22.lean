import Derived.Test.YtolghagbpnjpgaaGreatDoorFQuotU21
import Derived.Test.YtolghagbpnjpgaaGreatDoorFQuotU18
import Derived.Test.YtolghagbpnjpgaaGreatDoorFQuotU13
import Derived.Test.YtolghagbpnjpgaaGreatDoorFQuotU19
import Derived.Test.YtolghagbpnjpgaaGreatDoorFQuotU20
import Derived.WalkKit
import Derived.WalkSmall
import Derived.Lib.Hide
namespace Go.Proofs.YtolghagbpnjpgaaGreatDoor
open Go.RowKit

/-- the value v reads as the dyad d, normalized or not -/
def Dg (w : World) (v : Value) (d : Dy) : Prop :=
  ∃ bb nb ao n ca x f, v = .agg #[.bool bb, .bool nb, .slice ao n ca, .int .i64 f] ∧ Bg w nb ao n ca x ∧ -9223372036854775808 ≤ f ∧ f ≤ 9223372036854775807 ∧ d = if bb then none else dmk x f

theorem Dg.ext {w w' : World} {v : Value} {d : Dy} (h : Dg w v d) (he : Ext w w') : Dg w' v d := by
  obtain ⟨bb, nb, ao, n, ca, x, f, h1, h2, h3⟩ := h
  exact ⟨bb, nb, ao, n, ca, x, f, h1, h2.below he, h3⟩

theorem nd_blen {d : Dy} (h : Nd d) : blen (dm d).natAbs ≤ 131072 ∧ -65536 ≤ dx d ∧ dx d ≤ 65536 := by
  cases d with
  | none => simp [dm, dx, blen]
  | some p =>
    obtain ⟨m, e⟩ := p
    show blen m.natAbs ≤ 131072 ∧ -65536 ≤ e ∧ e ≤ 65536
    rcases h with ⟨rfl, rfl⟩ | ⟨h1, h2, h3⟩
    · simp [blen]
    · omega

theorem blen_lt (a : Nat) : a < 2 ^ blen a := by
  by_cases h : a = 0
  · subst h; simp [blen]
  · obtain ⟨l, h1, _, h3⟩ := blen_spec h
    rw [h1]; exact h3

theorem limbs_of_blen {a k : Nat} (h : blen a ≤ 32 * k) : (limbs a).length ≤ k := by
  rw [limbs_len_le]
  exact Nat.lt_of_lt_of_le (blen_lt a) (pow_limbs h)

theorem Dn.dg {w : World} {v : Value} {d : Dy} (h : Dn w v d) : Dg w v d := by
  obtain ⟨h0, nb, ao, n, ca, h1, h2⟩ := h
  obtain ⟨hb, he0, he1⟩ := nd_blen h0
  have hl : n ≤ 4096 := by
    rw [← h2.sl.len]
    exact limbs_of_blen (by omega)
  refine ⟨_, nb, ao, n, ca, _, _, h1, h2.bg (by omega), by omega, by omega, ?_⟩
  cases d with
  | none => rfl
  | some p => exact (dmk_norm h0).symm

set_option maxRecDepth 100000 in
set_option maxHeartbeats 2000000 in
theorem dmake_any (nb : Bool) (ao : Option Addr) (n ca : Nat) (x f : Int) (w : World) (h : Bg w nb ao n ca x) (hf0 : -9223372036854775808 ≤ f) (hf1 : f ≤ 9223372036854775807) (hT : Table w) :
    Calls Tryz.prog 146 #[.agg #[.bool nb, .slice ao n ca], .int .i64 f] w fun e w' => ∃ v, e = .returned v ∧ Dn w' v (dmk x f) ∧ Ext w w' := by
  go_enter Tryz.func146, Tryz.ntmps146
  go_upto_region 1 with fail
  obtain ⟨W, hW, hB, hbx, hrx, hz⟩ := boxes_bd w nb ao n ca
  rw [← hW]
  clear hW
  have h := h.below hB
  have HT := Lib.hid (hT.below hB)
  generalize hBe : w.heap.size = B at *
  have HBe := Lib.hid hBe; clear hBe hT
  have k0 := hbx.c0
  have k1 := hbx.c1
  go_wp2_with fail
  refine (dreduce_any _ _ _ _ _ _ _ h hf0 hf1 HT.out).mono ?_
  rintro e w1 ⟨r, rfl, hr, hw1⟩
  have c1 := hrx.below hw1
  obtain ⟨hB1, hB1'⟩ := bnext hB (by omega) hw1
  obtain ⟨hnd, mb, bo, m, cb, rfl, hbn⟩ := hr
  have hbs : m ≤ 4096 := by
    rw [← hbn.sl.len]
    exact limbs_of_blen (by have := nd_blen hnd; omega)
  generalize hi : (dmk x f).isNone = i at *
  generalize hj : dx (dmk x f) = j at *
  clear k0 k1 hbx hrx
  go_upto_region 2 with fail
  obtain ⟨V, hV, hv, e1, hz2⟩ := dbox_new w1 i mb bo m cb j
  rw [← hV]
  clear hV
  have c2 := c1.below hv
  have hbn := hbn.below hv
  obtain ⟨hB2, hB2'⟩ := bnext hB1 (by omega) hv
  have hg := c1.lt
  have hw1s := hw1.size
  clear c1 hw1 hv
  generalize w1.heap.size = D at *
  have k0 := e1.c0
  have k1 := e1.c1
  have k2 := e1.c2
  have k3 := e1.c3
  go_wp2_with fail
  refine (norm_any _ _ _ _ _ _ (hbn.bg (by omega))).mono ?_
  rintro e w3 ⟨nr, ro, l, cr, rfl, hr, hw3⟩
  have c3 := c2.below hw3
  have e3 := e1.below hw3
  obtain ⟨hB3, hB3'⟩ := bnext hB2 (by omega) hw3
  clear k0 k1 k2 k3 hw3
  have k0 := e3.c0
  have k1 := e3.c1
  have k2 := e3.c2
  have k3 := e3.f 1
  have k4 := e3.f 2
  go_upto_region 3 with fail
  have ho := only_set12 w3 D (.bool nr) (.slice ro l cr)
  have e4 := e3.stored12 nr ro l cr
  have c4 := c3.only ho (by omega)
  have hr4 := hr.only_dbox e3 ho
  have hB4 := hB3.trans (ho.below (B := B) (by omega))
  have hdn : Dn _ (.agg #[.bool i, .bool nr, .slice ro l cr, .int .i64 j]) (dmk x f) := ⟨hnd, nr, ro, l, cr, by rw [hi, hj], hr4⟩
  generalize (w3.setCell ⟨D, 1, none⟩ (.bool nr)).setCell ⟨D, 2, none⟩ (.slice ro l cr) = w4 at *
  have HJ := Lib.hid hj; clear hj
  have HI := Lib.hid hi; clear hi
  clear k0 k1 k2 k3 k4 c3 e3 hr ho
  have k0 := e4.c0
  have k1 := e4.c1
  have k2 := e4.c2
  have k3 := e4.c3
  have q0 := c4.c0
  have q1 := c4.c1
  have q2 := c4.c2
  have q3 := c4.c3
  have f0 := c4.f 0
  have f1 := c4.f 1
  have f2 := c4.f 2
  have f3 := c4.f 3
  have hres := dn_stored c4 hdn w hB4 (Nat.le_succ B)
  have z3 := c4.stored i nr ro l cr j
  have z0 := z3.c0
  have z1 := z3.c1
  have z2 := z3.c2
  have z4 := z3.c3
  have HRES := Lib.hid hres; clear hres z3
  go_wp2
  refine bodyPost_ret (v := .agg #[.bool i, .bool nr, .slice ro l cr, .int .i64 j]) (by simp [results, Tryz.results146, go_sem, z0, z1, z2, z4]) rfl ⟨_, rfl, ?_, ?_⟩
  · exact HRES.out.1
  · show Below _ _ _; rw [HBe.out]; exact HRES.out.2

set_option maxRecDepth 100000 in
set_option maxHeartbeats 2000000 in
theorem dnorm_any (v : Value) (d : Dy) (w : World) (h : Dg w v d) (hT : Table w) :
    Calls Tryz.prog 82 #[v] w fun e w' => ∃ r, e = .returned r ∧ Dn w' r d ∧ Ext w w' := by
  obtain ⟨bb, nb, ao, n, ca, x, f, rfl, h, hf0, hf1, hd⟩ := h
  have HD := Lib.hid hd; clear hd
  go_enter Tryz.func82, Tryz.ntmps82
  go_upto_region 1 with fail
  obtain ⟨W, hW, hB, hbx, hrx, hz⟩ := boxes_dd w bb nb ao n ca f
  rw [← hW]
  clear hW
  have h := h.below hB
  have HT := Lib.hid (hT.below hB)
  generalize hBe : w.heap.size = B at *
  have HBe := Lib.hid hBe; clear hBe hT
  have k0 := hbx.c0
  have k1 := hbx.c1
  have k2 := hbx.c2
  have k3 := hbx.c3
  cases bb with
  | true =>
    go_wp2_with fail
    refine (bad_any _).mono ?_
    rintro e w1 ⟨rfl, hw1⟩
    have c1 := hrx.below hw1
    obtain ⟨hB1, hB1'⟩ := bnext hB (by omega) hw1
    have q0 := c1.c0
    have q1 := c1.c1
    have q2 := c1.c2
    have q3 := c1.c3
    have f0 := c1.f 0
    have f1 := c1.f 1
    have f2 := c1.f 2
    have f3 := c1.f 3
    have hres := dn_stored c1 (dn_bad w1) w hB1 (Nat.le_succ B)
    have z3 := c1.stored true false none 0 0 0
    have z0 := z3.c0
    have z1 := z3.c1
    have z2 := z3.c2
    have z4 := z3.c3
    have HRES := Lib.hid hres; clear hres z3
    go_wp2
    refine bodyPost_ret (v := .agg #[.bool true, .bool false, .slice none 0 0, .int .i64 0]) (by simp [results, Tryz.results82, go_sem, z0, z1, z2, z4]) rfl ⟨_, rfl, ?_, ?_⟩
    · rw [HD.out]; exact HRES.out.1
    · show Below _ _ _; rw [HBe.out]; exact HRES.out.2
  | false =>
    go_wp2_with fail
    refine (dmake_any _ _ _ _ _ _ _ h hf0 hf1 HT.out).mono ?_
    rintro e w1 ⟨r, rfl, hr, hw1⟩
    have c1 := hrx.below hw1
    obtain ⟨hB1, hB1'⟩ := bnext hB (by omega) hw1
    obtain ⟨_, mb, bo, m, cb, rfl, _⟩ := id hr
    generalize (dmk x f).isNone = i at *
    generalize dx (dmk x f) = j at *
    have HR := Lib.hid hr; clear hr
    clear k0 k1 k2 k3
    have q0 := c1.c0
    have q1 := c1.c1
    have q2 := c1.c2
    have q3 := c1.c3
    have f0 := c1.f 0
    have f1 := c1.f 1
    have f2 := c1.f 2
    have f3 := c1.f 3
    have hres := dn_stored c1 HR.out w hB1 (Nat.le_succ B)
    have z3 := c1.stored i mb bo m cb j
    have z0 := z3.c0
    have z1 := z3.c1
    have z2 := z3.c2
    have z4 := z3.c3
    have HRES := Lib.hid hres; clear hres z3
    go_wp2
    refine bodyPost_ret (v := .agg #[.bool i, .bool mb, .slice bo m cb, .int .i64 j]) (by simp [results, Tryz.results82, go_sem, z0, z1, z2, z4]) rfl ⟨_, rfl, ?_, ?_⟩
    · rw [HD.out]; exact HRES.out.1
    · show Below _ _ _; rw [HBe.out]; exact HRES.out.2

set_option maxRecDepth 100000 in
set_option maxHeartbeats 2000000 in
theorem dfromInt_any (f : Int) (w : World) (hf0 : -9223372036854775808 ≤ f) (hf1 : f ≤ 9223372036854775807) (hT : Table w) :
    Calls Tryz.prog 80 #[.int .i64 f] w fun e w' => ∃ r, e = .returned r ∧ Dn w' r (dmk f 0) ∧ Ext w w' := by
  go_enter Tryz.func80, Tryz.ntmps80
  go_upto_region 1 with fail
  obtain ⟨W, hW, hB, hrx, hz⟩ := dbox_new w false false none 0 0 0
  rw [← hW]
  clear hW
  have HT := Lib.hid (hT.below hB)
  generalize hBe : w.heap.size = B at *
  have HBe := Lib.hid hBe; clear hBe hT
  go_wp2_with fail
  refine (fromInt_any _ _ hf0 hf1).mono ?_
  rintro e w1 ⟨nr, ro, l, cr, rfl, hr, hw1⟩
  have hl : l ≤ 2 := by
    rw [← hr.sl.len]
    exact (limbs_len_le _ 2).2 (show f.natAbs < 4294967296 ^ 2 by omega)
  have c1 := hrx.below hw1
  have HT := Lib.hid (HT.out.below hw1)
  obtain ⟨hB1, hB1'⟩ := bnext hB (by omega) hw1
  go_wp2_with fail
  refine (dreduce_any _ _ _ _ _ _ _ (hr.bg (by omega)) (by omega) (by omega) HT.out).mono ?_
  rintro e w2 ⟨r, rfl, hr2, hw2⟩
  have c2 := c1.below hw2
  obtain ⟨hB2, hB2'⟩ := bnext hB1 hB1' hw2
  obtain ⟨_, mb, bo, m, cb, rfl, _⟩ := id hr2
  have HR := Lib.hid hr2; clear hr2
  generalize (dmk f 0).isNone = i at *
  generalize dx (dmk f 0) = j at *
  have q0 := c2.c0
  have q1 := c2.c1
  have q2 := c2.c2
  have q3 := c2.c3
  have f0 := c2.f 0
  have f1 := c2.f 1
  have f2 := c2.f 2
  have f3 := c2.f 3
  have hres := dn_stored c2 HR.out w hB2 (Nat.le_refl B)
  have z3 := c2.stored i mb bo m cb j
  have z0 := z3.c0
  have z1 := z3.c1
  have z2 := z3.c2
  have z4 := z3.c3
  have HRES := Lib.hid hres; clear hres z3
  go_wp2
  refine bodyPost_ret (v := .agg #[.bool i, .bool mb, .slice bo m cb, .int .i64 j]) (by simp [results, Tryz.results80, go_sem, z0, z1, z2, z4]) rfl ⟨_, rfl, ?_, ?_⟩
  · exact HRES.out.1
  · show Below _ _ _; rw [HBe.out]; exact HRES.out.2

end Go.Proofs.YtolghagbpnjpgaaGreatDoor

namespace Go.Proofs.YtolghagbpnjpgaaGreatDoor
open Go.RowKit

theorem bn_bg_of {w : World} {nb : Bool} {ao : Option Addr} {n ca : Nat} {x : Int} (h : Bn w nb ao n ca x) (hb : blen x.natAbs ≤ 1000000) : Bg w nb ao n ca x := by
  have hl : n ≤ 40000 := by rw [← h.sl.len]; exact limbs_of_blen (by omega)
  exact h.bg (by omega)

end Go.Proofs.YtolghagbpnjpgaaGreatDoor

namespace Go.Proofs.YtolghagbpnjpgaaGreatDoor
open Go.RowKit

theorem boxes_two_d (w : World) (bb nb : Bool) (ao : Option Addr) (n cap : Nat) (e : Int) (cb mb : Bool) (bo : Option Addr) (m cap' : Nat) (f : Int) :
    ∃ W, W = (w.alloc (.cells #[.bool bb, .bool nb, .slice ao n cap, .int .i64 e] 33)).alloc (.cells #[.bool cb, .bool mb, .slice bo m cap', .int .i64 f] 33) ∧ Below w.heap.size w W ∧
      DBox W w.heap.size bb nb ao n cap e ∧ DBox W (w.heap.size + 1) cb mb bo m cap' f ∧ w.heap.size + 2 ≤ W.heap.size := by
  refine ⟨_, rfl, ((Below.refl _ w).alloc (Nat.le_refl _) _).alloc (by simp) _, ?_, ?_, by simp⟩
  · exact (DBox.new w bb nb ao n cap e).below ((Below.refl _ _).alloc (Nat.le_refl _) _)
  · have := DBox.new (w.alloc (.cells #[.bool bb, .bool nb, .slice ao n cap, .int .i64 e] 33)) cb mb bo m cap' f
    simpa using this

theorem boxes_bb (w : World) (nb : Bool) (ao : Option Addr) (n ca : Nat) (mb : Bool) (bo : Option Addr) (m cb : Nat) :
    ∃ W, W = (w.alloc (.cells #[.bool nb, .slice ao n ca] 31)).alloc (.cells #[.bool mb, .slice bo m cb] 31) ∧ Below w.heap.size w W ∧ Box W w.heap.size nb ao n ca ∧ Box W (w.heap.size + 1) mb bo m cb := by
  refine ⟨_, rfl, ((Below.refl _ w).alloc (Nat.le_refl _) _).alloc (by simp) _, ?_, ?_⟩
  · exact (Box.new w nb ao n ca).below ((Below.refl _ _).alloc (Nat.le_refl _) _)
  · have := Box.new (w.alloc (.cells #[.bool nb, .slice ao n ca] 31)) mb bo m cb
    simpa using this

theorem dn_some {w : World} {bb nb : Bool} {ao : Option Addr} {n ca : Nat} {f : Int} {m e : Int} (h : Dn w (.agg #[.bool bb, .bool nb, .slice ao n ca, .int .i64 f]) (some (m, e))) : bb = false ∧ f = e ∧ Bn w nb ao n ca m := by
  obtain ⟨_, nb', ao', n', ca', h1, h2⟩ := h
  simp only [Value.agg.injEq, Array.mk.injEq, List.cons.injEq, Value.bool.injEq, Value.slice.injEq, Value.int.injEq, and_true, true_and] at h1
  obtain ⟨rfl, rfl, ⟨rfl, rfl, rfl⟩, rfl⟩ := h1
  exact ⟨rfl, rfl, h2⟩
theorem dn_none {w : World} {bb nb : Bool} {ao : Option Addr} {n ca : Nat} {f : Int} (h : Dn w (.agg #[.bool bb, .bool nb, .slice ao n ca, .int .i64 f]) none) : bb = true := by
  obtain ⟨_, nb', ao', n', ca', h1, h2⟩ := h
  simp only [Value.agg.injEq, Array.mk.injEq, List.cons.injEq, Value.bool.injEq, Value.slice.injEq, Value.int.injEq, and_true, true_and] at h1
  exact h1.1
theorem Dn.parts {w : World} {v : Value} {d : Dy} (h : Dn w v d) : ∃ bb nb ao n ca f, v = .agg #[.bool bb, .bool nb, .slice ao n ca, .int .i64 f] := by
  obtain ⟨_, nb', ao', n', ca', h1, h2⟩ := h
  exact ⟨_, _, _, _, _, _, h1⟩
theorem Dn.drew {w : World} {v : Value} {d : Dy} (h : Dn w v d) : Dn w.drew v d := h.ext (Below.refl _ _).drew
theorem Dg.drew {w : World} {v : Value} {d : Dy} (h : Dg w v d) : Dg w.drew v d := h.ext (Below.refl _ _).drew
theorem Table.drew {w : World} (h : Table w) : Table w.drew := h.below (Below.refl _ _).drew
theorem DBox.drew {w : World} {g : Nat} {bb nb : Bool} {ao : Option Addr} {n ca : Nat} {e : Int} (h : DBox w g bb nb ao n ca e) : DBox w.drew g bb nb ao n ca e := h

/-- two dyads stored in their places -/
theorem two_dyads {w w0 : World} {g h B : Nat} {bb nb cc mb xb xn yb yn : Bool} {ao bo xo yo : Option Addr} {n m ca cb xk xc yk yc : Nat} {e f xe ye : Int} {d d' : Dy} (hg : DBox w g bb nb ao n ca e) (hh : DBox w h cc mb bo m cb f) (hne : g ≠ h) (hBg : B ≤ g) (hBh : B ≤ h)
    (hx : Dn w (.agg #[.bool xb, .bool xn, .slice xo xk xc, .int .i64 xe]) d) (hy : Dn w (.agg #[.bool yb, .bool yn, .slice yo yk yc, .int .i64 ye]) d') (hb : Below B w0 w) :
    ∃ W, W = ((((((((w.setCell ⟨g, 0, none⟩ (.bool xb)).setCell ⟨g, 1, none⟩ (.bool xn)).setCell ⟨g, 2, none⟩ (.slice xo xk xc)).setCell ⟨g, 3, none⟩ (.int .i64 xe)).setCell ⟨h, 0, none⟩ (.bool yb)).setCell ⟨h, 1, none⟩ (.bool yn)).setCell ⟨h, 2, none⟩ (.slice yo yk yc)).setCell ⟨h, 3, none⟩ (.int .i64 ye)) ∧
      Dn W (.agg #[.bool xb, .bool xn, .slice xo xk xc, .int .i64 xe]) d ∧ Dn W (.agg #[.bool yb, .bool yn, .slice yo yk yc, .int .i64 ye]) d' ∧ Below B w0 W ∧
      DBox W g xb xn xo xk xc xe ∧ DBox W h yb yn yo yk yc ye ∧ (∀ k, k ≠ g → k ≠ h → W.heap[k]? = w.heap[k]?) ∧ W.heap.size = w.heap.size := by
  refine ⟨_, rfl, ?_⟩
  have o1 := only_set4 w g (.bool xb) (.bool xn) (.slice xo xk xc) (.int .i64 xe)
  have g1 := hg.stored xb xn xo xk xc xe
  have h1 := hh.only o1 hne.symm
  have x1 := hx.only_dbox hg o1
  have y1 := hy.only_dbox hg o1
  generalize (((w.setCell ⟨g, 0, none⟩ (.bool xb)).setCell ⟨g, 1, none⟩ (.bool xn)).setCell ⟨g, 2, none⟩ (.slice xo xk xc)).setCell ⟨g, 3, none⟩ (.int .i64 xe) = w1 at *
  have o2 := only_set4 w1 h (.bool yb) (.bool yn) (.slice yo yk yc) (.int .i64 ye)
  exact ⟨x1.only_dbox h1 o2, y1.only_dbox h1 o2, (hb.trans (o1.below hBg)).trans (o2.below hBh), g1.only o2 hne, h1.stored yb yn yo yk yc ye, fun k hk1 hk2 => by rw [o2.block k hk2, o1.block k hk1], by rw [o2.size, o1.size]⟩

theorem Dg.only_dbox {w w' : World} {g : Nat} {bb nb : Bool} {ao : Option Addr} {n cap : Nat} {f : Int} {v : Value} {d : Dy} (h : Dg w v d) (hx : DBox w g bb nb ao n cap f) (ho : Only g w w') : Dg w' v d := by
  obtain ⟨cc, mb, bo, m, cb, x, f', h1, h2, h3⟩ := h
  exact ⟨cc, mb, bo, m, cb, x, f', h1, h2.only_dbox hx ho, h3⟩
/-- the difference -/
def dsub (d d' : Dy) : Dy := dadd d (dneg d')

end Go.Proofs.YtolghagbpnjpgaaGreatDoor

namespace Go.Proofs.YtolghagbpnjpgaaGreatDoor
open Go.RowKit

theorem Dn.get {w : World} {bb nb : Bool} {ao : Option Addr} {n ca : Nat} {f : Int} {d : Dy} (h : Dn w (.agg #[.bool bb, .bool nb, .slice ao n ca, .int .i64 f]) d) : bb = d.isNone ∧ f = dx d ∧ Bn w nb ao n ca (dm d) := by
  obtain ⟨_, nb', ao', n', ca', h1, h2⟩ := h
  simp only [Value.agg.injEq, Array.mk.injEq, List.cons.injEq, Value.bool.injEq, Value.slice.injEq, Value.int.injEq, and_true, true_and] at h1
  obtain ⟨rfl, rfl, ⟨rfl, rfl, rfl⟩, rfl⟩ := h1
  exact ⟨rfl, rfl, h2⟩
theorem Dn.put {w : World} {bb nb : Bool} {ao : Option Addr} {n ca : Nat} {f : Int} {d : Dy} (h0 : Nd d) (h1 : bb = d.isNone) (h2 : f = dx d) (h3 : Bn w nb ao n ca (dm d)) : Dn w (.agg #[.bool bb, .bool nb, .slice ao n ca, .int .i64 f]) d :=
  ⟨h0, nb, ao, n, ca, by rw [h1, h2], h3⟩

end Go.Proofs.YtolghagbpnjpgaaGreatDoor

namespace Go.Proofs.YtolghagbpnjpgaaGreatDoor
open Go.RowKit

theorem fdivhalf_val : 0 + fla false (1 * 18446744073709551616 + 0) (-52 - 75 - (-51 - 75) - 64) false 2 = 4602678819172646912 := by decide +kernel

set_option maxRecDepth 100000 in
set_option maxHeartbeats 1000000 in
theorem fdiv_half (w : World) :
    Calls Tryz.prog 13 #[.int .u64 4607182418800017408, .int .u64 4611686018427387904, .int .i64 2] w fun r w' => r = .returned (.int .u64 4602678819172646912) ∧ Ext w w' := by
  have h1 := bits_xor_u64_nat 4607182418800017408 4611686018427387904 (by omega) (by omega)
  have hx : (4607182418800017408 : Nat) ^^^ 4611686018427387904 = 9218868437227405312 := by decide +kernel
  rw [hx, show ((4607182418800017408 : Nat) : Int) = 4607182418800017408 from rfl, show ((4611686018427387904 : Nat) : Int) = 4611686018427387904 from rfl, show ((9218868437227405312 : Nat) : Int) = 9218868437227405312 from rfl] at h1
  have CS := signOf_any 9218868437227405312 (by omega)
  rw [show sgz (fneg 9218868437227405312) = 0 by decide +kernel, show ((9218868437227405312 : Nat) : Int) = 9218868437227405312 from rfl, show ((0 : Nat) : Int) = 0 from rfl] at CS
  have NA := isNaN_any 4607182418800017408 (by omega)
  have NB := isNaN_any 4611686018427387904 (by omega)
  have IA := isInf_any 4607182418800017408 (by omega)
  have IB := isInf_any 4611686018427387904 (by omega)
  have ZA := isZero_any 4607182418800017408 (by omega)
  have ZB := isZero_any 4611686018427387904 (by omega)
  have SA := fsplit_any 4607182418800017408 (by omega)
  have SBB := fsplit_any 4611686018427387904 (by omega)
  rw [show nanB 4607182418800017408 = false by decide +kernel] at NA
  rw [show nanB 4611686018427387904 = false by decide +kernel] at NB
  rw [show infB 4607182418800017408 = false by decide +kernel] at IA
  rw [show infB 4611686018427387904 = false by decide +kernel] at IB
  rw [show zeroB 4607182418800017408 = false by decide +kernel] at ZA
  rw [show zeroB 4611686018427387904 = false by decide +kernel] at ZB
  rw [show sig 4607182418800017408 = 4503599627370496 by decide +kernel, show fsh 4607182418800017408 = 1022 by decide +kernel, show -1074 + ((1022 : Nat) : Int) = -52 by decide] at SA
  rw [show sig 4611686018427387904 = 4503599627370496 by decide +kernel, show fsh 4611686018427387904 = 1023 by decide +kernel, show -1074 + ((1023 : Nat) : Int) = -51 by decide] at SBB
  rw [show ((4607182418800017408 : Nat) : Int) = 4607182418800017408 from rfl] at NA IA ZA SA
  rw [show ((4611686018427387904 : Nat) : Int) = 4611686018427387904 from rfl] at NB IB ZB SBB
  rw [show ((4503599627370496 : Nat) : Int) = 4503599627370496 from rfl] at SA SBB
  have CQ := fquot_one (-52) (-51) (by omega) (by omega) (by omega) (by omega)
  have CR := fround_at 1 0 (-52 - 75 - (-51 - 75) - 64) false false 2 (by omega) (by omega) (by omega) (by simp) (by omega) (by omega) (z := 0) rfl 4602678819172646912 fdivhalf_val
  rw [show ((1 : Nat) : Int) = 1 from rfl, show ((0 : Nat) : Int) = 0 from rfl, show ((4602678819172646912 : Nat) : Int) = 4602678819172646912 from rfl] at CR
  have NA := Lib.hid NA; have NB := Lib.hid NB; have IA := Lib.hid IA; have IB := Lib.hid IB; have ZA := Lib.hid ZA; have ZB := Lib.hid ZB
  have SA := Lib.hid SA; have SBB := Lib.hid SBB; have CQ := Lib.hid CQ; have CR := Lib.hid CR; have CS := Lib.hid CS
  clear hx
  go_enter Tryz.func13, Tryz.ntmps13
  go_wp2_with (first | ((with_reducible refine (NA.out _).mono ?_); rintro r w1 ⟨rfl, rfl⟩) | ((with_reducible refine (NB.out _).mono ?_); rintro r w1 ⟨rfl, rfl⟩) | ((with_reducible refine (IA.out _).mono ?_); rintro r w1 ⟨rfl, rfl⟩) | ((with_reducible refine (IB.out _).mono ?_); rintro r w1 ⟨rfl, rfl⟩) | ((with_reducible refine (ZA.out _).mono ?_); rintro r w1 ⟨rfl, rfl⟩) | ((with_reducible refine (ZB.out _).mono ?_); rintro r w1 ⟨rfl, rfl⟩))
  refine (SA.out _).mono ?_
  rintro r w1 ⟨rfl, hE1⟩
  have E1 := Lib.hid hE1
  clear hE1
  go_wp2_with fail
  refine (SBB.out _).mono ?_
  rintro r w2 ⟨rfl, hE2⟩
  have E2 := Lib.hid (Ext.trans E1.out hE2)
  clear hE2
  go_wp2_with fail
  refine (CQ.out _).mono ?_
  rintro r w3 ⟨rfl, hE3⟩
  have E3 := Lib.hid (Ext.trans E2.out hE3)
  clear hE3
  go_wp2_with fail
  refine (CS.out _).mono ?_
  rintro r w4 ⟨rfl, rfl⟩
  go_wp2_with fail
  refine (CR.out _).mono ?_
  rintro r w5 ⟨rfl, hE4⟩
  go_wp2
  go_ret
  exact ⟨rfl, Ext.trans E3.out hE4⟩

set_option maxRecDepth 100000 in
set_option maxHeartbeats 2000000 in
theorem fleading_one (ao : Option Addr) (n ca : Nat) (w : World) (h : Sl w ao n ca [1]) :
    Calls Tryz.prog 84 #[.slice ao n ca, .int .i64 0] w fun r w' => r = .returned (.agg #[.int .u64 0, .int .u64 1, .int .i64 0, .bool false]) ∧ Ext w w' := by
  obtain rfl : 1 = n := h.len
  obtain ⟨bb, ob, rfl, hc⟩ := h.cells (by simp)
  have hcell : w.cell? ⟨bb, ob, none⟩ = some (.int .u32 1) := by have := hc 0 (by simp); simpa using this
  have hcap := h.cap
  have hbb0 := lt_of_cell hcell
  clear h hc
  go_enter Tryz.func84, Tryz.ntmps84
  go_upto_region 2 with fail
  obtain ⟨W, hW, hB, hr, hx, hz⟩ := boxes_nn w 0 0 0 false 0 0 0 false
  rw [← hW]
  clear hW
  have hcell := (show W.cell? ⟨bb, ob, none⟩ = some (.int .u32 1) by rw [hB.cell (p := ⟨bb, ob, none⟩) hbb0]; exact hcell)
  generalize hBe : w.heap.size = B at *
  have HBe := Lib.hid hBe
  clear hBe
  have o0 : bits BinOp.or IntKind.u64 0 0 = 0 := by decide
  have o1 : bits BinOp.or IntKind.u64 0 1 = 1 := by decide
  go_upto_region 3 with fail
  go_loopw [6] (fun rest wx => ((rest = .int .i64 1 ∧ NBox wx (B + 1) 0 0 0 false) ∨ (rest = .int .i64 0 ∧ NBox wx (B + 1) 0 1 0 false)) ∧ NBox wx B 0 0 0 false ∧ Below B w wx ∧ wx.cell? ⟨bb, ob, none⟩ = some (.int .u32 1)) (fun rest _ => (intOf rest).toNat)
  case atStart => exact ⟨Or.inl ⟨rfl, hx⟩, hr, hB, hcell⟩
  case round =>
    clear hx hr hB hcell
    obtain ⟨⟨rfl, hx⟩ | ⟨rfl, hx⟩, hr, hB, hcell⟩ := hrel
    · have c0 := hx.c0
      have c1 := hx.c1
      have c2 := hx.c2
      have c3 := hx.c3
      have g0 := hx.f 0
      have g1 := hx.f 1
      go_wp2
      go_region
      go_wp2
      go_roundw
      case rel =>
        have ho := only_set2 wr (B + 1) (.int .u64 0) (.int .u64 1)
        exact ⟨Or.inr ⟨rfl, (hx.stored01 0 1).drew⟩, hr.only ho.drew (by omega), hB.trans (ho.drew.below (B := B) (by omega)), (World.cell?_of_block (w := wr) (ho.drew.block bb (by omega))).trans hcell⟩
      case measure => simp [intOf] <;> omega
    · have c0 := hx.c0
      have c1 := hx.c1
      have c2 := hx.c2
      have c3 := hx.c3
      have g2 := hx.f 2
      go_upto_region 13 with fail
      have x1 := hx.stored2 0
      have r1 := hr.only (only_set1 wr (B + 1) 2 (.int .i64 0)) (by omega)
      have b1 := hB.trans ((only_set1 wr (B + 1) 2 (.int .i64 0)).below (B := B) (by omega))
      generalize wr.setCell ⟨B + 1, 2, none⟩ (.int .i64 0) = W3 at *
      clear c0 c1 c2 c3 g2 hx hr hB hcell
      have c0 := x1.c0
      have c1 := x1.c1
      have c2 := x1.c2
      have c3 := x1.c3
      have q0 := r1.c0
      have q1 := r1.c1
      have q2 := r1.c2
      have q3 := r1.c3
      have p0 := r1.f 0
      have p1 := r1.f 1
      have p2 := r1.f 2
      have p3 := r1.f 3
      have z := r1.stored 0 1 0 false
      have z0 := z.c0
      have z1 := z.c1
      have z2 := z.c2
      have z3 := z.c3
      have B1 := Lib.hid (b1.trans ((only_nset4 W3 B (.int .u64 0) (.int .u64 1) (.int .i64 0) (.bool false)).below (B := B) (Nat.le_refl _)))
      clear z x1 r1 b1
      go_wp2
      refine bodyPost_ret (v := .agg #[.int .u64 0, .int .u64 1, .int .i64 0, .bool false]) (by simp [results, Tryz.results84, go_sem, z0, z1, z2, z3]) rfl ⟨rfl, ?_⟩
      show Below _ _ _
      rw [HBe.out]
      exact B1.out

set_option maxRecDepth 100000 in
theorem signOfDyad_pos (bb : Bool) (ao : Option Addr) (n ca : Nat) (f : Int) (w : World) :
    Calls Tryz.prog 85 #[.agg #[.bool bb, .bool false, .slice ao n ca, .int .i64 f]] w fun e w' => e = .returned (.int .u64 0) ∧ Ext w w' := by
  go_enter Tryz.func85, Tryz.ntmps85
  go_upto_region 1 with fail
  obtain ⟨W, hW, hB, hx, hz⟩ := dbox_new w bb false ao n ca f
  rw [← hW]
  clear hW
  have HB := Lib.hid (show Ext w W from hB)
  clear hB
  generalize w.heap.size = B at *
  have c1 := hx.c1
  go_wp2
  go_ret
  exact ⟨rfl, HB.out⟩

theorem fone_val : 0 + fla false (0 * 18446744073709551616 + 1) 0 false 1 = 4607182418800017408 := by decide +kernel

set_option maxRecDepth 100000 in
set_option maxHeartbeats 4000000 in
theorem fround_one (v : Value) (w : World) (hv : Dn w v (some (1, 0))) (hT : Table w) :
    Calls Tryz.prog 21 #[v, .int .i64 1] w fun r w' => r = .returned (.int .u64 4607182418800017408) ∧ Ext w w' := by
  obtain ⟨vb, vn, vo, vk, vc, ve, rfl⟩ := hv.parts
  have HT := Lib.hid hT
  clear hT
  go_enter Tryz.func21, Tryz.ntmps21
  go_upto_region 1 with fail
  obtain ⟨W, hW, hB, hx, hz⟩ := dbox_new w vb vn vo vk vc ve
  rw [← hW]
  clear hW
  have hd := hv.dg.ext (show Ext w W from hB)
  have hTW := HT.out.below hB
  generalize hBe : w.heap.size = B at *
  have HBe := Lib.hid hBe
  clear hBe hv
  have c0 := hx.c0
  have c1 := hx.c1
  have c2 := hx.c2
  have c3 := hx.c3
  have HD := Lib.hid hd
  have HTW := Lib.hid hTW
  clear hd hTW
  go_wp2_with fail
  refine (dnorm_any _ _ _ HD.out HTW.out).mono ?_
  rintro r w1 ⟨v1, rfl, hd, hE⟩
  obtain ⟨nb, nn, no, nk, nc, ne, rfl⟩ := hd.parts
  obtain ⟨h1, h2, h3⟩ := hd.get
  obtain rfl : nb = false := h1
  obtain rfl : ne = 0 := h2
  have hbn : Bn w1 nn no nk nc 1 := h3
  have hnn : nn = false := by rw [hbn.neg]; rfl
  subst hnn
  have x1 := hx.below hE
  have b1 : Below B w w1 := hB.trans (Below.mono hE (by omega))
  clear c0 c1 c2 c3 hd hx hB hE
  have g0 := x1.f 0
  have g1 := x1.f 1
  have g2 := x1.f 2
  have g3 := x1.f 3
  have c0 := x1.c0
  have c1 := x1.c1
  have c2 := x1.c2
  have c3 := x1.c3
  go_upto_region 2 with fail
  have hsl := hbn.sl
  rw [show (1 : Int).natAbs = 1 from rfl, show limbs 1 = [1] by rw [limbs_pos (by omega)]; simp [limbs_zero]] at hsl
  have ho := only_set4 w1 B (.bool false) (.bool false) (.slice no nk nc) (.int .i64 0)
  have x2 := x1.stored false false no nk nc 0
  have s2 := hsl.only_dbox x1 ho
  have n2 := hbn.only_dbox x1 ho
  have b2 := b1.trans (ho.below (B := B) (Nat.le_refl _))
  generalize (((w1.setCell ⟨B, 0, none⟩ (.bool false)).setCell ⟨B, 1, none⟩ (.bool false)).setCell ⟨B, 2, none⟩ (.slice no nk nc)).setCell ⟨B, 3, none⟩ (.int .i64 0) = W2 at *
  clear c0 c1 c2 c3 g0 g1 g2 g3 x1 b1 ho hsl hbn
  have hnk : nk ≤ 1000000000 := by have := s2.len; simp at this; omega
  have CS := Lib.hid (fun wx (h : Ext W2 wx) => sign_any false no nk nc 1 wx ((n2.below h).bg hnk))
  have CL := Lib.hid (fun wx (h : Ext W2 wx) => fleading_one no nk nc wx (s2.below h))
  have CR := fround_at 0 1 0 false false 1 (by omega) (by omega) (by omega) (by simp) (by omega) (by omega) (z := 0) rfl 4607182418800017408 fone_val
  rw [show ((1 : Nat) : Int) = 1 from rfl, show ((0 : Nat) : Int) = 0 from rfl, show ((4607182418800017408 : Nat) : Int) = 4607182418800017408 from rfl] at CR
  have CR := Lib.hid CR
  have CG := Lib.hid (signOfDyad_pos false no nk nc 0)
  have hcells : ∀ wx, Ext W2 wx → (wx.cell? ⟨B, 0, none⟩ = some (.bool false) ∧ wx.cell? ⟨B, 1, none⟩ = some (.bool false) ∧ wx.cell? ⟨B, 2, none⟩ = some (.slice no nk nc) ∧ wx.cell? ⟨B, 3, none⟩ = some (.int .i64 0)) := fun wx h => ⟨(x2.ext h).c0, (x2.ext h).c1, (x2.ext h).c2, (x2.ext h).c3⟩
  have HC := Lib.hid hcells
  have B2 := Lib.hid (And.intro b2 x2.lt)
  clear hcells s2 n2 x2 b2 hnk
  obtain ⟨c0, c1, c2, c3⟩ := HC.out W2 (Ext.refl _)
  go_wp2_with fail
  refine (CS.out _ (Ext.refl _)).mono ?_
  rintro r w3 ⟨rfl, hE⟩
  have E3 : Ext W2 w3 := hE
  have v1 : sgn3 1 0 = 1 := by decide
  clear c0 c1 c2 c3 hE
  obtain ⟨c0, c1, c2, c3⟩ := HC.out w3 E3
  go_upto_region 6 with fail
  clear v1
  have e0 : Ext W2 w3.drew := Ext.trans E3 ((Below.refl _ _).drew)
  go_region_held3 (fun wx => wx.cell? ⟨B, 0, none⟩ = some (.bool false) ∧ wx.cell? ⟨B, 1, none⟩ = some (.bool false) ∧ wx.cell? ⟨B, 2, none⟩ = some (.slice no nk nc) ∧ wx.cell? ⟨B, 3, none⟩ = some (.int .i64 0))
    (first | exact HC.out _ (by assumption))
    (first
      | (go_at_call 84; refine (CL.out _ (by assumption)).mono ?_; rintro e wn ⟨rfl, hE1⟩; have e1 : Ext W2 wn := Ext.trans (by assumption) hE1)
      | (go_at_call 85; refine (CG.out _).mono ?_; rintro e wn ⟨rfl, hE1⟩; have e1 : Ext W2 wn := Ext.trans (by assumption) hE1)
      | (go_at_call 74; refine (CR.out _).mono ?_; rintro e wn ⟨rfl, hE1⟩; have e1 : Ext W2 wn := Ext.trans (by assumption) hE1))
  all_goals
    have EF : Ext W2 wn := by assumption
    go_wp2
    go_ret
    refine ⟨rfl, ?_⟩
    show Below _ _ _
    rw [HBe.out]
    exact B2.out.1.trans (Below.mono EF (by have := B2.out.2; omega))

set_option maxRecDepth 100000 in
set_option maxHeartbeats 4000000 in
theorem fawake_any (w : World) (hT : Table w) : Calls Tryz.prog 19 #[] w fun e w' => e = .returned (.bool true) ∧ Ext w w' := by
  have C1 := fadd_any 4607182418800017408 4607182418800017408 0 (by omega) (by omega)
  rw [show faddF 4607182418800017408 4607182418800017408 0 = 4611686018427387904 by decide +kernel, show ((4607182418800017408 : Nat) : Int) = 4607182418800017408 from rfl, show ((4611686018427387904 : Nat) : Int) = 4611686018427387904 from rfl] at C1
  have C2 := fmul_any 1 1 2 (by omega) (by omega)
  rw [show fmulF 1 1 2 = 1 by decide +kernel, show ((1 : Nat) : Int) = 1 from rfl] at C2
  have C3 := kind_any 9218868437227405312 (by omega)
  rw [show fkind 9218868437227405312 = 2 by decide +kernel, show ((9218868437227405312 : Nat) : Int) = 9218868437227405312 from rfl] at C3
  have C1 := Lib.hid C1
  have C2 := Lib.hid C2
  have C3 := Lib.hid C3
  have HT := Lib.hid hT
  clear hT
  go_enter Tryz.func19, Tryz.ntmps19
  go_wp2_with fail
  refine (C1.out _).mono ?_
  rintro r w1 ⟨rfl, hE1⟩
  have E1 := Lib.hid hE1
  clear hE1
  go_wp2_with fail
  refine (fdiv_half _).mono ?_
  rintro r w2 ⟨rfl, hE2⟩
  have E2 := Lib.hid (Ext.trans E1.out hE2)
  clear hE2
  go_wp2_with fail
  refine (dfromInt_any 1 _ (by omega) (by omega) (HT.out.below E2.out)).mono ?_
  rintro r w3 ⟨v, rfl, hv, hE3⟩
  rw [show dmk 1 0 = some (1, 0) from dmk_norm (Or.inr ⟨by decide, by decide, by decide⟩)] at hv
  have E3 := Lib.hid (Ext.trans E2.out hE3)
  have HV := Lib.hid hv
  clear hE3 hv
  go_wp2_with fail
  refine (fround_one v _ HV.out (HT.out.below E3.out)).mono ?_
  rintro r w4 ⟨rfl, hE4⟩
  have E4 := Lib.hid (Ext.trans E3.out hE4)
  clear hE4
  go_wp2_with fail
  refine (C3.out _).mono ?_
  rintro r w5 ⟨rfl, rfl⟩
  go_wp2_with fail
  refine (C2.out _).mono ?_
  rintro r w6 ⟨rfl, hE5⟩
  go_wp2
  go_ret
  exact ⟨rfl, Ext.trans E4.out hE5⟩
end Go.Proofs.YtolghagbpnjpgaaGreatDoor
