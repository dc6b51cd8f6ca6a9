import Derived.Test.YtapcecjbmcoliaaGreatDoorACauU23
import Derived.Test.YtapcecjbmcoliaaGreatDoorACauU20
namespace Go.Proofs.YtapcecjbmcoliaaGreatDoor
open Go.RowKit

theorem boxes_two_d (w : World) (bb nb : Bool) (ao : Option Addr) (n cap : Nat) (e : Int) (cb mb : Bool) (bo : Option Addr) (m cap' : Nat) (f : Int) :
    ∃ W, W = (w.alloc (.cells #[.bool bb, .bool nb, .slice ao n cap, .int .i64 e] 29)).alloc (.cells #[.bool cb, .bool mb, .slice bo m cap', .int .i64 f] 29) ∧ Below w.heap.size w W ∧
      DBox W w.heap.size bb nb ao n cap e ∧ DBox W (w.heap.size + 1) cb mb bo m cap' f ∧ w.heap.size + 2 ≤ W.heap.size := by
  refine ⟨_, rfl, ((Below.refl _ w).alloc (Nat.le_refl _) _).alloc (by simp) _, ?_, ?_, by simp⟩
  · exact (DBox.new w bb nb ao n cap e).below ((Below.refl _ _).alloc (Nat.le_refl _) _)
  · have := DBox.new (w.alloc (.cells #[.bool bb, .bool nb, .slice ao n cap, .int .i64 e] 29)) cb mb bo m cap' f
    simpa using this

theorem boxes_bb (w : World) (nb : Bool) (ao : Option Addr) (n ca : Nat) (mb : Bool) (bo : Option Addr) (m cb : Nat) :
    ∃ W, W = (w.alloc (.cells #[.bool nb, .slice ao n ca] 27)).alloc (.cells #[.bool mb, .slice bo m cb] 27) ∧ Below w.heap.size w W ∧ Box W w.heap.size nb ao n ca ∧ Box W (w.heap.size + 1) mb bo m cb := by
  refine ⟨_, rfl, ((Below.refl _ w).alloc (Nat.le_refl _) _).alloc (by simp) _, ?_, ?_⟩
  · exact (Box.new w nb ao n ca).below ((Below.refl _ _).alloc (Nat.le_refl _) _)
  · have := Box.new (w.alloc (.cells #[.bool nb, .slice ao n ca] 27)) mb bo m cb
    simpa using this

theorem dn_some {w : World} {bb nb : Bool} {ao : Option Addr} {n ca : Nat} {f : Int} {m e : Int} (h : Dn w (.agg #[.bool bb, .bool nb, .slice ao n ca, .int .i64 f]) (some (m, e))) : bb = false ∧ f = e ∧ Bn w nb ao n ca m := by
  obtain ⟨_, nb', ao', n', ca', h1, h2⟩ := h
  simp only [Value.agg.injEq, Array.mk.injEq, List.cons.injEq, Value.bool.injEq, Value.slice.injEq, Value.int.injEq, and_true, true_and] at h1
  obtain ⟨rfl, rfl, ⟨rfl, rfl, rfl⟩, rfl⟩ := h1
  exact ⟨rfl, rfl, h2⟩
theorem dn_none {w : World} {bb nb : Bool} {ao : Option Addr} {n ca : Nat} {f : Int} (h : Dn w (.agg #[.bool bb, .bool nb, .slice ao n ca, .int .i64 f]) none) : bb = true := by
  obtain ⟨_, nb', ao', n', ca', h1, h2⟩ := h
  simp only [Value.agg.injEq, Array.mk.injEq, List.cons.injEq, Value.bool.injEq, Value.slice.injEq, Value.int.injEq, and_true, true_and] at h1
  exact h1.1
theorem Dn.parts {w : World} {v : Value} {d : Dy} (h : Dn w v d) : ∃ bb nb ao n ca f, v = .agg #[.bool bb, .bool nb, .slice ao n ca, .int .i64 f] := by
  obtain ⟨_, nb', ao', n', ca', h1, h2⟩ := h
  exact ⟨_, _, _, _, _, _, h1⟩
theorem Dn.drew {w : World} {v : Value} {d : Dy} (h : Dn w v d) : Dn w.drew v d := h.ext (Below.refl _ _).drew
theorem Dg.drew {w : World} {v : Value} {d : Dy} (h : Dg w v d) : Dg w.drew v d := h.ext (Below.refl _ _).drew
theorem Table.drew {w : World} (h : Table w) : Table w.drew := h.below (Below.refl _ _).drew
theorem DBox.drew {w : World} {g : Nat} {bb nb : Bool} {ao : Option Addr} {n ca : Nat} {e : Int} (h : DBox w g bb nb ao n ca e) : DBox w.drew g bb nb ao n ca e := h

/-- two dyads stored in their places -/
theorem two_dyads {w w0 : World} {g h B : Nat} {bb nb cc mb xb xn yb yn : Bool} {ao bo xo yo : Option Addr} {n m ca cb xk xc yk yc : Nat} {e f xe ye : Int} {d d' : Dy} (hg : DBox w g bb nb ao n ca e) (hh : DBox w h cc mb bo m cb f) (hne : g ≠ h) (hBg : B ≤ g) (hBh : B ≤ h)
    (hx : Dn w (.agg #[.bool xb, .bool xn, .slice xo xk xc, .int .i64 xe]) d) (hy : Dn w (.agg #[.bool yb, .bool yn, .slice yo yk yc, .int .i64 ye]) d') (hb : Below B w0 w) :
    ∃ W, W = ((((((((w.setCell ⟨g, 0, none⟩ (.bool xb)).setCell ⟨g, 1, none⟩ (.bool xn)).setCell ⟨g, 2, none⟩ (.slice xo xk xc)).setCell ⟨g, 3, none⟩ (.int .i64 xe)).setCell ⟨h, 0, none⟩ (.bool yb)).setCell ⟨h, 1, none⟩ (.bool yn)).setCell ⟨h, 2, none⟩ (.slice yo yk yc)).setCell ⟨h, 3, none⟩ (.int .i64 ye)) ∧
      Dn W (.agg #[.bool xb, .bool xn, .slice xo xk xc, .int .i64 xe]) d ∧ Dn W (.agg #[.bool yb, .bool yn, .slice yo yk yc, .int .i64 ye]) d' ∧ Below B w0 W ∧
      DBox W g xb xn xo xk xc xe ∧ DBox W h yb yn yo yk yc ye ∧ (∀ k, k ≠ g → k ≠ h → W.heap[k]? = w.heap[k]?) ∧ W.heap.size = w.heap.size := by
  refine ⟨_, rfl, ?_⟩
  have o1 := only_set4 w g (.bool xb) (.bool xn) (.slice xo xk xc) (.int .i64 xe)
  have g1 := hg.stored xb xn xo xk xc xe
  have h1 := hh.only o1 hne.symm
  have x1 := hx.only_dbox hg o1
  have y1 := hy.only_dbox hg o1
  generalize (((w.setCell ⟨g, 0, none⟩ (.bool xb)).setCell ⟨g, 1, none⟩ (.bool xn)).setCell ⟨g, 2, none⟩ (.slice xo xk xc)).setCell ⟨g, 3, none⟩ (.int .i64 xe) = w1 at *
  have o2 := only_set4 w1 h (.bool yb) (.bool yn) (.slice yo yk yc) (.int .i64 ye)
  exact ⟨x1.only_dbox h1 o2, y1.only_dbox h1 o2, (hb.trans (o1.below hBg)).trans (o2.below hBh), g1.only o2 hne, h1.stored yb yn yo yk yc ye, fun k hk1 hk2 => by rw [o2.block k hk2, o1.block k hk1], by rw [o2.size, o1.size]⟩

theorem Dg.only_dbox {w w' : World} {g : Nat} {bb nb : Bool} {ao : Option Addr} {n cap : Nat} {f : Int} {v : Value} {d : Dy} (h : Dg w v d) (hx : DBox w g bb nb ao n cap f) (ho : Only g w w') : Dg w' v d := by
  obtain ⟨cc, mb, bo, m, cb, x, f', h1, h2, h3⟩ := h
  exact ⟨cc, mb, bo, m, cb, x, f', h1, h2.only_dbox hx ho, h3⟩
theorem dmk_neg (x e : Int) : dneg (dmk x e) = dmk (-x) e := by
  by_cases h : x = 0
  · subst h; simp [dmk, dneg]
  · unfold dmk
    rw [if_neg h, if_neg (show ¬ -x = 0 by omega), Int.natAbs_neg]
    obtain ⟨m, h1, h2, h3⟩ := odd_part h
    have e1 : -x / 2 ^ tzf x.natAbs = -m := by
      conv => lhs; lhs; rw [h1]
      rw [← Int.neg_mul, Int.mul_ediv_cancel _ (Int.ne_of_gt (two_pos _))]
    rw [e1, h3]
    split <;> rfl

theorem dadd_al {p q : Int × Int} {X Y E : Int} (h : Aligned (some p) (some q) X Y E) : dmk (X + Y) E = dadd (some p) (some q) := by
  obtain ⟨h0, h1, h2, h3, _⟩ := h
  show _ = dmk (sc (some p) + sc (some q)) (-65536)
  rw [h2, h3, ← Int.add_mul, dmk_shift]
  congr 1; omega

set_option maxRecDepth 100000 in
set_option maxHeartbeats 4000000 in
theorem dadd_any (u v : Value) (d d' : Dy) (w : World) (hu : Dg w u d) (hv : Dg w v d') (hT : Table w) :
    Calls Tryz.prog 37 #[u, v] w fun e w' => ∃ r, e = .returned r ∧ Dn w' r (dadd d d') ∧ Ext w w' := by
  have hu0 := hu
  have hv0 := hv
  obtain ⟨ub, un, uo, uk, uc, _, uf, rfl, -⟩ := hu0
  obtain ⟨vb, vn, vo, vk, vc, _, vf, rfl, -⟩ := hv0
  go_enter Tryz.func37, Tryz.ntmps37
  go_upto_region 1 with fail
  obtain ⟨W, hW, hB, hbx, hby, hrx, hz⟩ := boxes_ddd w ub un uo uk uc uf vb vn vo vk vc vf
  rw [← hW]
  clear hW
  have hu := hu.ext hB
  have hv := hv.ext hB
  have HT0 := Lib.hid hT
  have hT := hT.below hB
  generalize hBe : w.heap.size = B at *
  have HBe := Lib.hid hBe; clear hBe
  go_cut [] from 8 (fun wx => ∃ xb xn xo xk xc xe yb yn yo yk yc ye, Dn wx (.agg #[.bool xb, .bool xn, .slice xo xk xc, .int .i64 xe]) d ∧ Dn wx (.agg #[.bool yb, .bool yn, .slice yo yk yc, .int .i64 ye]) d' ∧
    DBox wx B xb xn xo xk xc xe ∧ DBox wx (B + 1) yb yn yo yk yc ye ∧ Below B w wx ∧ (∀ k, B + 1 < k → k < W.heap.size → wx.heap[k]? = W.heap[k]?) ∧ W.heap.size ≤ wx.heap.size)
  case first =>
    have k0 := hbx.c0
    have k1 := hbx.c1
    have k2 := hbx.c2
    have k3 := hbx.c3
    have l0 := hby.c0
    have l1 := hby.c1
    have l2 := hby.c2
    have l3 := hby.c3
    go_region_with (first
      | (go_at_call 21; refine (dnormal_any _ _ _ (by exact hu.ext (by exact (Below.refl _ _).drew)) (by exact hT.below (by exact (Below.refl _ _).drew))).mono ?_; rintro e w1 ⟨r1, rfl, hr1, hw1⟩; have ex1 : Ext W w1 := Ext.trans (by exact (Below.refl _ _).drew) hw1; obtain ⟨xb, xn, xo, xk, xc, xe, rfl⟩ := hr1.parts; have fb := hby.ext ex1; have h0 := fb.c0; have h1 := fb.c1; have h2 := fb.c2; have h3 := fb.c3)
      | (go_at_call 21; refine (dnormal_any _ _ _ (by exact hv.ext ex1) (by exact hT.below ex1)).mono ?_; rintro e w2 ⟨r2, rfl, hr2, hw2⟩; have ex2 : Ext W w2 := Ext.trans ex1 hw2; obtain ⟨yb, yn, yo, yk, yc, ye, rfl⟩ := hr2.parts; have hr1 := hr1.ext hw2; clear h0 h1 h2 h3; have fa := hbx.ext ex2; have fb := hby.ext ex2; have a0 := fa.c0; have a1 := fa.c1; have a2 := fa.c2; have a3 := fa.c3; have b0 := fb.c0; have b1 := fb.c1; have b2 := fb.c2; have b3 := fb.c3; have g0 := fa.f 0; have g1 := fa.f 1; have g2 := fa.f 2; have g3 := fa.f 3; have h0 := fb.f 0; have h1 := fb.f 1; have h2 := fb.f 2; have h3 := fb.f 3))
    all_goals
      go_wp2
      go_meet
    all_goals
      clear a0 a1 a2 a3 b0 b1 b2 b3 g0 g1 g2 g3 h0 h1 h2 h3 k0 k1 k2 k3 l0 l1 l2 l3
      obtain ⟨hB2, hB2'⟩ := bnext hB (by omega) ex2
      obtain ⟨Z, hZ, z1, z2, z3, z4, z5, z6, z7⟩ := two_dyads fa fb (by omega) (Nat.le_refl B) (Nat.le_succ B) hr1 hr2 hB2
      rw [← hZ]
      exact ⟨_, _, _, _, _, _, _, _, _, _, _, _, z1, z2, z4, z5, z3, fun k hk1 hk2 => by rw [z6 k (by omega) (by omega)]; exact Below.block ex2 k hk2, by rw [z7]; exact Below.size ex2⟩
  case rest =>
    obtain ⟨xb, xn, xo, xk, xc, xe, yb, yn, yo, yk, yc, ye, hx, hy, bx, bY, hB1, hkeep, hzc⟩ := hcut
    have hT1 := (show Table w from HT0.out).below (w' := wc) (by rw [HBe.out]; exact hB1)
    have hrx : DBox wc (B + 1 + 1) false false none 0 0 0 := by
      have := hrx
      unfold DBox at this ⊢
      rw [hkeep _ (by omega) (by omega)]; exact this
    have HT := Lib.hid hT1
    clear hT1 hbx hby hu hv hT hB hkeep
    have k0 := bx.c0
    have k1 := bx.c1
    have k2 := bx.c2
    have k3 := bx.c3
    have l0 := bY.c0
    have l1 := bY.c1
    have l2 := bY.c2
    have l3 := bY.c3
    cases d with
    | none =>
      obtain rfl := dn_none hx
      go_wp2_with fail
      refine (bad_any _).mono ?_
      rintro e w1 ⟨rfl, hw1⟩
      have c1 := hrx.below hw1
      obtain ⟨hB2, hB2'⟩ := bnext hB1 (by omega) hw1
      have q0 := c1.c0
      have q1 := c1.c1
      have q2 := c1.c2
      have q3 := c1.c3
      have f0 := c1.f 0
      have f1 := c1.f 1
      have f2 := c1.f 2
      have f3 := c1.f 3
      have hres := dn_stored c1 (dn_bad w1) w hB2 (by omega)
      have z3 := c1.stored true false none 0 0 0
      have z0 := z3.c0
      have z1 := z3.c1
      have z2 := z3.c2
      have z4 := z3.c3
      have HRES := Lib.hid hres; clear hres z3
      go_wp2
      refine bodyPost_ret (v := .agg #[.bool true, .bool false, .slice none 0 0, .int .i64 0]) (by simp [results, Tryz.results37, go_sem, z0, z1, z2, z4]) rfl ⟨_, rfl, ?_, ?_⟩
      · exact HRES.out.1
      · show Below _ _ _; rw [HBe.out]; exact HRES.out.2
    | some p =>
      obtain ⟨m, f⟩ := p
      obtain ⟨rfl, rfl, hm⟩ := dn_some hx
      cases d' with
      | none =>
        obtain rfl := dn_none hy
        go_wp2_with fail
        refine (bad_any _).mono ?_
        rintro e w1 ⟨rfl, hw1⟩
        have c1 := hrx.below hw1
        obtain ⟨hB2, hB2'⟩ := bnext hB1 (by omega) hw1
        have q0 := c1.c0
        have q1 := c1.c1
        have q2 := c1.c2
        have q3 := c1.c3
        have f0 := c1.f 0
        have f1 := c1.f 1
        have f2 := c1.f 2
        have f3 := c1.f 3
        have hres := dn_stored c1 (dn_bad w1) w hB2 (by omega)
        have z3 := c1.stored true false none 0 0 0
        have z0 := z3.c0
        have z1 := z3.c1
        have z2 := z3.c2
        have z4 := z3.c3
        have HRES := Lib.hid hres; clear hres z3
        go_wp2
        refine bodyPost_ret (v := .agg #[.bool true, .bool false, .slice none 0 0, .int .i64 0]) (by simp [results, Tryz.results37, go_sem, z0, z1, z2, z4]) rfl ⟨_, rfl, ?_, ?_⟩
        · exact HRES.out.1
        · show Below _ _ _; rw [HBe.out]; exact HRES.out.2
      | some q =>
        obtain ⟨m', f'⟩ := q
        obtain ⟨rfl, rfl, hm'⟩ := dn_some hy
        have hnx := hx.1
        have hny := hy.1
        clear hx hy
        go_wp2_with fail
        refine (aligned_any _ _ _ _ _ _ _ _ _ _ _ _ _ hm hm' hnx hny).mono ?_
        rintro e w1 ⟨an, ao', ak, ac, bn, bo', bk, bc, X, Y, E, rfl, hX, hY, hAl, hw1⟩
        have c1 := hrx.below hw1
        have HT := Lib.hid (HT.out.below hw1)
        obtain ⟨hB2, hB2'⟩ := bnext hB1 (by omega) hw1
        have hz1 := hw1.size
        have hE0 := hAl.1
        have hE1 := hAl.2.1
        have HAL := Lib.hid hAl
        clear k0 k1 k2 k3 l0 l1 l2 l3 hm hm' hnx hny hAl hrx hB1 bx bY hw1
        go_upto_region 5 with fail
        obtain ⟨V, hV, hv, e1, e2⟩ := boxes_bb w1 an ao' ak ac bn bo' bk bc
        rw [← hV]
        clear hV
        have hX := hX.below hv
        have hY := hY.below hv
        have c1 := c1.below hv
        have HT := Lib.hid (HT.out.below hv)
        obtain ⟨hB2, hB2'⟩ := bnext hB2 (by omega) hv
        have hz2 := hv.size
        have k0 := e1.c0
        have k1 := e1.c1
        have l0 := e2.c0
        have l1 := e2.c1
        clear hv
        generalize w1.heap.size = D at *
        go_wp2_with fail
        refine (add_any _ _ _ _ _ _ _ _ _ _ _ hX hY).mono ?_
        rintro e w2 ⟨nr, ro, l, cr, rfl, hr, hw2⟩
        have hr := bn_bg_of hr (by
          have a := blen_add X Y
          have b := HAL.out.2.2.2.2
          omega)
        have c1 := c1.below hw2
        have HT := Lib.hid (HT.out.below hw2)
        obtain ⟨hB3, hB3'⟩ := bnext hB2 (by omega) hw2
        have hz3 := hw2.size
        clear k0 k1 l0 l1 hw2
        go_wp2_with fail
        refine (dreduce_any _ _ _ _ _ _ _ hr (by omega) (by omega) HT.out).mono ?_
        rintro e w3 ⟨r, rfl, hr2, hw3⟩
        rw [dadd_al HAL.out] at hr2
        have c1 := c1.below hw3
        obtain ⟨hB4, hB4'⟩ := bnext hB3 (by omega) hw3
        obtain ⟨rb, rn, ro2, rk, rc, re, rfl⟩ := hr2.parts
        have q0 := c1.c0
        have q1 := c1.c1
        have q2 := c1.c2
        have q3 := c1.c3
        have f0 := c1.f 0
        have f1 := c1.f 1
        have f2 := c1.f 2
        have f3 := c1.f 3
        have hres := dn_stored c1 hr2 w hB4 (by omega)
        have z3 := c1.stored rb rn ro2 rk rc re
        have z0 := z3.c0
        have z1 := z3.c1
        have z2 := z3.c2
        have z4 := z3.c3
        have HRES := Lib.hid hres; clear hres z3
        go_wp2
        refine bodyPost_ret (v := .agg #[.bool rb, .bool rn, .slice ro2 rk rc, .int .i64 re]) (by simp [results, Tryz.results37, go_sem, z0, z1, z2, z4]) rfl ⟨_, rfl, ?_, ?_⟩
        · exact HRES.out.1
        · show Below _ _ _; rw [HBe.out]; exact HRES.out.2

theorem dg_neg {w : World} {bb nb : Bool} {ao : Option Addr} {n ca : Nat} {f : Int} {d : Dy} (h : Dg w (.agg #[.bool bb, .bool nb, .slice ao n ca, .int .i64 f]) d) : Dg w (.agg #[.bool bb, .bool (!nb), .slice ao n ca, .int .i64 f]) (dneg d) := by
  obtain ⟨cc, mb, bo, m, cb, x, f', h1, h2, h3, h4, h5⟩ := h
  simp only [Value.agg.injEq, Array.mk.injEq, List.cons.injEq, Value.bool.injEq, Value.slice.injEq, Value.int.injEq, and_true, true_and] at h1
  obtain ⟨rfl, rfl, ⟨rfl, rfl, rfl⟩, rfl⟩ := h1
  refine ⟨_, _, _, _, _, -x, _, rfl, h2.not, h3, h4, ?_⟩
  rw [h5]
  cases bb with
  | true => rfl
  | false => exact dmk_neg x f

/-- the difference -/
def dsub (d d' : Dy) : Dy := dadd d (dneg d')

set_option maxRecDepth 100000 in
set_option maxHeartbeats 4000000 in
theorem dsub_any (u v : Value) (d d' : Dy) (w : World) (hu : Dg w u d) (hv : Dg w v d') (hT : Table w) :
    Calls Tryz.prog 64 #[u, v] w fun e w' => ∃ r, e = .returned r ∧ Dn w' r (dsub d d') ∧ Ext w w' := by
  have hu0 := hu
  have hv0 := hv
  obtain ⟨ub, un, uo, uk, uc, _, uf, rfl, -⟩ := hu0
  obtain ⟨vb, vn, vo, vk, vc, _, vf, rfl, -⟩ := hv0
  go_enter Tryz.func64, Tryz.ntmps64
  go_upto_region 1 with fail
  obtain ⟨W, hW, hB, hbx, hby, hrx, hz⟩ := boxes_ddd w ub un uo uk uc uf vb vn vo vk vc vf
  rw [← hW]
  clear hW
  have hu := hu.ext hB
  have hv := dg_neg (hv.ext hB)
  generalize hBe : w.heap.size = B at *
  have HBe := Lib.hid hBe; clear hBe
  have l1 := hby.c1
  have g1 := hby.f 1
  go_upto_region 2 with fail
  have ho := only_set1 W (B + 1) 1 (.bool (!vn))
  have bx := hbx.only ho (by omega)
  have bY := hby.stored1 (!vn)
  have c1 := hrx.only ho (by omega)
  have hu1 := hu.only_dbox hby ho
  have hv1 := hv.only_dbox hby ho
  have hB1 := hB.trans (ho.below (B := B) (by omega))
  have hT1 := hT.below (by rw [HBe.out]; exact hB1)
  have hz1 : B + 3 ≤ (W.setCell ⟨B + 1, 1, none⟩ (.bool (!vn))).heap.size := by rw [ho.size]; exact hz
  clear hu hv hbx hby hrx hB l1 g1 hT ho
  generalize W.setCell ⟨B + 1, 1, none⟩ (.bool (!vn)) = W1 at *
  have k0 := bx.c0
  have k1 := bx.c1
  have k2 := bx.c2
  have k3 := bx.c3
  have l0 := bY.c0
  have l1 := bY.c1
  have l2 := bY.c2
  have l3 := bY.c3
  have HT := Lib.hid hT1; clear hT1
  go_wp2_with fail
  refine (dadd_any _ _ _ _ _ hu1 hv1 HT.out).mono ?_
  rintro e w3 ⟨r, rfl, hr2, hw3⟩
  have c1 := c1.below hw3
  obtain ⟨hB4, hB4'⟩ := bnext hB1 (by omega) hw3
  obtain ⟨rb, rn, ro2, rk, rc, re, rfl⟩ := hr2.parts
  have q0 := c1.c0
  have q1 := c1.c1
  have q2 := c1.c2
  have q3 := c1.c3
  have f0 := c1.f 0
  have f1 := c1.f 1
  have f2 := c1.f 2
  have f3 := c1.f 3
  have hres := dn_stored c1 hr2 w hB4 (by omega)
  have z3 := c1.stored rb rn ro2 rk rc re
  have z0 := z3.c0
  have z1 := z3.c1
  have z2 := z3.c2
  have z4 := z3.c3
  have HRES := Lib.hid hres; clear hres z3
  go_wp2
  refine bodyPost_ret (v := .agg #[.bool rb, .bool rn, .slice ro2 rk rc, .int .i64 re]) (by simp [results, Tryz.results64, go_sem, z0, z1, z2, z4]) rfl ⟨_, rfl, ?_, ?_⟩
  · exact HRES.out.1
  · show Below _ _ _; rw [HBe.out]; exact HRES.out.2
end Go.Proofs.YtapcecjbmcoliaaGreatDoor

namespace Go.Proofs.YtapcecjbmcoliaaGreatDoor
open Go.RowKit

theorem dm_abs (d : Dy) : dm (dabs d) = (dm d).natAbs ∧ dx (dabs d) = dx d ∧ (dabs d).isNone = d.isNone := by cases d <;> simp [dabs, dm, dx]
theorem Dn.get {w : World} {bb nb : Bool} {ao : Option Addr} {n ca : Nat} {f : Int} {d : Dy} (h : Dn w (.agg #[.bool bb, .bool nb, .slice ao n ca, .int .i64 f]) d) : bb = d.isNone ∧ f = dx d ∧ Bn w nb ao n ca (dm d) := by
  obtain ⟨_, nb', ao', n', ca', h1, h2⟩ := h
  simp only [Value.agg.injEq, Array.mk.injEq, List.cons.injEq, Value.bool.injEq, Value.slice.injEq, Value.int.injEq, and_true, true_and] at h1
  obtain ⟨rfl, rfl, ⟨rfl, rfl, rfl⟩, rfl⟩ := h1
  exact ⟨rfl, rfl, h2⟩
theorem Dn.put {w : World} {bb nb : Bool} {ao : Option Addr} {n ca : Nat} {f : Int} {d : Dy} (h0 : Nd d) (h1 : bb = d.isNone) (h2 : f = dx d) (h3 : Bn w nb ao n ca (dm d)) : Dn w (.agg #[.bool bb, .bool nb, .slice ao n ca, .int .i64 f]) d :=
  ⟨h0, nb, ao, n, ca, by rw [h1, h2], h3⟩

set_option maxRecDepth 100000 in
set_option maxHeartbeats 4000000 in
theorem dabs_any (u : Value) (d : Dy) (w : World) (hu : Dg w u d) (hT : Table w) :
    Calls Tryz.prog 11 #[u] w fun e w' => ∃ r, e = .returned r ∧ Dn w' r (dabs d) ∧ Ext w w' := by
  have hu0 := hu
  obtain ⟨ub, un, uo, uk, uc, _, uf, rfl, -⟩ := hu0
  go_enter Tryz.func11, Tryz.ntmps11
  go_upto_region 1 with fail
  obtain ⟨W, hW, hB, hbx, hrx, hz⟩ := boxes_dd w ub un uo uk uc uf
  rw [← hW]
  clear hW
  have hu := hu.ext hB
  have HT := Lib.hid (hT.below hB)
  generalize hBe : w.heap.size = B at *
  have HBe := Lib.hid hBe; clear hBe hT
  have k0 := hbx.c0
  have k1 := hbx.c1
  have k2 := hbx.c2
  have k3 := hbx.c3
  go_wp2_with fail
  refine (dnormal_any _ _ _ hu HT.out).mono ?_
  rintro e w1 ⟨r1, rfl, hr, hw1⟩
  have bx := hbx.below hw1
  have c1 := hrx.below hw1
  obtain ⟨hB1, hB1'⟩ := bnext hB (by omega) hw1
  have hz1 := hw1.size
  obtain ⟨xb, xn, xo, xk, xc, xe, rfl⟩ := hr.parts
  clear k0 k1 k2 k3 hbx hrx hB hw1 hu
  have k0 := bx.c0
  have k1 := bx.c1
  have k2 := bx.c2
  have k3 := bx.c3
  have f0 := bx.f 0
  have f1 := bx.f 1
  have f2 := bx.f 2
  have f3 := bx.f 3
  go_upto_region 2 with fail
  have ho := only_set4 w1 B (.bool xb) (.bool xn) (.slice xo xk xc) (.int .i64 xe)
  have hr := hr.only_dbox bx ho
  have bx := bx.stored xb xn xo xk xc xe
  have c1 := c1.only ho (by omega)
  have hB2 := hB1.trans (ho.below (B := B) (Nat.le_refl _))
  have hz2 := ho.size
  clear k0 k1 k2 k3 f0 f1 f2 f3 hB1 ho
  generalize (((w1.setCell ⟨B, 0, none⟩ (.bool xb)).setCell ⟨B, 1, none⟩ (.bool xn)).setCell ⟨B, 2, none⟩ (.slice xo xk xc)).setCell ⟨B, 3, none⟩ (.int .i64 xe) = w2 at *
  obtain ⟨g1, g2, hm⟩ := hr.get
  have hb := nd_blen hr.1
  have k0 := bx.c0
  have k1 := bx.c1
  have k2 := bx.c2
  have k3 := bx.c3
  have G1 := Lib.hid g1; clear g1
  have G2 := Lib.hid g2; clear g2
  go_wp2_with fail
  refine (abs_any _ _ _ _ _ _ (bn_bg_of hm (by omega))).mono ?_
  rintro e w3 ⟨nr, ro, l, cr, rfl, hq, hw3⟩
  have bx := bx.below hw3
  have c1 := c1.below hw3
  obtain ⟨hB3, hB3'⟩ := bnext hB2 (by omega) hw3
  have hz3 := hw3.size
  clear k0 k1 k2 k3 hB2 hw3
  have k1 := bx.c1
  have k2 := bx.c2
  have f1 := bx.f 1
  have f2 := bx.f 2
  go_upto_region 3 with fail
  have ho := only_set12 w3 B (.bool nr) (.slice ro l cr)
  have hq := hq.only_dbox bx ho
  have bx := bx.stored12 nr ro l cr
  have c1 := c1.only ho (by omega)
  have hB4 := hB3.trans (ho.below (B := B) (Nat.le_refl _))
  clear k1 k2 f1 f2 hB3 ho
  generalize (w3.setCell ⟨B, 1, none⟩ (.bool nr)).setCell ⟨B, 2, none⟩ (.slice ro l cr) = w4 at *
  obtain ⟨i1, i2, i3⟩ := dm_abs d
  have hfin : Dn w4 (.agg #[.bool xb, .bool nr, .slice ro l cr, .int .i64 xe]) (dabs d) := Dn.put (dabs_nd hr.1) (by rw [i3]; exact G1.out) (by rw [i2]; exact G2.out) (by rw [i1]; exact hq)
  clear i1 i2 i3
  have k0 := bx.c0
  have k1 := bx.c1
  have k2 := bx.c2
  have k3 := bx.c3
  have q0 := c1.c0
  have q1 := c1.c1
  have q2 := c1.c2
  have q3 := c1.c3
  have f0 := c1.f 0
  have f1 := c1.f 1
  have f2 := c1.f 2
  have f3 := c1.f 3
  have hres := dn_stored c1 hfin w hB4 (by omega)
  have z3 := c1.stored xb nr ro l cr xe
  have z0 := z3.c0
  have z1 := z3.c1
  have z2 := z3.c2
  have z4 := z3.c3
  have HRES := Lib.hid hres; clear hres z3
  go_wp2
  refine bodyPost_ret (v := .agg #[.bool xb, .bool nr, .slice ro l cr, .int .i64 xe]) (by simp [results, Tryz.results11, go_sem, z0, z1, z2, z4]) rfl ⟨_, rfl, ?_, ?_⟩
  · exact HRES.out.1
  · show Below _ _ _; rw [HBe.out]; exact HRES.out.2

set_option maxRecDepth 100000 in
set_option maxHeartbeats 4000000 in
theorem dtop_any (bb nb : Bool) (ao : Option Addr) (n ca : Nat) (m f : Int) (w : World) (h : Bg w nb ao n ca m) (hf0 : -100000000000 ≤ f) (hf1 : f ≤ 100000000000) :
    Calls Tryz.prog 24 #[.agg #[.bool bb, .bool nb, .slice ao n ca, .int .i64 f]] w fun e w' => e = .returned (.int .i64 (f + blen m.natAbs)) ∧ Ext w w' := by
  have hbl := bg_blen h
  have hsm := h.small
  go_enter Tryz.func24, Tryz.ntmps24
  go_upto_region 1 with fail
  obtain ⟨W, hW, hB, hbx, hz⟩ := dbox_new w bb nb ao n ca f
  rw [← hW]
  clear hW
  have h := h.below hB
  have HB := Lib.hid (show Ext w W from hB)
  clear hB
  generalize w.heap.size = B at *
  have k0 := hbx.c0
  have k1 := hbx.c1
  have k2 := hbx.c2
  have k3 := hbx.c3
  have hc : ∀ wx, Ext W wx → wx.cell? ⟨B, 3, none⟩ = some (.int .i64 f) := fun wx h => (hbx.ext h).c3
  have HC := Lib.hid hc; clear hc
  generalize hbb : blen m.natAbs = bl at *
  have HBB := Lib.hid hbb; clear hbb
  have hex : Ext W W.drew := (Below.refl _ _).drew
  have hwr : IntKind.i64.wrap (f + (bl : Int)) = f + (bl : Int) := IntWalk.i64_in _ ⟨by omega, by omega⟩
  go_region_held3 (fun wx => wx.cell? ⟨B, 3, none⟩ = some (.int .i64 f) ∧ wx.cell? ⟨B, 1, none⟩ = some (.bool nb) ∧ wx.cell? ⟨B, 2, none⟩ = some (.slice ao n ca))
    (first | exact ⟨HC.out _ (by assumption), (hbx.ext (by assumption)).c1, (hbx.ext (by assumption)).c2⟩)
    (first
      | (go_at_call 48; refine (bitLenOut_any _ _ _ _ _ _ (by exact h.below (Below.refl _ _).drew)).mono ?_; rintro e w1 ⟨rfl, hw1⟩; have ex1 : Ext W w1 := hex.trans hw1; rw [HBB.out]))
  go_wp2
  go_ret
  exact ⟨by rw [HBB.out]; rfl, HB.out.trans ex1⟩
end Go.Proofs.YtapcecjbmcoliaaGreatDoor

namespace Go.Proofs.YtapcecjbmcoliaaGreatDoor
open Go.RowKit

theorem Box.ext' {w w' : World} {g : Nat} {nb : Bool} {ao : Option Addr} {n ca : Nat} (h : Box w g nb ao n ca) (he : Ext w w') : Box w' g nb ao n ca := h.below he
theorem Bg.ext {w w' : World} {nb : Bool} {ao : Option Addr} {n ca : Nat} {x : Int} (h : Bg w nb ao n ca x) (he : Ext w w') : Bg w' nb ao n ca x := h.below he

end Go.Proofs.YtapcecjbmcoliaaGreatDoor
