/- IntegerExact returns true, from what its callees do. -/
import Derived.Test.YtpjfipjmpppjcaaDoorGr
namespace Go.Proofs.YtpjfipjmpppjcaaDoor
open Go.RowKit

set_option maxRecDepth 100000 in
set_option maxHeartbeats 20000000 in
theorem iexact_yes (an bn : Bool) (ao bo : Option Addr) (ak bk ac bc : Nat) (i : Int) (xs ys : List Int) (w : World) (ha : Sl w ao ak ac xs) (hb : Sl w bo bk bc ys) (hn : ak ≤ 40) (hm : bk ≤ 40) (hi : -9223372036854775808 ≤ i ∧ i ≤ 9223372036854775807) (haw : AwakeSays w) :
    Calls Tryd.prog 3 #[.agg #[.bool an, .slice ao ak ac], .agg #[.bool bn, .slice bo bk bc], .int .i64 i] w fun e w' => e = .returned (.bool true) ∧ Ext w w' := by
  go_enter Tryd.func3, Tryd.ntmps3
  go_upto_region 1 with fail
  obtain ⟨W, hW, hB, hx, hy⟩ := box_pair w an ao ak ac bn bo bk bc
  rw [← hW]
  clear hW
  have hbl := hy.lt
  have ha := ha.below hB
  have hb := hb.below hB
  have hAW : AwakeSays W := fun w' h => haw w' (hB.trans h)
  generalize hg : w.heap.size = B at *
  have HG := Lib.hid hg; clear hg
  have HB := Lib.hid hB
  have HI := Lib.hid hi
  have HXL := Lib.hid (show xs.length ≤ 40 by rw [ha.len]; exact hn)
  have HYL := Lib.hid (show ys.length ≤ 40 by rw [hb.len]; exact hm)
  clear hB haw hi
  have hcells : ∀ wx, Ext W wx → (wx.cell? ⟨B, 0, none⟩ = some (.bool an) ∧ wx.cell? ⟨B, 1, none⟩ = some (.slice ao ak ac)) ∧ (wx.cell? ⟨B + 1, 0, none⟩ = some (.bool bn) ∧ wx.cell? ⟨B + 1, 1, none⟩ = some (.slice bo bk bc)) := fun wx h =>
    ⟨⟨(hx.below h).c0, (hx.below h).c1⟩, ⟨(hy.below h).c0, (hy.below h).c1⟩⟩
  have HC := Lib.hid hcells; clear hcells
  clear hx hy
  obtain ⟨⟨a0, a1⟩, b0, b1⟩ := HC.out W (Ext.refl _)
  go_wp2_with fail
  refine (slim_yes an ao ak ac 40 _ hn).mono ?_
  rintro e w1 ⟨rfl, h1⟩
  clear a0 a1 b0 b1
  obtain ⟨⟨a0, a1⟩, b0, b1⟩ := HC.out w1 h1
  go_wp2_with fail
  refine (slim_yes bn bo bk bc 40 _ hm).mono ?_
  rintro e w2 ⟨rfl, h2⟩
  have h12 : Ext W w2 := h1.trans h2
  have hst : RSt w2 w2 [⟨.agg #[.bool an, .slice ao ak ac], an, xs⟩, ⟨.agg #[.bool bn, .slice bo bk bc], bn, ys⟩] :=
    ⟨Ext.refl _, fun p hp => by
      simp only [List.mem_cons, List.not_mem_nil, or_false] at hp
      rcases hp with rfl | rfl
      · exact ⟨ao, ak, ac, rfl, ha.below h12⟩
      · exact ⟨bo, bk, bc, rfl, hb.below h12⟩⟩
  have hBw : B + 1 < w2.heap.size := Nat.lt_of_lt_of_le hbl h12.size
  have hAW2 : AwakeSays w2 := fun w' h => hAW w' (h12.trans h)
  have HB2 := Lib.hid (HB.out.trans h12)
  have HC' := Lib.hid (fun wx (h : Ext w2 wx) => HC.out wx (h12.trans h))
  clear HC
  have HC := HC'
  clear HC' HB h1 h2 h12 ha hb hbl hAW a0 a1 b0 b1
  obtain ⟨⟨a0, a1⟩, b0, b1⟩ := HC.out w2 (Ext.refl _)
  go_upto_region 3 with fail
  have std := hst.drew
  have HAW2 := Lib.hid hAW2; clear hAW2
  have TAG1 := Lib.hid trivial
  go_cut [7, 8] from 22 (fun p q wx => ∃ g h xn xo xk xc yn yo yk yc, p = .pointer (some ⟨g, 0, none⟩) ∧ q = .pointer (some ⟨h, 0, none⟩) ∧
    Box wx g xn xo xk xc ∧ Box wx h yn yo yk yc ∧ RSt w2 wx [⟨.agg #[.bool yn, .slice yo yk yc], bn, ys⟩, ⟨.agg #[.bool xn, .slice xo xk xc], an, xs⟩, ⟨.agg #[.bool an, .slice ao ak ac], an, xs⟩, ⟨.agg #[.bool bn, .slice bo bk bc], bn, ys⟩])
  case first =>
    go_region_held3 (fun wx => (wx.cell? ⟨B, 0, none⟩ = some (.bool an) ∧ wx.cell? ⟨B, 1, none⟩ = some (.slice ao ak ac)) ∧ (wx.cell? ⟨B + 1, 0, none⟩ = some (.bool bn) ∧ wx.cell? ⟨B + 1, 1, none⟩ = some (.slice bo bk bc)))
      ((refine ⟨?_, ?_⟩; ((repeat (first | with_reducible refine bcells_drew ?_ | with_reducible refine bcells_alloc ?_ | with_reducible refine bcells_stored (by omega) ?_)); exact (HC.out _ (by first | with_reducible exact Ext.refl _ | with_reducible exact RSt.ext (W := w2) (by with_reducible assumption))).1); ((repeat (first | with_reducible refine bcells_drew ?_ | with_reducible refine bcells_alloc ?_ | with_reducible refine bcells_stored (by omega) ?_)); exact (HC.out _ (by first | with_reducible exact Ext.refl _ | with_reducible exact RSt.ext (W := w2) (by with_reducible assumption))).2)))
      (first
        | (go_at_call 9; clear TAG1; refine (twin_rbag (W := w2) (zs := xs) (nb := an) (by first | with_reducible assumption | with_reducible exact RSt.drew (by with_reducible assumption) | with_reducible exact RSt.alloc (by with_reducible assumption) _ | with_reducible exact RSt.alloc (RSt.alloc (by with_reducible assumption) _) _ | with_reducible exact RSt.drew (RSt.alloc (by with_reducible assumption) _) | with_reducible exact RSt.drew (RSt.alloc (RSt.alloc (by with_reducible assumption) _) _)) (by repeat (first | exact List.Mem.head _ | refine List.Mem.tail _ ?_)) (by have := HXL.out; omega)).mono ?_; rintro e wn ⟨xn, xo, xk, xc, rfl, hE1, stn⟩; have sz1 := sizeB stn.ext; (first | (have y12 := bbox_in2d (w := w2) (wn := wn) (by with_reducible assumption); have y1 : Box wn w2.heap.size false none 0 0 := y12.1; have y2 : Box wn (w2.heap.size + 1) false none 0 0 := y12.2; clear y12; have yl1 := y1.lt; have yl2 := y2.lt) | (have y12 := bbox_in1d (w := w2) (wn := wn) (by with_reducible assumption); have y1 : Box wn w2.heap.size false none 0 0 := y12; clear y12; have yl1 := y1.lt) | skip))
        | (go_at_call 9; refine (twin_rbag (W := w2) (zs := ys) (nb := bn) (by first | with_reducible assumption | with_reducible exact RSt.drew (by with_reducible assumption) | with_reducible exact RSt.alloc (by with_reducible assumption) _ | with_reducible exact RSt.alloc (RSt.alloc (by with_reducible assumption) _) _ | with_reducible exact RSt.drew (RSt.alloc (by with_reducible assumption) _) | with_reducible exact RSt.drew (RSt.alloc (RSt.alloc (by with_reducible assumption) _) _)) (by repeat (first | exact List.Mem.head _ | refine List.Mem.tail _ ?_)) (by have := HYL.out; omega)).mono ?_; rintro e wm ⟨yn, yo, yk, yc, rfl, hE2, stm⟩; have sz2 := sizeB stm.ext; (first | (obtain ⟨z1, z2⟩ := bbox_in2 (w := wn) (wn := wm) (by with_reducible assumption); have zl1 := z1.lt; have zl2 := z2.lt; have hE3 : Ext wn wm := Ext.trans (Ext.trans (ext_allocB _ _) (ext_allocB _ _)) hE2) | (have z1 := bbox_in1 (w := wn) (wn := wm) (by with_reducible assumption); have zl1 := z1.lt; have hE3 : Ext wn wm := Ext.trans (ext_allocB _ _) hE2) | (have hE3 : Ext wn wm := hE2)); (first | (have y2 := y2.below hE3; have ym2 := y2.lt; have v0 := y2.c0; have v1 := y2.c1; have v2 := y2.f 0; have v3 := y2.f 1) | skip); (first | (have y1 := y1.below hE3; have ym1 := y1.lt; have u0 := y1.c0; have u1 := y1.c1; have u2 := y1.f 0; have u3 := y1.f 1) | skip); (first | (have s0 := z1.c0; have s1 := z1.c1; have s2 := z1.f 0; have s3 := z1.f 1) | skip); (first | (have t0 := z2.c0; have t1 := z2.c1; have t2 := z2.f 0; have t3 := z2.f 1) | skip)))
    all_goals
      try clear u0 u1 u2 u3
      try clear v0 v1 v2 v3
      try clear s0 s1 s2 s3
      try clear t0 t1 t2 t3
      go_wp2
      go_meet
    all_goals
      refine ⟨_, _, xn, xo, xk, xc, yn, yo, yk, yc, rfl, rfl, ?_⟩
      first
        | (have _t := y2; first | (have F := bpair_stored (xn := xn) (xo := xo) (xk := xk) (xc := xc) (yn := yn) (yo := yo) (yk := yk) (yc := yc) y1 y2 (by omega) stm (by omega) (by omega); with_reducible exact F) | (have F := bpair_stored (xn := xn) (xo := xo) (xk := xk) (xc := xc) (yn := yn) (yo := yo) (yk := yk) (yc := yc) y2 y1 (by omega) stm (by omega) (by omega); with_reducible exact F))
        | (have _t := z2; first | (have F := bpair_stored (xn := xn) (xo := xo) (xk := xk) (xc := xc) (yn := yn) (yo := yo) (yk := yk) (yc := yc) z1 z2 (by omega) stm (by omega) (by omega); with_reducible exact F) | (have F := bpair_stored (xn := xn) (xo := xo) (xk := xk) (xc := xc) (yn := yn) (yo := yo) (yk := yk) (yc := yc) z2 z1 (by omega) stm (by omega) (by omega); with_reducible exact F))
        | (have _t := y1; have _t2 := z1; first | (have F := bpair_stored (xn := xn) (xo := xo) (xk := xk) (xc := xc) (yn := yn) (yo := yo) (yk := yk) (yc := yc) y1 z1 (by omega) stm (by omega) (by omega); with_reducible exact F) | (have F := bpair_stored (xn := xn) (xo := xo) (xk := xk) (xc := xc) (yn := yn) (yo := yo) (yk := yk) (yc := yc) z1 y1 (by omega) stm (by omega) (by omega); with_reducible exact F))
        | (have _t := y1; first | (have F := bfin_mix (xn := xn) (xo := xo) (xk := xk) (xc := xc) (yn := yn) (yo := yo) (yk := yk) (yc := yc) stm y1 (by omega); with_reducible exact F) | (have F := bfin_mix (xn := yn) (xo := yo) (xk := yk) (xc := yc) (yn := xn) (yo := xo) (yk := xk) (yc := xc) stm y1 (by omega); with_reducible exact ⟨F.2.1, F.1, F.2.2⟩))
        | (have _t := z1; first | (have F := bfin_mix (xn := xn) (xo := xo) (xk := xk) (xc := xc) (yn := yn) (yo := yo) (yk := yk) (yc := yc) stm z1 (by omega); with_reducible exact F) | (have F := bfin_mix (xn := yn) (xo := yo) (xk := yk) (xc := yc) (yn := xn) (yo := xo) (yk := xk) (yc := xc) stm z1 (by omega); with_reducible exact ⟨F.2.1, F.1, F.2.2⟩))
        | (have F := bfin_new (xn := xn) (xo := xo) (xk := xk) (xc := xc) (yn := yn) (yo := yo) (yk := yk) (yc := yc) stm; with_reducible exact F)
        | (have F := bfin_new (xn := yn) (xo := yo) (xk := yk) (xc := yc) (yn := xn) (yo := xo) (yk := xk) (yc := xc) stm; with_reducible exact ⟨F.2.1, F.1, F.2.2⟩)
  case rest =>
    obtain ⟨g, h, xn, xo, xk, xc, yn, yo, yk, yc, rfl, rfl, bx, by', rst⟩ := hcut
    clear std hst a0 a1 b0 b1
    have hcells2 : ∀ wx, Ext wc wx → (wx.cell? ⟨B, 0, none⟩ = some (.bool an) ∧ wx.cell? ⟨B, 1, none⟩ = some (.slice ao ak ac)) ∧ (wx.cell? ⟨B + 1, 0, none⟩ = some (.bool bn) ∧ wx.cell? ⟨B + 1, 1, none⟩ = some (.slice bo bk bc)) ∧ (wx.cell? ⟨g, 0, none⟩ = some (.bool xn) ∧ wx.cell? ⟨g, 1, none⟩ = some (.slice xo xk xc)) ∧ (wx.cell? ⟨h, 0, none⟩ = some (.bool yn) ∧ wx.cell? ⟨h, 1, none⟩ = some (.slice yo yk yc)) := fun wx h =>
      ⟨(HC.out wx (rst.ext.trans h)).1, (HC.out wx (rst.ext.trans h)).2, ⟨(bx.below h).c0, (bx.below h).c1⟩, (by'.below h).c0, (by'.below h).c1⟩
    have HC2 := Lib.hid hcells2; clear hcells2
    have HR := Lib.hid (fun wx (h : Ext wc wx) => (rst.self.step h).self)
    have HBC := Lib.hid (HB2.out.trans rst.ext)
    have HAC : Hid (AwakeSays wc) := Lib.hid (fun w' h => HAW2.out w' (rst.ext.trans h))
    have m0 := rent_ent (rst.bag _ (List.Mem.head _)) 40 HYL.out (by omega)
    have m1 := rent_ent (rst.bag _ (List.Mem.tail _ (List.Mem.head _))) 40 HXL.out (by omega)
    have m2 := rent_ent (rst.bag _ (List.Mem.tail _ (List.Mem.tail _ (List.Mem.head _)))) 40 HXL.out (by omega)
    have m3 := rent_ent (rst.bag _ (List.Mem.tail _ (List.Mem.tail _ (List.Mem.tail _ (List.Mem.head _))))) 40 HYL.out (by omega)
    obtain ⟨p, hp⟩ : ∃ p, sgd an xs = p := ⟨_, rfl⟩
    obtain ⟨q, hq⟩ : ∃ q, sgd bn ys = q := ⟨_, rfl⟩
    rw [hp] at m1 m2
    rw [hq] at m0 m3
    clear hp hq
    have stn : St wc wc [⟨.agg #[.bool xn, .slice xo xk xc], p, 40, false⟩, ⟨.agg #[.bool yn, .slice yo yk yc], q, 40, false⟩, ⟨.agg #[.bool an, .slice ao ak ac], p, 40, false⟩, ⟨.agg #[.bool bn, .slice bo bk bc], q, 40, false⟩] :=
      ⟨Ext.refl wc, fun k hk => by
        simp only [List.mem_cons, List.not_mem_nil, or_false] at hk
        rcases hk with rfl | rfl | rfl | rfl
        · exact m1
        · exact m0
        · exact m2
        · exact m3⟩
    clear m0 m1 m2 m3 bx by' HB2 HAW2 hBw HC rst
    obtain ⟨cs, hcs⟩ : ∃ cs, sgn3 p q = cs := ⟨_, rfl⟩
    have HCS := Lib.hid hcs; clear hcs
    obtain ⟨ss, hss⟩ : ∃ ss, sgn3 p 0 = ss := ⟨_, rfl⟩
    have HSS := Lib.hid hss; clear hss
    have t1 : (cs != cs) = false := by simp
    have t2 : (ss != ss) = false := by simp
    obtain ⟨⟨a0, a1⟩, ⟨b0, b1⟩, ⟨x0, x1⟩, y0, y1⟩ := HC2.out _ stn.ext
    go_wp2_with fail
    refine (int_bag stn (by repeat (first | exact List.Mem.head _ | refine List.Mem.tail _ ?_))).mono ?_
    rintro e wn ⟨rfl, stn⟩
    clear a0 a1 b0 b1 x0 x1 y0 y1
    obtain ⟨⟨a0, a1⟩, ⟨b0, b1⟩, ⟨x0, x1⟩, y0, y1⟩ := HC2.out _ stn.ext
    go_wp2_with fail
    refine (refInt_bag stn (by repeat (first | exact List.Mem.head _ | refine List.Mem.tail _ ?_))).mono ?_
    rintro e wn ⟨rfl, stn⟩
    clear a0 a1 b0 b1 x0 x1 y0 y1
    obtain ⟨⟨a0, a1⟩, ⟨b0, b1⟩, ⟨x0, x1⟩, y0, y1⟩ := HC2.out _ stn.ext
    generalize intOut p = ki at *
    generalize fitsI p = kb at *
    have t3 : (ki != ki) = false := by simp
    have t4 : (kb != kb) = false := by cases kb <;> rfl
    go_wp2_with fail
    have std := stn.drew
    go_region_held3 (fun wx => (wx.cell? ⟨B, 0, none⟩ = some (.bool an) ∧ wx.cell? ⟨B, 1, none⟩ = some (.slice ao ak ac)) ∧ (wx.cell? ⟨B + 1, 0, none⟩ = some (.bool bn) ∧ wx.cell? ⟨B + 1, 1, none⟩ = some (.slice bo bk bc)) ∧ (wx.cell? ⟨g, 0, none⟩ = some (.bool xn) ∧ wx.cell? ⟨g, 1, none⟩ = some (.slice xo xk xc)) ∧ (wx.cell? ⟨h, 0, none⟩ = some (.bool yn) ∧ wx.cell? ⟨h, 1, none⟩ = some (.slice yo yk yc)))
      (first | exact HC2.out _ (by exact St.ext (by assumption)))
      (first
        | (go_at_call 13; refine (norm_bag (W := wc) (by assumption) (by repeat (first | exact List.Mem.head _ | refine List.Mem.tail _ ?_)) (by omega)).mono ?_; rintro e wn ⟨r, rfl, stn⟩)
        | (go_at_call 14; refine (refNorm_bag (W := wc) (by assumption) (by repeat (first | exact List.Mem.head _ | refine List.Mem.tail _ ?_)) (by omega)).mono ?_; rintro e wn ⟨r, rfl, stn⟩)
        | (go_at_call 15; refine (cmp_bag (W := wc) (by assumption) (by repeat (first | exact List.Mem.head _ | refine List.Mem.tail _ ?_)) (by repeat (first | exact List.Mem.head _ | refine List.Mem.tail _ ?_)) cs HCS.out).mono ?_; rintro e wn ⟨rfl, stn⟩)
        | (go_at_call 16; refine (refCmp_bag (W := wc) (by assumption) (by repeat (first | exact List.Mem.head _ | refine List.Mem.tail _ ?_)) (by repeat (first | exact List.Mem.head _ | refine List.Mem.tail _ ?_)) (by omega) (by omega) cs HCS.out).mono ?_; rintro e wn ⟨rfl, stn⟩)
        | (go_at_call 17; refine (sign_bag (W := wc) (by assumption) (by repeat (first | exact List.Mem.head _ | refine List.Mem.tail _ ?_)) ss HSS.out).mono ?_; rintro e wn ⟨rfl, stn⟩)
        | (go_at_call 18; refine (refSign_bag (W := wc) (by assumption) (by repeat (first | exact List.Mem.head _ | refine List.Mem.tail _ ?_)) ss HSS.out).mono ?_; rintro e wn ⟨rfl, stn⟩)
        | (go_at_call 12; refine (big_bag (W := wc) (by assumption) (by repeat (first | exact List.Mem.head _ | refine List.Mem.tail _ ?_)) (by repeat (first | exact List.Mem.head _ | refine List.Mem.tail _ ?_)) rfl).mono ?_; rintro e wn ⟨rfl, stn⟩))
    clear std a0 a1 b0 b1 x0 x1 y0 y1
    obtain ⟨⟨a0, a1⟩, ⟨b0, b1⟩, ⟨x0, x1⟩, y0, y1⟩ := HC2.out _ stn.ext
    go_wp2_with fail
    have std := stn.drew
    go_region_held3 (fun wx => (wx.cell? ⟨B, 0, none⟩ = some (.bool an) ∧ wx.cell? ⟨B, 1, none⟩ = some (.slice ao ak ac)) ∧ (wx.cell? ⟨B + 1, 0, none⟩ = some (.bool bn) ∧ wx.cell? ⟨B + 1, 1, none⟩ = some (.slice bo bk bc)) ∧ (wx.cell? ⟨g, 0, none⟩ = some (.bool xn) ∧ wx.cell? ⟨g, 1, none⟩ = some (.slice xo xk xc)) ∧ (wx.cell? ⟨h, 0, none⟩ = some (.bool yn) ∧ wx.cell? ⟨h, 1, none⟩ = some (.slice yo yk yc)))
      (first | exact HC2.out _ (by exact St.ext (by assumption)))
      (first
        | (go_at_call 19; refine (fromInt_bag (W := wc) (by assumption) i HI.out).mono ?_; rintro e wn ⟨r, rfl, stn⟩)
        | (go_at_call 20; refine (refFromInt_bag (W := wc) (by assumption) i HI.out).mono ?_; rintro e wn ⟨r, rfl, stn⟩)
        | (go_at_call 21; refine (neg_bag (W := wc) (by assumption) (by repeat (first | exact List.Mem.head _ | refine List.Mem.tail _ ?_)) (by omega)).mono ?_; rintro e wn ⟨r, rfl, stn⟩)
        | (go_at_call 22; refine (refNeg_bag (W := wc) (by assumption) (by repeat (first | exact List.Mem.head _ | refine List.Mem.tail _ ?_)) (by omega)).mono ?_; rintro e wn ⟨r, rfl, stn⟩)
        | (go_at_call 23; refine (abs_bag (W := wc) (by assumption) (by repeat (first | exact List.Mem.head _ | refine List.Mem.tail _ ?_)) (by omega)).mono ?_; rintro e wn ⟨r, rfl, stn⟩)
        | (go_at_call 24; refine (refAbs_bag (W := wc) (by assumption) (by repeat (first | exact List.Mem.head _ | refine List.Mem.tail _ ?_)) (by omega)).mono ?_; rintro e wn ⟨r, rfl, stn⟩)
        | (go_at_call 12; refine (big_bag (W := wc) (by assumption) (by repeat (first | exact List.Mem.head _ | refine List.Mem.tail _ ?_)) (by repeat (first | exact List.Mem.head _ | refine List.Mem.tail _ ?_)) rfl).mono ?_; rintro e wn ⟨rfl, stn⟩))
    clear std a0 a1 b0 b1 x0 x1 y0 y1
    obtain ⟨⟨a0, a1⟩, ⟨b0, b1⟩, ⟨x0, x1⟩, y0, y1⟩ := HC2.out _ stn.ext
    go_wp2_with fail
    have std := stn.drew
    go_region_held3 (fun wx => (wx.cell? ⟨B, 0, none⟩ = some (.bool an) ∧ wx.cell? ⟨B, 1, none⟩ = some (.slice ao ak ac)) ∧ (wx.cell? ⟨B + 1, 0, none⟩ = some (.bool bn) ∧ wx.cell? ⟨B + 1, 1, none⟩ = some (.slice bo bk bc)) ∧ (wx.cell? ⟨g, 0, none⟩ = some (.bool xn) ∧ wx.cell? ⟨g, 1, none⟩ = some (.slice xo xk xc)) ∧ (wx.cell? ⟨h, 0, none⟩ = some (.bool yn) ∧ wx.cell? ⟨h, 1, none⟩ = some (.slice yo yk yc)))
      (first | exact HC2.out _ (by exact St.ext (by assumption)))
      (first
        | (go_at_call 25; refine (add_bag (W := wc) (by assumption) (by repeat (first | exact List.Mem.head _ | refine List.Mem.tail _ ?_)) (by repeat (first | exact List.Mem.head _ | refine List.Mem.tail _ ?_)) (by omega) (by omega)).mono ?_; rintro e wn ⟨r, rfl, stn⟩)
        | (go_at_call 26; refine (refAdd_bag (W := wc) (by assumption) (by repeat (first | exact List.Mem.head _ | refine List.Mem.tail _ ?_)) (by repeat (first | exact List.Mem.head _ | refine List.Mem.tail _ ?_)) (by omega) (by omega)).mono ?_; rintro e wn ⟨r, rfl, stn⟩)
        | (go_at_call 27; refine (sub_bag (W := wc) (by assumption) (by repeat (first | exact List.Mem.head _ | refine List.Mem.tail _ ?_)) (by repeat (first | exact List.Mem.head _ | refine List.Mem.tail _ ?_)) (by omega) (by omega)).mono ?_; rintro e wn ⟨r, rfl, stn⟩)
        | (go_at_call 28; refine (refSub_bag (W := wc) (by assumption) (by repeat (first | exact List.Mem.head _ | refine List.Mem.tail _ ?_)) (by repeat (first | exact List.Mem.head _ | refine List.Mem.tail _ ?_)) (by omega) (by omega)).mono ?_; rintro e wn ⟨r, rfl, stn⟩)
        | (go_at_call 29; refine (mul_bag (W := wc) (by assumption) (by repeat (first | exact List.Mem.head _ | refine List.Mem.tail _ ?_)) (by repeat (first | exact List.Mem.head _ | refine List.Mem.tail _ ?_)) (by omega) (by omega) (by omega)).mono ?_; rintro e wn ⟨r, rfl, stn⟩)
        | (go_at_call 30; refine (refMul_bag (W := wc) (by assumption) (by repeat (first | exact List.Mem.head _ | refine List.Mem.tail _ ?_)) (by repeat (first | exact List.Mem.head _ | refine List.Mem.tail _ ?_)) (by omega) (by omega)).mono ?_; rintro e wn ⟨r, rfl, stn⟩)
        | (go_at_call 12; refine (big_bag (W := wc) (by assumption) (by repeat (first | exact List.Mem.head _ | refine List.Mem.tail _ ?_)) (by repeat (first | exact List.Mem.head _ | refine List.Mem.tail _ ?_)) rfl).mono ?_; rintro e wn ⟨rfl, stn⟩))
    clear std a0 a1 b0 b1 x0 x1 y0 y1
    obtain ⟨⟨a0, a1⟩, ⟨b0, b1⟩, ⟨x0, x1⟩, y0, y1⟩ := HC2.out _ stn.ext
    go_wp2_with fail
    refine (big_rbag (nb := an) (zs := xs) (HR.out _ stn.ext) (by repeat (first | exact List.Mem.head _ | refine List.Mem.tail _ ?_)) (by repeat (first | exact List.Mem.head _ | refine List.Mem.tail _ ?_))).mono ?_
    rintro e wo ⟨rfl, rn⟩
    have stn := stn.step rn.ext
    clear rn a0 a1 b0 b1 x0 x1 y0 y1
    obtain ⟨⟨a0, a1⟩, ⟨b0, b1⟩, ⟨x0, x1⟩, y0, y1⟩ := HC2.out _ stn.ext
    go_wp2_with fail
    refine (big_rbag (nb := bn) (zs := ys) (HR.out _ stn.ext) (by repeat (first | exact List.Mem.head _ | refine List.Mem.tail _ ?_)) (by repeat (first | exact List.Mem.head _ | refine List.Mem.tail _ ?_))).mono ?_
    rintro e wo ⟨rfl, rn⟩
    have stn := stn.step rn.ext
    clear rn a0 a1 b0 b1 x0 x1 y0 y1
    go_wp2_with fail
    refine (HAC.out _ stn.ext).mono ?_
    rintro e wo ⟨rfl, hwo⟩
    go_wp2
    go_ret
    exact ⟨rfl, (HBC.out.trans stn.ext).trans hwo⟩
end Go.Proofs.YtpjfipjmpppjcaaDoor
