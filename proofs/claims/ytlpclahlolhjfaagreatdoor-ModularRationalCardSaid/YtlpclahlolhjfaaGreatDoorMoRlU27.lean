import Derived.Test.YtlpclahlolhjfaaGreatDoorMoRlU24
namespace Go.Proofs.YtlpclahlolhjfaaGreatDoor
open Go Go.RowKit

set_option maxRecDepth 100000 in
set_option maxHeartbeats 16000000 in
theorem refDivMod_nnA (a b : Nat) (nb mb : Bool) (ao bo : Option Addr) (n m ca cb : Nat) (w : World) (ha : Bg w nb ao n ca (-(a : Int))) (hb : Bg w mb bo m cb (-(b : Int))) (hn : n ≤ 100000000) (h0 : b ≠ 0) (h1 : a ≠ 0) (hadj : a % b ≠ 0) :
    Calls Tryz.prog 48 #[.agg #[.bool nb, .slice ao n ca], .agg #[.bool mb, .slice bo m cb]] w fun e w' => ∃ qn qo qk qc rn ro rk rc, e = .returned (.tuple #[.agg #[.bool qn, .slice qo qk qc], .agg #[.bool rn, .slice ro rk rc]]) ∧
      Bn w' qn qo qk qc (((a / b : Nat) : Int) + 1) ∧ Bn w' rn ro rk rc (-((a % b : Nat) : Int) + ((b : Nat) : Int)) ∧ Ext w w' := by
  go_enter Tryz.func48, Tryz.ntmps48
  go_upto_region 1 with fail
  obtain ⟨W, hW, hB, hx, hy, hr, hs, hz⟩ := boxes_four w nb ao n ca mb bo m cb
  rw [← hW]
  clear hW
  have ha1 := ha.below hB
  have hb1 := hb.below hB
  generalize hBe : w.heap.size = B at *
  have HBe := Lib.hid hBe; clear hBe ha
  go_cut [] from 10 (fun wx => ∃ pn po pk pc rn ro rk rc, Bn wx pn po pk pc (-(a : Int)) ∧ Bn wx rn ro rk rc (-(b : Int)) ∧ Box wx B pn po pk pc ∧ Box wx (B + 1) rn ro rk rc ∧ Box wx (B + 2) false none 0 0 ∧ Box wx (B + 3) false none 0 0 ∧ pk ≤ n ∧ rk ≤ m ∧ Below B w wx ∧ B + 4 ≤ wx.heap.size)
  case first =>
    have k0 := hx.c0
    have k1 := hx.c1
    have l0 := hy.c0
    have l1 := hy.c1
    go_region_with (first
      | (go_at_call 50; refine (refNorm_any _ _ _ _ _ _ (by exact ha1.below (by exact (Below.refl _ _).drew))).mono ?_; rintro e w1 ⟨pn, po, pk, pc, rfl, hp, hpk, hw1⟩; have ex1 : Ext W w1 := Ext.trans (by exact (Below.refl _ _).drew) hw1; have fb := hy.below ex1; have h0 := fb.c0; have h1 := fb.c1)
      | (go_at_call 50; refine (refNorm_any _ _ _ _ _ _ (by exact hb1.below ex1)).mono ?_; rintro e w2 ⟨rn, ro, rk, rc, rfl, hq, hqk, hw2⟩; have ex2 : Ext W w2 := Ext.trans ex1 hw2; have hp := hp.below hw2; clear h0 h1; have fa := hx.below ex2; have fb := hy.below ex2; have a0 := fa.c0; have a1 := fa.c1; have b0 := fb.c0; have b1 := fb.c1; have g0 := fa.f 0; have g1 := fa.f 1; have h0 := fb.f 0; have h1 := fb.f 1))
    all_goals
      go_wp2
      go_meet
    all_goals
      clear a0 a1 b0 b1 g0 g1 h0 h1 k0 k1 l0 l1
      have hne : B ≠ B + 1 := by omega
      have o1 := only_set2 w2 B (.bool pn) (.slice po pk pc)
      have u1 := fa.stored pn po pk pc
      have u2 := fb.only o1 (Ne.symm hne)
      have p1 := Bn.only_bx' hp fa o1
      have q1 := Bn.only_bx' hq fa o1
      have r1 := (hr.below ex2).only o1 (by omega)
      have s1 := (hs.below ex2).only o1 (by omega)
      generalize hW3 : (w2.setCell ⟨B, 0, none⟩ (.bool pn)).setCell ⟨B, 1, none⟩ (.slice po pk pc) = w3 at *
      have o2 := only_set2 w3 (B + 1) (.bool rn) (.slice ro rk rc)
      refine ⟨pn, po, pk, pc, rn, ro, rk, rc, Bn.only_bx' p1 u2 o2, Bn.only_bx' q1 u2 o2, u1.only o2 hne, u2.stored rn ro rk rc, r1.only o2 (by omega), s1.only o2 (by omega), hpk, hqk, ?_, ?_⟩
      · exact Below.trans (Below.trans (Below.trans hB (ex2.mono (by omega))) (o1.below (Nat.le_refl B))) (o2.below (Nat.le_succ B))
      · rw [o2.size, o1.size]; have := Below.size ex2; omega
  case rest =>
    obtain ⟨pn, po, pk, pc, rn, ro, rk, rc, hp, hq, bx, bY, br, bs, hpk, hrk, hB1, hz1⟩ := hcut
    obtain ⟨W1, hW1⟩ : ∃ W1, W1 = wc := ⟨wc, rfl⟩
    subst hW1
    have e1 := hp.neg
    have e2 := hq.neg
    rw [show decide ((-(a : Int)) < 0) = decide (0 < a) from by by_cases h : 0 < a <;> simp [h] <;> omega] at e1
    rw [show decide ((-(b : Int)) < 0) = true from by simp; omega] at e2
    rw [decide_eq_true (show 0 < a by omega)] at e1
    subst e1 e2
    have s1 := hp.sl
    have s2 := hq.sl
    rw [Int.natAbs_neg, Int.natAbs_natCast] at s1
    rw [Int.natAbs_neg, Int.natAbs_natCast] at s2
    have HBL := Lib.hid s2.len
    clear hp hq ha1 hb1 hx hy hr hs hB hz
    have k0 := bx.c0
    have k1 := bx.c1
    have l0 := bY.c0
    have l1 := bY.c1
    go_upto_region 2 with fail
    go_wp2_with fail
    refine (refDivMag_any a b _ _ _ _ _ _ _ s1 s2 h0 (by omega)).mono ?_
    rintro e V ⟨qo, qk, qc, so, sk, sc, rfl, hq1, hs1, hV⟩
    have bx := bx.below hV
    have bY := bY.below hV
    have br := br.below hV
    have bs := bs.below hV
    have s2 := s2.below hV
    have HAL := Lib.hid s1.len
    have hBV : Below B w V := Below.trans hB1 (hV.mono (by omega))
    have hzV : B + 4 ≤ V.heap.size := by have := Below.size hV; omega
    clear k0 k1 l0 l1 s1 hV hB1 hz1
    go_upto_region 3 with fail
    have hst : RSt V V [] := ⟨Ext.refl V, fun p hp => by cases hp⟩
    have std := hst.drew
    have CQ := Lib.hid (fun W' (h : RSt V W' []) => make1_ent qo qk qc (a / b) h (hq1.below h.ext))
    have CR := Lib.hid (fun W' L' (h : RSt V W' L') => make1_entT so sk sc (a % b) h (hs1.below h.ext))
    have hcells : ∀ wx, Ext V wx → (wx.cell? ⟨B, 0, none⟩ = some (.bool true) ∧ wx.cell? ⟨B, 1, none⟩ = some (.slice po pk pc)) ∧ (wx.cell? ⟨B + 1, 0, none⟩ = some (.bool true) ∧ wx.cell? ⟨B + 1, 1, none⟩ = some (.slice ro rk rc)) := fun wx h =>
      ⟨⟨(bx.below h).c0, (bx.below h).c1⟩, ⟨(bY.below h).c0, (bY.below h).c1⟩⟩
    have HC := Lib.hid hcells; clear hcells
    obtain ⟨⟨p0, p1⟩, r0, r1⟩ := HC.out V (Ext.refl V)
    have TAG1 := Lib.hid trivial
    go_cut [8, 9] from 10 (fun p q wx => ∃ g h xn xo xk xc yn yo yk yc, p = .pointer (some ⟨g, 0, none⟩) ∧ q = .pointer (some ⟨h, 0, none⟩) ∧
      Box wx g xn xo xk xc ∧ Box wx h yn yo yk yc ∧ RSt V wx [⟨.agg #[.bool yn, .slice yo yk yc], decide (0 < a % b), limbs (a % b)⟩, ⟨.agg #[.bool xn, .slice xo xk xc], false, limbs (a / b)⟩] ∧ V.heap.size ≤ g ∧ V.heap.size ≤ h ∧ g ≠ h)
    case first =>
      go_region_held3 (fun wx => (wx.cell? ⟨B, 0, none⟩ = some (.bool true) ∧ wx.cell? ⟨B, 1, none⟩ = some (.slice po pk pc)) ∧ (wx.cell? ⟨B + 1, 0, none⟩ = some (.bool true) ∧ wx.cell? ⟨B + 1, 1, none⟩ = some (.slice ro rk rc)))
        ((refine ⟨?_, ?_⟩; ((repeat (first | with_reducible refine bcells_drew ?_ | with_reducible refine bcells_alloc ?_ | with_reducible refine bcells_stored (by omega) ?_)); exact (HC.out _ (by first | with_reducible exact Ext.refl _ | with_reducible exact RSt.ext (W := V) (by with_reducible assumption))).1); ((repeat (first | with_reducible refine bcells_drew ?_ | with_reducible refine bcells_alloc ?_ | with_reducible refine bcells_stored (by omega) ?_)); exact (HC.out _ (by first | with_reducible exact Ext.refl _ | with_reducible exact RSt.ext (W := V) (by with_reducible assumption))).2)))
        (first
          | (go_at_call 52; clear TAG1; refine ((CQ.out _ (by first | with_reducible assumption | with_reducible exact RSt.drew (by with_reducible assumption) | with_reducible exact RSt.alloc (by with_reducible assumption) _ | with_reducible exact RSt.alloc (RSt.alloc (by with_reducible assumption) _) _ | with_reducible exact RSt.drew (RSt.alloc (by with_reducible assumption) _) | with_reducible exact RSt.drew (RSt.alloc (RSt.alloc (by with_reducible assumption) _) _)))).mono ?_; rintro e wn ⟨xn, xo, xk, xc, rfl, hE1, stn⟩; have sz1 := sizeB stn.ext; (first | (have y12 := bbox_in2d (w := V) (wn := wn) (by with_reducible assumption); have y1 : Box wn V.heap.size false none 0 0 := y12.1; have y2 : Box wn (V.heap.size + 1) false none 0 0 := y12.2; clear y12; have yl1 := y1.lt; have yl2 := y2.lt) | (have y12 := bbox_in1d (w := V) (wn := wn) (by with_reducible assumption); have y1 : Box wn V.heap.size false none 0 0 := y12; clear y12; have yl1 := y1.lt) | skip))
          | (go_at_call 52; refine ((CR.out _ _ (by first | with_reducible assumption | with_reducible exact RSt.drew (by with_reducible assumption) | with_reducible exact RSt.alloc (by with_reducible assumption) _ | with_reducible exact RSt.alloc (RSt.alloc (by with_reducible assumption) _) _ | with_reducible exact RSt.drew (RSt.alloc (by with_reducible assumption) _) | with_reducible exact RSt.drew (RSt.alloc (RSt.alloc (by with_reducible assumption) _) _)))).mono ?_; rintro e wm ⟨yn, yo, yk, yc, rfl, hE2, stm⟩; have sz2 := sizeB stm.ext; (first | (obtain ⟨z1, z2⟩ := bbox_in2 (w := wn) (wn := wm) (by with_reducible assumption); have zl1 := z1.lt; have zl2 := z2.lt; have hE3 : Ext wn wm := Ext.trans (Ext.trans (ext_allocB _ _) (ext_allocB _ _)) hE2) | (have z1 := bbox_in1 (w := wn) (wn := wm) (by with_reducible assumption); have zl1 := z1.lt; have hE3 : Ext wn wm := Ext.trans (ext_allocB _ _) hE2) | (have hE3 : Ext wn wm := hE2)); (first | (have y2 := y2.below hE3; have ym2 := y2.lt; have v0 := y2.c0; have v1 := y2.c1; have v2 := y2.f 0; have v3 := y2.f 1) | skip); (first | (have y1 := y1.below hE3; have ym1 := y1.lt; have u0 := y1.c0; have u1 := y1.c1; have u2 := y1.f 0; have u3 := y1.f 1) | skip); (first | (have s0 := z1.c0; have s1 := z1.c1; have s2 := z1.f 0; have s3 := z1.f 1) | skip); (first | (have t0 := z2.c0; have t1 := z2.c1; have t2 := z2.f 0; have t3 := z2.f 1) | skip)))
      all_goals
        try clear u0 u1 u2 u3
        try clear v0 v1 v2 v3
        try clear s0 s1 s2 s3
        try clear t0 t1 t2 t3
        go_wp2
        go_meet
      all_goals
        refine ⟨_, _, xn, xo, xk, xc, yn, yo, yk, yc, rfl, rfl, ?_⟩
        first
          | (have _t := y2; first | (have F := bpair_stored (xn := xn) (xo := xo) (xk := xk) (xc := xc) (yn := yn) (yo := yo) (yk := yk) (yc := yc) y1 y2 (by omega) stm (by omega) (by omega); with_reducible exact ⟨F.1, F.2.1, F.2.2, by omega, by omega, by omega⟩) | (have F := bpair_stored (xn := xn) (xo := xo) (xk := xk) (xc := xc) (yn := yn) (yo := yo) (yk := yk) (yc := yc) y2 y1 (by omega) stm (by omega) (by omega); with_reducible exact ⟨F.1, F.2.1, F.2.2, by omega, by omega, by omega⟩))
          | (have _t := z2; first | (have F := bpair_stored (xn := xn) (xo := xo) (xk := xk) (xc := xc) (yn := yn) (yo := yo) (yk := yk) (yc := yc) z1 z2 (by omega) stm (by omega) (by omega); with_reducible exact ⟨F.1, F.2.1, F.2.2, by omega, by omega, by omega⟩) | (have F := bpair_stored (xn := xn) (xo := xo) (xk := xk) (xc := xc) (yn := yn) (yo := yo) (yk := yk) (yc := yc) z2 z1 (by omega) stm (by omega) (by omega); with_reducible exact ⟨F.1, F.2.1, F.2.2, by omega, by omega, by omega⟩))
          | (have _t := y1; have _t2 := z1; first | (have F := bpair_stored (xn := xn) (xo := xo) (xk := xk) (xc := xc) (yn := yn) (yo := yo) (yk := yk) (yc := yc) y1 z1 (by omega) stm (by omega) (by omega); with_reducible exact ⟨F.1, F.2.1, F.2.2, by omega, by omega, by omega⟩) | (have F := bpair_stored (xn := xn) (xo := xo) (xk := xk) (xc := xc) (yn := yn) (yo := yo) (yk := yk) (yc := yc) z1 y1 (by omega) stm (by omega) (by omega); with_reducible exact ⟨F.1, F.2.1, F.2.2, by omega, by omega, by omega⟩))
          | (have _t := y1; first | (have F := bfin_mix (xn := xn) (xo := xo) (xk := xk) (xc := xc) (yn := yn) (yo := yo) (yk := yk) (yc := yc) stm y1 (by omega); with_reducible exact ⟨F.1, F.2.1, F.2.2, by omega, by omega, by omega⟩) | (have F := bfin_mix (xn := yn) (xo := yo) (xk := yk) (xc := yc) (yn := xn) (yo := xo) (yk := xk) (yc := xc) stm y1 (by omega); with_reducible exact ⟨F.2.1, F.1, F.2.2, by omega, by omega, by omega⟩))
          | (have _t := z1; first | (have F := bfin_mix (xn := xn) (xo := xo) (xk := xk) (xc := xc) (yn := yn) (yo := yo) (yk := yk) (yc := yc) stm z1 (by omega); with_reducible exact ⟨F.1, F.2.1, F.2.2, by omega, by omega, by omega⟩) | (have F := bfin_mix (xn := yn) (xo := yo) (xk := yk) (xc := yc) (yn := xn) (yo := xo) (yk := xk) (yc := xc) stm z1 (by omega); with_reducible exact ⟨F.2.1, F.1, F.2.2, by omega, by omega, by omega⟩))
          | (have F := bfin_new (xn := xn) (xo := xo) (xk := xk) (xc := xc) (yn := yn) (yo := yo) (yk := yk) (yc := yc) stm; with_reducible exact ⟨F.1, F.2.1, F.2.2, by omega, by omega, by omega⟩)
          | (have F := bfin_new (xn := yn) (xo := yo) (xk := yk) (xc := yc) (yn := xn) (yo := xo) (yk := xk) (yc := xc) stm; with_reducible exact ⟨F.2.1, F.1, F.2.2, by omega, by omega, by omega⟩)
    obtain ⟨g, h, xn, xo, xk, xc, yn, yo, yk, yc, rfl, rfl, hx, hy, hst2, hg1, hh1, hgh⟩ := hcut
    obtain ⟨V2, hV2⟩ : ∃ V2, V2 = wc := ⟨wc, rfl⟩
    subst hV2
    obtain ⟨f1, hs1⟩ := ent_parts (hst2.bag _ (List.Mem.tail _ (List.Mem.head _)))
    obtain ⟨f2, hs2⟩ := ent_parts (hst2.bag _ (List.Mem.head _))
    have br := br.below hst2.ext
    have bs := bs.below hst2.ext
    have bY := bY.below hst2.ext
    have s2 := s2.below hst2.ext
    have hBV : Below B w V2 := Below.trans hBV (hst2.ext.mono (by omega))
    have hz2 : B + 4 ≤ V2.heap.size := by have := Below.size hst2.ext; omega
    have hykl : yk ≤ 1000000000 := by
      have h1 := hs2.len
      have h2 := len_le_of_le (Nat.le_of_lt (Nat.mod_lt a (Nat.pos_of_ne_zero h0)))
      rw [h1, HBL.out] at h2
      have h3 := hb.small
      omega
    have hxkl : xk ≤ 100000000 := by
      have h1 := hs1.len
      have h2 := len_le_of_le (Nat.div_le_self a b)
      rw [h1, HAL.out] at h2
      omega
    have hrkl : rk ≤ 1000000000 := by have h3 := hb.small; omega
    have hbx : Bn V2 xn xo xk xc (((a / b : Nat) : Int)) := bn_pos hs1 f1
    have hby : Bn V2 yn yo yk yc (-((a % b : Nat) : Int)) := bn_neg hs2 f2
    have hbn : Bn V2 true ro rk rc (-(b : Int)) := bn_neg s2 (decide_eq_true (by omega)).symm
    have hsg := refSign_any _ _ _ _ _ V2 (hby.bg hykl)
    obtain ⟨sg, hsgv⟩ : ∃ sg, sgn3 (-((a % b : Nat) : Int)) 0 = sg := ⟨_, rfl⟩
    rw [hsgv] at hsg
    have hsg0 : decide (sg < 0) = true := by
      rw [← hsgv]; unfold sgn3
      rw [if_pos (by omega)]; simp
    have HSG := Lib.hid hsg
    clear hsgv hsg hst std hst2 bx HC CQ CR hq1 hs1 hs2 f1 f2 s2
    have k0 := hy.c0
    have k1 := hy.c1
    go_wp2_with fail
    refine HSG.out.mono ?_
    rintro e V3 ⟨rfl, hV3⟩
    have hx := hx.below hV3
    have hy := hy.below hV3
    have br := br.below hV3
    have bs := bs.below hV3
    have bY := bY.below hV3
    have hbx := hbx.below hV3
    have hby := hby.below hV3
    have hbn := hbn.below hV3
    have hBV : Below B w V3 := Below.trans hBV (hV3.mono (by omega))
    have hz3 : B + 4 ≤ V3.heap.size := by have := Below.size hV3; omega
    clear k0 k1 hV3 HSG
    have ABS := Lib.hid (fun W h => refAbs_any _ _ _ _ (-(b : Int)) W (Bn.bg (w := W) (nb := true) (ao := ro) (n := rk) (cap := rc) h hrkl))
    have hya : (((-(b : Int)).natAbs : Nat) : Int) = ((b : Nat) : Int) := by omega
    have HYA := Lib.hid hya
    have HN := Lib.hid hbn
    have HY := Lib.hid hby
    have st : Ext V3 V3.drew := (Below.refl _ _).drew
    have k0 := hy.c0
    have k1 := hy.c1
    have l0 := bY.c0
    have l1 := bY.c1
    go_upto_region 5 with fail
    go_cut [] from 10 (fun wx => ∃ yn yo yk yc, Bn wx yn yo yk yc (-((a % b : Nat) : Int) + ((b : Nat) : Int)) ∧ Box wx h yn yo yk yc ∧ Box wx g xn xo xk xc ∧ Bn wx xn xo xk xc (((a / b : Nat) : Int)) ∧ Box wx (B + 1) true ro rk rc ∧ Box wx (B + 2) false none 0 0 ∧ Box wx (B + 3) false none 0 0 ∧ Below B w wx ∧ B + 4 ≤ wx.heap.size)
    case first =>
      go_region_with (first
        | (go_at_call 51; refine (ABS.out _ (by exact HN.out.below (by exact (Below.refl _ _).drew))).mono ?_; rintro e w6 ⟨an, so, ak, ac, rfl, ha6, hak, hE6⟩; have ex6 : Ext V3 w6 := Ext.trans (by exact (Below.refl _ _).drew) hE6; have f6 := hy.below ex6; have h0' := f6.c0; have h1' := f6.c1; rw [HYA.out] at ha6)
        | (go_at_call 35; refine (refAdd_any _ _ _ _ _ _ _ _ (-((a % b : Nat) : Int)) ((b : Nat) : Int) _ (by exact (HY.out.below ex6).bg hykl) (by exact ha6.bg (by omega))).mono ?_; rintro e w7 ⟨sn, uo, sk, sc, rfl, hs7, hE7⟩; have ex7 : Ext V3 w7 := Ext.trans ex6 hE7; have f7 := hy.below ex7; have a0 := f7.c0; have a1 := f7.c1; have g0 := f7.f 0; have g1 := f7.f 1))
      all_goals
        go_wp2
        go_meet
      all_goals
        clear a0 a1 g0 g1 k0 k1 l0 l1
        have o1 := only_set2 w7 h (.bool sn) (.slice uo sk sc)
        exact ⟨sn, uo, sk, sc, Bn.only_bx' hs7 f7 o1, f7.stored sn uo sk sc, (hx.below ex7).only o1 hgh, Bn.only_bx' (hbx.below ex7) f7 o1, (bY.below ex7).only o1 (by omega), (br.below ex7).only o1 (by omega), (bs.below ex7).only o1 (by omega), Below.trans (Below.trans hBV (ex7.mono (by omega))) (o1.below (by omega)), by rw [o1.size]; have := Below.size ex7; omega⟩
    case rest =>
    clear hy hx bY br bs hbx hby hbn HN HY ABS HYA hya k0 k1 l0 l1 st
    obtain ⟨yn, yo, yk, yc, hby, hy, hx, hbx, bY, br, bs, hBV, hz⟩ := hcut
    obtain ⟨V4, hV4⟩ : ∃ V4, V4 = wc := ⟨wc, rfl⟩
    subst hV4
    have ONE := Lib.hid (fun W => refFromInt_any 1 W (by omega) (by omega))
    have HX := Lib.hid hbx
    have k0 := hx.c0
    have k1 := hx.c1
    have l0 := bY.c0
    go_upto_region 7 with fail
    go_region_with (first
      | (go_at_call 18; refine (ONE.out _).mono ?_; rintro e w6 ⟨an, so, ak, ac, rfl, ha6, hE6⟩; have ex6 : Ext V4 w6 := Ext.trans (by exact (Below.refl _ _).drew) hE6; have f6 := hx.below ex6; have h0' := f6.c0; have h1' := f6.c1)
      | (go_at_call 35; refine (refAdd_any _ _ _ _ _ _ _ _ (((a / b : Nat) : Int)) 1 _ (by exact (HX.out.below ex6).bg (by omega)) (by exact bn_bg_of ha6 (by decide))).mono ?_; rintro e w7 ⟨sn, uo, sk, sc, rfl, hs7, hE7⟩; have ex7 : Ext V4 w7 := Ext.trans ex6 hE7; have f7 := hx.below ex7; have a0 := f7.c0; have a1 := f7.c1; have g0 := f7.f 0; have g1 := f7.f 1))
    all_goals
      have o1 := only_set2 w7 g (.bool sn) (.slice uo sk sc)
      have hbx := Bn.only_bx' hs7 f7 o1
      have hx := f7.stored sn uo sk sc
      have hy := (hy.below ex7).only o1 (Ne.symm hgh)
      have hby := Bn.only_bx' (hby.below ex7) f7 o1
      have br := (br.below ex7).only o1 (by omega)
      have bs := (bs.below ex7).only o1 (by omega)
      have hBV := Below.trans (Below.trans hBV (ex7.mono (by omega))) (o1.below (by omega))
      clear HX ONE f6 f7 h0' h1' a0 a1 g0 g1 k0 k1 l0 bY ex6 ex7 hE6 hE7 ha6 hs7
      generalize (w7.setCell ⟨g, 0, none⟩ (.bool sn)).setCell ⟨g, 1, none⟩ (.slice uo sk sc) = V5 at *
      have k0 := hy.c0
      have k1 := hy.c1
      have l0 := hx.c0
      have l1 := hx.c1
      have q0 := br.c0
      have q1 := br.c1
      have q2 := br.f 0
      have q3 := br.f 1
      have t0 := bs.c0
      have t1 := bs.c1
      have t2 := bs.f 0
      have t3 := bs.f 1
      have hres := two_bns br bs (by omega) (B := B) (by omega) (by omega) hbx hby hBV
      have HRES := Lib.hid hres; clear hres
      have n1 : ¬ h = B + 1 + 1 := by omega
      have n2 : ¬ B + 1 + 1 = h := by omega
      have n3 : ¬ g = B + 1 + 1 := by omega
      have n4 : ¬ B + 1 + 1 = g := by omega
      have n5 : ¬ h = B + 1 + 1 + 1 := by omega
      have n6 : ¬ B + 1 + 1 + 1 = h := by omega
      have n7 : ¬ g = B + 1 + 1 + 1 := by omega
      have n8 : ¬ B + 1 + 1 + 1 = g := by omega
      clear hbx hby hBV hx hy br bs
      go_wp2
      go_region
      obtain ⟨r1, r2, r3, r4, r5⟩ := HRES.out
      generalize hWe : World.drew _ = V9 at r1 r2 r3 r4 r5 ⊢
      have z0 := r4.c0
      have z1 := r4.c1
      have z2 := r5.c0
      have z3 := r5.c1
      have R := Lib.hid (And.intro r1 (And.intro r2 r3))
      clear r1 r2 r3 r4 r5 hWe q0 q1 t0 t1 HRES
      go_wp2
      refine bodyPost_ret (v := .tuple #[.agg #[.bool sn, .slice uo sk sc], .agg #[.bool yn, .slice yo yk yc]]) (by simp [results, Tryz.results48, go_sem, z0, z1, z2, z3]) rfl ⟨sn, uo, sk, sc, yn, yo, yk, yc, rfl, R.out.1, R.out.2.1, ?_⟩
      show Below _ _ _; rw [HBe.out]; exact R.out.2.2
end Go.Proofs.YtlpclahlolhjfaaGreatDoor
