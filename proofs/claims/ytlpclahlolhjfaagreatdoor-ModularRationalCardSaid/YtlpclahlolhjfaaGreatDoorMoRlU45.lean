import Derived.Test.YtlpclahlolhjfaaGreatDoorMoRlU23
import Derived.Test.YtlpclahlolhjfaaGreatDoorMoRlU39
import Derived.Test.YtlpclahlolhjfaaGreatDoorMoRlU21
namespace Go.Proofs.YtlpclahlolhjfaaGreatDoor
open Go Go.RowKit

/-- what Abs does, as an entry at hand -/
theorem abs_ent (nb : Bool) (so : Option Addr) (k sc : Nat) (x : Int) {V W : World} {L : List REnt} (hst : RSt V W L) (hx : Bg W nb so k sc x) :
    Calls Tryz.prog 51 #[.agg #[.bool nb, .slice so k sc]] W fun e w' => ∃ xn xo xk xc, e = .returned (.agg #[.bool xn, .slice xo xk xc]) ∧ Ext W w' ∧ RSt V w' (⟨.agg #[.bool xn, .slice xo xk xc], false, limbs x.natAbs⟩ :: L) := by
  refine (refAbs_any nb so k sc x W hx).mono fun e w' ⟨nr, ro, l, cr, he, hn, _, hw⟩ => ⟨nr, ro, l, cr, he, hw, hst.ext.trans hw, fun p hp => ?_⟩
  rcases List.mem_cons.1 hp with rfl | hp
  · have h1 := hn.neg
    have h2 := hn.sl
    rw [Int.natAbs_natCast] at h2
    rw [show decide (((x.natAbs : Nat) : Int) < 0) = false by simp] at h1
    subst h1
    exact ⟨ro, l, cr, rfl, h2⟩
  · exact (hst.bag p hp).ext hw

theorem bn_nat {w : World} {ao : Option Addr} {n ca a : Nat} (h : Sl w ao n ca (limbs a)) : Bn w false ao n ca (a : Int) := ⟨(decide_eq_false (Int.not_lt.2 (Int.natCast_nonneg _))).symm, by rw [Int.natAbs_natCast]; exact h⟩

set_option maxRecDepth 100000 in
set_option maxHeartbeats 8000000 in
theorem refGcd_any (pn rn : Bool) (po ro : Option Addr) (pk rk pc rc : Nat) (x y : Int) (w : World) (ha : Bg w pn po pk pc x) (hb : Bg w rn ro rk rc y) (hn : x.natAbs < 4294967296 ^ 100000000) (hm : y.natAbs < 4294967296 ^ 100000000) :
    Calls Tryz.prog 17 #[.agg #[.bool pn, .slice po pk pc], .agg #[.bool rn, .slice ro rk rc]] w fun e w' => ∃ nr so k cr, e = .returned (.agg #[.bool nr, .slice so k cr]) ∧ Bn w' nr so k cr ((Nat.gcd x.natAbs y.natAbs : Nat) : Int) ∧ Ext w w' := by
  obtain ⟨G, hG⟩ : ∃ G, Nat.gcd x.natAbs y.natAbs = G := ⟨_, rfl⟩
  rw [hG]
  have HG := Lib.hid hG
  have HN := Lib.hid hn
  have HM := Lib.hid hm
  clear hG hn hm
  go_enter Tryz.func17, Tryz.ntmps17
  go_upto_region 1 with fail
  obtain ⟨W, hW, hB, hx, hy, hr, hz⟩ := boxes2 w pn po pk pc rn ro rk rc
  rw [← hW]
  clear hW
  have ha := ha.below hB
  have hb := hb.below hB
  generalize hBe : w.heap.size = B at *
  have HBe := Lib.hid hBe
  have HB := Lib.hid hB
  clear hBe hB
  have CX := Lib.hid (fun W' L' (h : RSt W W' L') => abs_ent pn po pk pc x h (ha.below h.ext))
  have CY := Lib.hid (fun W' L' (h : RSt W W' L') => abs_ent rn ro rk rc y h (hb.below h.ext))
  have hcells : ∀ wx, Ext W wx → (wx.cell? ⟨B, 0, none⟩ = some (.bool pn) ∧ wx.cell? ⟨B, 1, none⟩ = some (.slice po pk pc)) ∧ (wx.cell? ⟨B + 1, 0, none⟩ = some (.bool rn) ∧ wx.cell? ⟨B + 1, 1, none⟩ = some (.slice ro rk rc)) := fun wx h =>
    ⟨⟨(hx.below h).c0, (hx.below h).c1⟩, ⟨(hy.below h).c0, (hy.below h).c1⟩⟩
  have HC := Lib.hid hcells; clear hcells
  obtain ⟨⟨p0, p1⟩, r0, r1⟩ := HC.out W (Ext.refl W)
  have hst : RSt W W [] := ⟨Ext.refl W, fun p hp => by cases hp⟩
  have std := hst.drew
  clear hx hy ha hb
  have TAG1 := Lib.hid trivial
  go_cut [5, 6] from 9 (fun p q wx => ∃ g h xn xo xk xc yn yo yk yc, p = .pointer (some ⟨g, 0, none⟩) ∧ q = .pointer (some ⟨h, 0, none⟩) ∧
    Box wx g xn xo xk xc ∧ Box wx h yn yo yk yc ∧ RSt W wx [⟨.agg #[.bool yn, .slice yo yk yc], false, limbs y.natAbs⟩, ⟨.agg #[.bool xn, .slice xo xk xc], false, limbs x.natAbs⟩] ∧ W.heap.size ≤ g ∧ W.heap.size ≤ h ∧ g ≠ h)
  case first =>
    go_region_held3 (fun wx => (wx.cell? ⟨B, 0, none⟩ = some (.bool pn) ∧ wx.cell? ⟨B, 1, none⟩ = some (.slice po pk pc)) ∧ (wx.cell? ⟨B + 1, 0, none⟩ = some (.bool rn) ∧ wx.cell? ⟨B + 1, 1, none⟩ = some (.slice ro rk rc)))
      ((refine ⟨?_, ?_⟩; ((repeat (first | with_reducible refine bcells_drew ?_ | with_reducible refine bcells_alloc ?_ | with_reducible refine bcells_stored (by omega) ?_)); exact (HC.out _ (by first | with_reducible exact Ext.refl _ | with_reducible exact RSt.ext (W := W) (by with_reducible assumption))).1); ((repeat (first | with_reducible refine bcells_drew ?_ | with_reducible refine bcells_alloc ?_ | with_reducible refine bcells_stored (by omega) ?_)); exact (HC.out _ (by first | with_reducible exact Ext.refl _ | with_reducible exact RSt.ext (W := W) (by with_reducible assumption))).2)))
      (first
        | (go_at_call 51; clear TAG1; refine ((CX.out _ _ (by first | with_reducible assumption | with_reducible exact RSt.drew (by with_reducible assumption) | with_reducible exact RSt.alloc (by with_reducible assumption) _ | with_reducible exact RSt.alloc (RSt.alloc (by with_reducible assumption) _) _ | with_reducible exact RSt.drew (RSt.alloc (by with_reducible assumption) _) | with_reducible exact RSt.drew (RSt.alloc (RSt.alloc (by with_reducible assumption) _) _)))).mono ?_; rintro e wn ⟨xn, xo, xk, xc, rfl, hE1, stn⟩; have sz1 := sizeB stn.ext; (first | (have y12 := bbox_in2d (w := W) (wn := wn) (by with_reducible assumption); have y1 : Box wn W.heap.size false none 0 0 := y12.1; have y2 : Box wn (W.heap.size + 1) false none 0 0 := y12.2; clear y12; have yl1 := y1.lt; have yl2 := y2.lt) | (have y12 := bbox_in1d (w := W) (wn := wn) (by with_reducible assumption); have y1 : Box wn W.heap.size false none 0 0 := y12; clear y12; have yl1 := y1.lt) | skip))
        | (go_at_call 51; refine ((CY.out _ _ (by first | with_reducible assumption | with_reducible exact RSt.drew (by with_reducible assumption) | with_reducible exact RSt.alloc (by with_reducible assumption) _ | with_reducible exact RSt.alloc (RSt.alloc (by with_reducible assumption) _) _ | with_reducible exact RSt.drew (RSt.alloc (by with_reducible assumption) _) | with_reducible exact RSt.drew (RSt.alloc (RSt.alloc (by with_reducible assumption) _) _)))).mono ?_; rintro e wm ⟨yn, yo, yk, yc, rfl, hE2, stm⟩; have sz2 := sizeB stm.ext; (first | (obtain ⟨z1, z2⟩ := bbox_in2 (w := wn) (wn := wm) (by with_reducible assumption); have zl1 := z1.lt; have zl2 := z2.lt; have hE3 : Ext wn wm := Ext.trans (Ext.trans (ext_allocB _ _) (ext_allocB _ _)) hE2) | (have z1 := bbox_in1 (w := wn) (wn := wm) (by with_reducible assumption); have zl1 := z1.lt; have hE3 : Ext wn wm := Ext.trans (ext_allocB _ _) hE2) | (have hE3 : Ext wn wm := hE2)); (first | (have y2 := y2.below hE3; have ym2 := y2.lt; have v0 := y2.c0; have v1 := y2.c1; have v2 := y2.f 0; have v3 := y2.f 1) | skip); (first | (have y1 := y1.below hE3; have ym1 := y1.lt; have u0 := y1.c0; have u1 := y1.c1; have u2 := y1.f 0; have u3 := y1.f 1) | skip); (first | (have s0 := z1.c0; have s1 := z1.c1; have s2 := z1.f 0; have s3 := z1.f 1) | skip); (first | (have t0 := z2.c0; have t1 := z2.c1; have t2 := z2.f 0; have t3 := z2.f 1) | skip)))
    all_goals
      try clear u0 u1 u2 u3
      try clear v0 v1 v2 v3
      try clear s0 s1 s2 s3
      try clear t0 t1 t2 t3
      go_wp2
      go_meet
    all_goals
      refine ⟨_, _, xn, xo, xk, xc, yn, yo, yk, yc, rfl, rfl, ?_⟩
      first
        | (have _t := y2; first | (have F := bpair_stored (xn := xn) (xo := xo) (xk := xk) (xc := xc) (yn := yn) (yo := yo) (yk := yk) (yc := yc) y1 y2 (by omega) stm (by omega) (by omega); with_reducible exact ⟨F.1, F.2.1, F.2.2, by omega, by omega, by omega⟩) | (have F := bpair_stored (xn := xn) (xo := xo) (xk := xk) (xc := xc) (yn := yn) (yo := yo) (yk := yk) (yc := yc) y2 y1 (by omega) stm (by omega) (by omega); with_reducible exact ⟨F.1, F.2.1, F.2.2, by omega, by omega, by omega⟩))
        | (have _t := z2; first | (have F := bpair_stored (xn := xn) (xo := xo) (xk := xk) (xc := xc) (yn := yn) (yo := yo) (yk := yk) (yc := yc) z1 z2 (by omega) stm (by omega) (by omega); with_reducible exact ⟨F.1, F.2.1, F.2.2, by omega, by omega, by omega⟩) | (have F := bpair_stored (xn := xn) (xo := xo) (xk := xk) (xc := xc) (yn := yn) (yo := yo) (yk := yk) (yc := yc) z2 z1 (by omega) stm (by omega) (by omega); with_reducible exact ⟨F.1, F.2.1, F.2.2, by omega, by omega, by omega⟩))
        | (have _t := y1; have _t2 := z1; first | (have F := bpair_stored (xn := xn) (xo := xo) (xk := xk) (xc := xc) (yn := yn) (yo := yo) (yk := yk) (yc := yc) y1 z1 (by omega) stm (by omega) (by omega); with_reducible exact ⟨F.1, F.2.1, F.2.2, by omega, by omega, by omega⟩) | (have F := bpair_stored (xn := xn) (xo := xo) (xk := xk) (xc := xc) (yn := yn) (yo := yo) (yk := yk) (yc := yc) z1 y1 (by omega) stm (by omega) (by omega); with_reducible exact ⟨F.1, F.2.1, F.2.2, by omega, by omega, by omega⟩))
        | (have _t := y1; first | (have F := bfin_mix (xn := xn) (xo := xo) (xk := xk) (xc := xc) (yn := yn) (yo := yo) (yk := yk) (yc := yc) stm y1 (by omega); with_reducible exact ⟨F.1, F.2.1, F.2.2, by omega, by omega, by omega⟩) | (have F := bfin_mix (xn := yn) (xo := yo) (xk := yk) (xc := yc) (yn := xn) (yo := xo) (yk := xk) (yc := xc) stm y1 (by omega); with_reducible exact ⟨F.2.1, F.1, F.2.2, by omega, by omega, by omega⟩))
        | (have _t := z1; first | (have F := bfin_mix (xn := xn) (xo := xo) (xk := xk) (xc := xc) (yn := yn) (yo := yo) (yk := yk) (yc := yc) stm z1 (by omega); with_reducible exact ⟨F.1, F.2.1, F.2.2, by omega, by omega, by omega⟩) | (have F := bfin_mix (xn := yn) (xo := yo) (xk := yk) (xc := yc) (yn := xn) (yo := xo) (yk := xk) (yc := xc) stm z1 (by omega); with_reducible exact ⟨F.2.1, F.1, F.2.2, by omega, by omega, by omega⟩))
        | (have F := bfin_new (xn := xn) (xo := xo) (xk := xk) (xc := xc) (yn := yn) (yo := yo) (yk := yk) (yc := yc) stm; with_reducible exact ⟨F.1, F.2.1, F.2.2, by omega, by omega, by omega⟩)
        | (have F := bfin_new (xn := yn) (xo := yo) (xk := yk) (xc := yc) (yn := xn) (yo := xo) (yk := xk) (yc := xc) stm; with_reducible exact ⟨F.2.1, F.1, F.2.2, by omega, by omega, by omega⟩)
  case rest =>
    obtain ⟨g, h, xn, xo, xk, xc, yn, yo, yk, yc, rfl, rfl, hx, hy, hst2, hg1, hh1, hgh⟩ := hcut
    obtain ⟨V2, hV2⟩ : ∃ V2, V2 = wc := ⟨wc, rfl⟩
    subst hV2
    obtain ⟨_, _, _, e1, hs1⟩ := (hst2.bag _ (List.Mem.tail _ (List.Mem.head _))).parts
    cases e1
    obtain ⟨_, _, _, e2, hs2⟩ := (hst2.bag _ (List.Mem.head _)).parts
    cases e2
    have hr := hr.below hst2.ext
    have hB2 := Lib.hid (HB.out.trans (hst2.ext.mono (by omega)))
    have b1 := bn_nat hs1
    have b2 := bn_nat hs2
    have hgB : B + 3 ≤ g := by omega
    have hhB : B + 3 ≤ h := by omega
    clear hst std hst2 hs1 hs2 CX CY HC HB p0 p1 r0 r1
    go_wp2
    go_loopw [7, 8] (fun _ _ wr => ∃ (X Y : Nat) (xn yn : Bool) (xo yo : Option Addr) (xk xc yk yc : Nat), Box wr g xn xo xk xc ∧ Bn wr xn xo xk xc (X : Int) ∧ Box wr h yn yo yk yc ∧ Bn wr yn yo yk yc (Y : Int) ∧ Box wr (B + 1 + 1) false none 0 0 ∧ Nat.gcd X Y = G ∧ X < 4294967296 ^ 100000000 ∧ Y < 4294967296 ^ 100000000 ∧ Below B w wr)
      (fun _ _ wr => numAt wr h)
    case atStart => exact ⟨x.natAbs, y.natAbs, _, _, _, _, _, _, _, _, hx, b1, hy, b2, hr, HG.out, HN.out, HM.out, hB2.out⟩
    case round =>
      clear hx hy b1 b2 hr hB2
      obtain ⟨X, Y, xn, yn, xo, yo, xk, xc, yk, yc, hx, hX, hy, hY, hr, hgcd, hXl, hYl, hB⟩ := hrel
      have HNUM := Lib.hid (numAt_is (w := wr) (g := h) (x := Y) ⟨yn, yo, yk, yc, hy, hY⟩)
      have lx : xk ≤ 100000000 := by
        have := (limbs_len_le X 100000000).2 hXl
        have e := hX.sl.len
        rw [Int.natAbs_natCast] at e
        omega
      have ly : yk ≤ 100000000 := by
        have := (limbs_len_le Y 100000000).2 hYl
        have e := hY.sl.len
        rw [Int.natAbs_natCast] at e
        omega
      have HGC := Lib.hid hgcd
      have HXl := Lib.hid hXl
      have HYl := Lib.hid hYl
      clear hgcd hXl hYl
      obtain ⟨s, hs⟩ : ∃ s, sgn3 (Y : Int) 0 = s := ⟨_, rfl⟩
      have CS := refSign_any _ _ _ _ _ wr (hY.bg (by omega))
      rw [hs] at CS
      have CS := Lib.hid CS
      have HBel := Lib.hid hB
      have HBz := Lib.hid (show B ≤ wr.heap.size from by rw [← HBe.out]; exact Below.size hB)
      clear hB
      have k0 := hy.c0
      have k1 := hy.c1
      go_wp2_with fail
      refine CS.out.mono ?_
      rintro e w3 ⟨rfl, hE⟩
      have hx := hx.below hE
      have hy := hy.below hE
      have hX := hX.below hE
      have hY := hY.below hE
      have hr := hr.below hE
      have HBel := Lib.hid (HBel.out.trans (Below.mono hE HBz.out))
      have HBz := Lib.hid (Nat.le_trans HBz.out (Below.size hE))
      clear k0 k1 CS hE
      have k0 := hy.c0
      have k1 := hy.c1
      have l0 := hx.c0
      have l1 := hx.c1
      by_cases h0 : Y = 0
      · subst h0
        obtain rfl : 0 = s := hs
        have hXG : X = G := by rw [← HGC.out, Nat.gcd_zero_right]
        subst hXG
        have q0 := hr.c0
        have q1 := hr.c1
        have q2 := hr.f 0
        have q3 := hr.f 1
        have z := hr.stored xn xo xk xc
        have z0 := z.c0
        have z1 := z.c1
        have HF := Lib.hid (And.intro (hX.only_bx' hr (only_set2 w3 (B + 1 + 1) (.bool xn) (.slice xo xk xc))) (HBel.out.trans ((only_set2 w3 (B + 1 + 1) (.bool xn) (.slice xo xk xc)).below (by omega))))
        clear z hX hY hx hy
        go_wp2
        refine bodyPost_ret (v := .agg #[.bool xn, .slice xo xk xc]) (by simp [results, Tryz.results17, go_sem, z0, z1]) rfl ⟨xn, xo, xk, xc, rfl, HF.out.1, ?_⟩
        show Below _ _ _
        rw [HBe.out]
        exact HF.out.2
      · obtain rfl : 1 = s := by rw [← hs]; unfold sgn3; rw [if_neg (by omega), if_pos (by omega)]
        clear hs
        have H0 := Lib.hid h0
        go_wp2_with fail
        refine (refDivMod_pos X Y _ _ _ _ _ _ _ _ w3 (hX.bg (by omega)) (hY.bg (by omega)) (by omega) h0).mono ?_
        rintro e w4 ⟨qn, qo, qk, qc, tn, uo, tk, tc, rfl, hq, ht, hE⟩
        have hx := hx.below hE
        have hy := hy.below hE
        have hX := hX.below hE
        have hY := hY.below hE
        have hr := hr.below hE
        have HBel := Lib.hid (HBel.out.trans (Below.mono hE HBz.out))
        have HBz := Lib.hid (Nat.le_trans HBz.out (Below.size hE))
        clear k0 k1 l0 l1 hE h0
        go_upto_region 4 with fail
        obtain ⟨W5, hW5, hE, hq5, ht5⟩ := box_pair w4 qn qo qk qc tn uo tk tc
        rw [← hW5]
        clear hW5
        have lg := hx.lt
        have lh := hy.lt
        have hx := hx.below hE
        have hy := hy.below hE
        have hX := hX.below hE
        have hY := hY.below hE
        have ht := ht.below hE
        have hr := hr.below hE
        have HBel := Lib.hid (HBel.out.trans (Below.mono hE HBz.out))
        generalize w4.heap.size = D at *
        clear hE hq hq5 hX
        have hml := Nat.mod_lt X (Nat.pos_of_ne_zero H0.out)
        have hgcd2 : Nat.gcd Y (X % Y) = G := by rw [← HGC.out, Nat.gcd_comm X Y, Nat.gcd_rec Y X, Nat.gcd_comm]
        generalize X % Y = R at *
        obtain ⟨r1, r2, r3, r4, r5⟩ := two_bns (B := B) (w0 := w) hx hy hgh (by omega) (by omega) hY ht HBel.out
        have hr6 : Box ((((W5.setCell ⟨g, 0, none⟩ (.bool yn)).setCell ⟨g, 1, none⟩ (.slice yo yk yc)).setCell ⟨h, 0, none⟩ (.bool tn)).setCell ⟨h, 1, none⟩ (.slice uo tk tc)).drew (B + 1 + 1) false none 0 0 :=
          ((hr.only (only_set2 W5 g _ _) (by omega)).only (only_set2 _ h _ _) (by omega)).drew
        have hnum2 := numAt_is (g := h) (x := R) ⟨tn, uo, tk, tc, r5, r2⟩
        have HR := Lib.hid (And.intro r1 (And.intro r2 (And.intro r3 (And.intro r4 (And.intro r5 (And.intro hr6 (And.intro hml hgcd2)))))))
        have HV2 := Lib.hid hnum2
        have k0 := hy.c0
        have k1 := hy.c1
        have l0 := hx.c0
        have l1 := hx.c1
        have l2 := hx.f 0
        have l3 := hx.f 1
        have k2 := hy.f 0
        have k3 := hy.f 1
        have t0 := ht5.c0
        have t1 := ht5.c1
        have n1 : ¬ h = g := fun e => hgh e.symm
        have n2 : ¬ g = h := hgh
        have n3 : ¬ g = D + 1 := by omega
        have n4 : ¬ D + 1 = g := by omega
        have n5 : ¬ h = D + 1 := by omega
        have n6 : ¬ D + 1 = h := by omega
        clear r1 r2 r3 r4 r5 hr6 hml hgcd2 hnum2 hx hy hY ht hr ht5
        go_wp2
        go_region
        go_wp2
        go_roundw
        case rel => exact ⟨Y, R, yn, tn, yo, uo, yk, yc, tk, tc, HR.out.2.2.2.1, HR.out.1, HR.out.2.2.2.2.1, HR.out.2.1, HR.out.2.2.2.2.2.1, HR.out.2.2.2.2.2.2.2, HYl.out, Nat.lt_trans HR.out.2.2.2.2.2.2.1 HYl.out, HR.out.2.2.1⟩
        case measure => rw [HNUM.out, HV2.out]; exact HR.out.2.2.2.2.2.2.1
end Go.Proofs.YtlpclahlolhjfaaGreatDoor
