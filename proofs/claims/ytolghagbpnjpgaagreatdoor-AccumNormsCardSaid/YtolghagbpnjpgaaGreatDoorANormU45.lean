import Derived.Test.YtolghagbpnjpgaaGreatDoorANormU44
import Derived.Test.YtolghagbpnjpgaaGreatDoorANormU33
import Derived.Test.YtolghagbpnjpgaaGreatDoorANormU42
import Derived.RegionTactic
import Derived.ChangeAlike
import Derived.Test.YtolghagbpnjpgaaGreatDoorANormU18
import Derived.Test.YtolghagbpnjpgaaGreatDoorANormU35
import Derived.Test.YtolghagbpnjpgaaGreatDoorANormU20
namespace Go.Proofs.YtolghagbpnjpgaaGreatDoor
open Go Go.RowKit

theorem boxes_four (w : World) (nb : Bool) (ao : Option Addr) (n ca : Nat) (mb : Bool) (bo : Option Addr) (m cb : Nat) :
    ∃ W, W = (((w.alloc (.cells #[.bool nb, .slice ao n ca] 31)).alloc (.cells #[.bool mb, .slice bo m cb] 31)).alloc (.cells #[.bool false, .slice none 0 0] 31)).alloc (.cells #[.bool false, .slice none 0 0] 31) ∧ Below w.heap.size w W ∧
      Box W w.heap.size nb ao n ca ∧ Box W (w.heap.size + 1) mb bo m cb ∧ Box W (w.heap.size + 2) false none 0 0 ∧ Box W (w.heap.size + 3) false none 0 0 ∧ W.heap.size = w.heap.size + 4 := by
  obtain ⟨W1, hW1, h1, h2, h3, h4, h5⟩ := boxes2 w nb ao n ca mb bo m cb
  have hsz : W1.heap.size = w.heap.size + 3 := by rw [hW1]; simp
  refine ⟨_, rfl, ?_, ?_, ?_, ?_, ?_, ?_⟩
  all_goals rw [← hW1]
  · exact h1.alloc (by omega) _
  · exact h2.below (ext_allocB _ _)
  · exact h3.below (ext_allocB _ _)
  · exact h4.below (ext_allocB _ _)
  · have := Box.new W1 false none 0 0
    rw [hsz] at this
    exact this
  · simp [hsz]

theorem two_bns {w w0 : World} {g h B : Nat} {nb mb xn yn : Bool} {ao bo xo yo : Option Addr} {n m ca cb xk xc yk yc : Nat} {X Y : Int} (hg : Box w g nb ao n ca) (hh : Box w h mb bo m cb) (hne : g ≠ h) (hBg : B ≤ g) (hBh : B ≤ h)
    (hx : Bn w xn xo xk xc X) (hy : Bn w yn yo yk yc Y) (hb : Below B w0 w) :
    Bn ((((w.setCell ⟨g, 0, none⟩ (.bool xn)).setCell ⟨g, 1, none⟩ (.slice xo xk xc)).setCell ⟨h, 0, none⟩ (.bool yn)).setCell ⟨h, 1, none⟩ (.slice yo yk yc)).drew xn xo xk xc X ∧
    Bn ((((w.setCell ⟨g, 0, none⟩ (.bool xn)).setCell ⟨g, 1, none⟩ (.slice xo xk xc)).setCell ⟨h, 0, none⟩ (.bool yn)).setCell ⟨h, 1, none⟩ (.slice yo yk yc)).drew yn yo yk yc Y ∧
    Below B w0 ((((w.setCell ⟨g, 0, none⟩ (.bool xn)).setCell ⟨g, 1, none⟩ (.slice xo xk xc)).setCell ⟨h, 0, none⟩ (.bool yn)).setCell ⟨h, 1, none⟩ (.slice yo yk yc)).drew ∧
    Box ((((w.setCell ⟨g, 0, none⟩ (.bool xn)).setCell ⟨g, 1, none⟩ (.slice xo xk xc)).setCell ⟨h, 0, none⟩ (.bool yn)).setCell ⟨h, 1, none⟩ (.slice yo yk yc)).drew g xn xo xk xc ∧
    Box ((((w.setCell ⟨g, 0, none⟩ (.bool xn)).setCell ⟨g, 1, none⟩ (.slice xo xk xc)).setCell ⟨h, 0, none⟩ (.bool yn)).setCell ⟨h, 1, none⟩ (.slice yo yk yc)).drew h yn yo yk yc := by
  obtain ⟨a1, a2, a3, a4, a5⟩ := two_stored hg hh hne hBg hBh xn yn xo yo xk yk xc yc _ _ hx.sl hy.sl
  exact ⟨⟨hx.neg, a3.drew⟩, ⟨hy.neg, a4.drew⟩, (Below.trans hb a5).drew, a1.drew, a2.drew⟩

/-- what make1 does, as an entry at hand -/
theorem make1_ent (so : Option Addr) (k sc : Nat) (N : Nat) {V W : World} {L : List REnt} (hst : RSt V W L) (hs : Sl W so k sc (limbs N)) :
    Calls Tryz.prog 155 #[.bool false, .slice so k sc] W fun e w' => ∃ xn xo xk xc, e = .returned (.agg #[.bool xn, .slice xo xk xc]) ∧ Ext W w' ∧ RSt V w' (⟨.agg #[.bool xn, .slice xo xk xc], false, limbs N⟩ :: L) := by
  refine (make1_any false so k sc (limbs N) W hs).mono fun e w' ⟨nr, ro, l, cr, he, hn, _, hw⟩ => ⟨nr, ro, l, cr, he, hw, hst.ext.trans hw, fun p hp => ?_⟩
  rcases List.mem_cons.1 hp with rfl | hp
  · have hx : sgd false (limbs N) = (N : Int) := by show num (limbs N) = _; rw [num_limbs]
    rw [hx] at hn
    have h1 := hn.neg
    have h2 := hn.sl
    rw [Int.natAbs_natCast] at h2
    rw [show decide ((N : Int) < 0) = false by simp] at h1
    subst h1
    exact ⟨ro, l, cr, rfl, h2⟩
  · exact (hst.bag p hp).ext hw

set_option maxRecDepth 100000 in
set_option maxHeartbeats 8000000 in
theorem refDivMod_pos (a b : Nat) (nb mb : Bool) (ao bo : Option Addr) (n m ca cb : Nat) (w : World) (ha : Bg w nb ao n ca (a : Int)) (hb : Bg w mb bo m cb (b : Int)) (hn : n ≤ 100000000) (h0 : b ≠ 0) :
    Calls Tryz.prog 159 #[.agg #[.bool nb, .slice ao n ca], .agg #[.bool mb, .slice bo m cb]] w fun e w' => ∃ qn qo qk qc rn ro rk rc, e = .returned (.tuple #[.agg #[.bool qn, .slice qo qk qc], .agg #[.bool rn, .slice ro rk rc]]) ∧
      Bn w' qn qo qk qc ((a / b : Nat) : Int) ∧ Bn w' rn ro rk rc ((a % b : Nat) : Int) ∧ Ext w w' := by
  go_enter Tryz.func159, Tryz.ntmps159
  go_upto_region 1 with fail
  obtain ⟨W, hW, hB, hx, hy, hr, hs, hz⟩ := boxes_four w nb ao n ca mb bo m cb
  rw [← hW]
  clear hW
  have ha1 := ha.below hB
  have hb1 := hb.below hB
  generalize hBe : w.heap.size = B at *
  have HBe := Lib.hid hBe; clear hBe ha
  go_cut [] from 10 (fun wx => ∃ pn po pk pc rn ro rk rc, Bn wx pn po pk pc (a : Int) ∧ Bn wx rn ro rk rc (b : Int) ∧ Box wx B pn po pk pc ∧ Box wx (B + 1) rn ro rk rc ∧ Box wx (B + 2) false none 0 0 ∧ Box wx (B + 3) false none 0 0 ∧ pk ≤ n ∧ rk ≤ m ∧ Below B w wx ∧ B + 4 ≤ wx.heap.size)
  case first =>
    have k0 := hx.c0
    have k1 := hx.c1
    have l0 := hy.c0
    have l1 := hy.c1
    go_region_with (first
      | (go_at_call 149; refine (refNorm_any _ _ _ _ _ _ (by exact ha1.below (by exact (Below.refl _ _).drew))).mono ?_; rintro e w1 ⟨pn, po, pk, pc, rfl, hp, hpk, hw1⟩; have ex1 : Ext W w1 := Ext.trans (by exact (Below.refl _ _).drew) hw1; have fb := hy.below ex1; have h0 := fb.c0; have h1 := fb.c1)
      | (go_at_call 149; refine (refNorm_any _ _ _ _ _ _ (by exact hb1.below ex1)).mono ?_; rintro e w2 ⟨rn, ro, rk, rc, rfl, hq, hqk, hw2⟩; have ex2 : Ext W w2 := Ext.trans ex1 hw2; have hp := hp.below hw2; clear h0 h1; have fa := hx.below ex2; have fb := hy.below ex2; have a0 := fa.c0; have a1 := fa.c1; have b0 := fb.c0; have b1 := fb.c1; have g0 := fa.f 0; have g1 := fa.f 1; have h0 := fb.f 0; have h1 := fb.f 1))
    all_goals
      go_wp2
      go_meet
    all_goals
      clear a0 a1 b0 b1 g0 g1 h0 h1 k0 k1 l0 l1
      have hne : B ≠ B + 1 := by omega
      have o1 := only_set2 w2 B (.bool pn) (.slice po pk pc)
      have u1 := fa.stored pn po pk pc
      have u2 := fb.only o1 (Ne.symm hne)
      have p1 := Bn.only_bx' hp fa o1
      have q1 := Bn.only_bx' hq fa o1
      have r1 := (hr.below ex2).only o1 (by omega)
      have s1 := (hs.below ex2).only o1 (by omega)
      generalize hW3 : (w2.setCell ⟨B, 0, none⟩ (.bool pn)).setCell ⟨B, 1, none⟩ (.slice po pk pc) = w3 at *
      have o2 := only_set2 w3 (B + 1) (.bool rn) (.slice ro rk rc)
      refine ⟨pn, po, pk, pc, rn, ro, rk, rc, Bn.only_bx' p1 u2 o2, Bn.only_bx' q1 u2 o2, u1.only o2 hne, u2.stored rn ro rk rc, r1.only o2 (by omega), s1.only o2 (by omega), hpk, hqk, ?_, ?_⟩
      · exact Below.trans (Below.trans (Below.trans hB (ex2.mono (by omega))) (o1.below (Nat.le_refl B))) (o2.below (Nat.le_succ B))
      · rw [o2.size, o1.size]; have := Below.size ex2; omega
  case rest =>
    obtain ⟨pn, po, pk, pc, rn, ro, rk, rc, hp, hq, bx, bY, br, bs, hpk, hrk, hB1, hz1⟩ := hcut
    obtain ⟨W1, hW1⟩ : ∃ W1, W1 = wc := ⟨wc, rfl⟩
    subst hW1
    have e1 := hp.neg
    have e2 := hq.neg
    rw [show decide ((a : Int) < 0) = false by simp] at e1
    rw [show decide ((b : Int) < 0) = false by simp] at e2
    subst e1 e2
    have s1 := hp.sl
    have s2 := hq.sl
    rw [Int.natAbs_natCast] at s1 s2
    have HBL := Lib.hid s2.len
    clear hp hq ha1 hb1 hx hy hr hs hB hz
    have k0 := bx.c0
    have k1 := bx.c1
    have l0 := bY.c0
    have l1 := bY.c1
    go_upto_region 2 with fail
    go_wp2_with fail
    refine (refDivMag_any a b _ _ _ _ _ _ _ s1 s2 h0 (by omega)).mono ?_
    rintro e V ⟨qo, qk, qc, so, sk, sc, rfl, hq1, hs1, hV⟩
    have bx := bx.below hV
    have bY := bY.below hV
    have br := br.below hV
    have bs := bs.below hV
    have hBV : Below B w V := Below.trans hB1 (hV.mono (by omega))
    have hzV : B + 4 ≤ V.heap.size := by have := Below.size hV; omega
    clear k0 k1 l0 l1 s1 s2 hV hB1 hz1
    go_upto_region 3 with fail
    have hst : RSt V V [] := ⟨Ext.refl V, fun p hp => by cases hp⟩
    have std := hst.drew
    have CQ := Lib.hid (fun W' (h : RSt V W' []) => make1_ent qo qk qc (a / b) h (hq1.below h.ext))
    have CR := Lib.hid (fun W' L' (h : RSt V W' L') => make1_ent so sk sc (a % b) h (hs1.below h.ext))
    have hcells : ∀ wx, Ext V wx → (wx.cell? ⟨B, 0, none⟩ = some (.bool false) ∧ wx.cell? ⟨B, 1, none⟩ = some (.slice po pk pc)) ∧ (wx.cell? ⟨B + 1, 0, none⟩ = some (.bool false) ∧ wx.cell? ⟨B + 1, 1, none⟩ = some (.slice ro rk rc)) := fun wx h =>
      ⟨⟨(bx.below h).c0, (bx.below h).c1⟩, ⟨(bY.below h).c0, (bY.below h).c1⟩⟩
    have HC := Lib.hid hcells; clear hcells
    obtain ⟨⟨p0, p1⟩, r0, r1⟩ := HC.out V (Ext.refl V)
    have TAG1 := Lib.hid trivial
    go_cut [8, 9] from 10 (fun p q wx => ∃ g h xn xo xk xc yn yo yk yc, p = .pointer (some ⟨g, 0, none⟩) ∧ q = .pointer (some ⟨h, 0, none⟩) ∧
      Box wx g xn xo xk xc ∧ Box wx h yn yo yk yc ∧ RSt V wx [⟨.agg #[.bool yn, .slice yo yk yc], false, limbs (a % b)⟩, ⟨.agg #[.bool xn, .slice xo xk xc], false, limbs (a / b)⟩] ∧ V.heap.size ≤ g ∧ V.heap.size ≤ h)
    case first =>
      go_region_held3 (fun wx => (wx.cell? ⟨B, 0, none⟩ = some (.bool false) ∧ wx.cell? ⟨B, 1, none⟩ = some (.slice po pk pc)) ∧ (wx.cell? ⟨B + 1, 0, none⟩ = some (.bool false) ∧ wx.cell? ⟨B + 1, 1, none⟩ = some (.slice ro rk rc)))
        ((refine ⟨?_, ?_⟩; ((repeat (first | with_reducible refine bcells_drew ?_ | with_reducible refine bcells_alloc ?_ | with_reducible refine bcells_stored (by omega) ?_)); exact (HC.out _ (by first | with_reducible exact Ext.refl _ | with_reducible exact RSt.ext (W := V) (by with_reducible assumption))).1); ((repeat (first | with_reducible refine bcells_drew ?_ | with_reducible refine bcells_alloc ?_ | with_reducible refine bcells_stored (by omega) ?_)); exact (HC.out _ (by first | with_reducible exact Ext.refl _ | with_reducible exact RSt.ext (W := V) (by with_reducible assumption))).2)))
        (first
          | (go_at_call 155; clear TAG1; refine ((CQ.out _ (by first | with_reducible assumption | with_reducible exact RSt.drew (by with_reducible assumption) | with_reducible exact RSt.alloc (by with_reducible assumption) _ | with_reducible exact RSt.alloc (RSt.alloc (by with_reducible assumption) _) _ | with_reducible exact RSt.drew (RSt.alloc (by with_reducible assumption) _) | with_reducible exact RSt.drew (RSt.alloc (RSt.alloc (by with_reducible assumption) _) _)))).mono ?_; rintro e wn ⟨xn, xo, xk, xc, rfl, hE1, stn⟩; have sz1 := sizeB stn.ext; (first | (have y12 := bbox_in2d (w := V) (wn := wn) (by with_reducible assumption); have y1 : Box wn V.heap.size false none 0 0 := y12.1; have y2 : Box wn (V.heap.size + 1) false none 0 0 := y12.2; clear y12; have yl1 := y1.lt; have yl2 := y2.lt) | (have y12 := bbox_in1d (w := V) (wn := wn) (by with_reducible assumption); have y1 : Box wn V.heap.size false none 0 0 := y12; clear y12; have yl1 := y1.lt) | skip))
          | (go_at_call 155; refine ((CR.out _ _ (by first | with_reducible assumption | with_reducible exact RSt.drew (by with_reducible assumption) | with_reducible exact RSt.alloc (by with_reducible assumption) _ | with_reducible exact RSt.alloc (RSt.alloc (by with_reducible assumption) _) _ | with_reducible exact RSt.drew (RSt.alloc (by with_reducible assumption) _) | with_reducible exact RSt.drew (RSt.alloc (RSt.alloc (by with_reducible assumption) _) _)))).mono ?_; rintro e wm ⟨yn, yo, yk, yc, rfl, hE2, stm⟩; have sz2 := sizeB stm.ext; (first | (obtain ⟨z1, z2⟩ := bbox_in2 (w := wn) (wn := wm) (by with_reducible assumption); have zl1 := z1.lt; have zl2 := z2.lt; have hE3 : Ext wn wm := Ext.trans (Ext.trans (ext_allocB _ _) (ext_allocB _ _)) hE2) | (have z1 := bbox_in1 (w := wn) (wn := wm) (by with_reducible assumption); have zl1 := z1.lt; have hE3 : Ext wn wm := Ext.trans (ext_allocB _ _) hE2) | (have hE3 : Ext wn wm := hE2)); (first | (have y2 := y2.below hE3; have ym2 := y2.lt; have v0 := y2.c0; have v1 := y2.c1; have v2 := y2.f 0; have v3 := y2.f 1) | skip); (first | (have y1 := y1.below hE3; have ym1 := y1.lt; have u0 := y1.c0; have u1 := y1.c1; have u2 := y1.f 0; have u3 := y1.f 1) | skip); (first | (have s0 := z1.c0; have s1 := z1.c1; have s2 := z1.f 0; have s3 := z1.f 1) | skip); (first | (have t0 := z2.c0; have t1 := z2.c1; have t2 := z2.f 0; have t3 := z2.f 1) | skip)))
      all_goals
        try clear u0 u1 u2 u3
        try clear v0 v1 v2 v3
        try clear s0 s1 s2 s3
        try clear t0 t1 t2 t3
        go_wp2
        go_meet
      all_goals
        refine ⟨_, _, xn, xo, xk, xc, yn, yo, yk, yc, rfl, rfl, ?_⟩
        first
          | (have _t := y2; first | (have F := bpair_stored (xn := xn) (xo := xo) (xk := xk) (xc := xc) (yn := yn) (yo := yo) (yk := yk) (yc := yc) y1 y2 (by omega) stm (by omega) (by omega); with_reducible exact ⟨F.1, F.2.1, F.2.2, by omega, by omega⟩) | (have F := bpair_stored (xn := xn) (xo := xo) (xk := xk) (xc := xc) (yn := yn) (yo := yo) (yk := yk) (yc := yc) y2 y1 (by omega) stm (by omega) (by omega); with_reducible exact ⟨F.1, F.2.1, F.2.2, by omega, by omega⟩))
          | (have _t := z2; first | (have F := bpair_stored (xn := xn) (xo := xo) (xk := xk) (xc := xc) (yn := yn) (yo := yo) (yk := yk) (yc := yc) z1 z2 (by omega) stm (by omega) (by omega); with_reducible exact ⟨F.1, F.2.1, F.2.2, by omega, by omega⟩) | (have F := bpair_stored (xn := xn) (xo := xo) (xk := xk) (xc := xc) (yn := yn) (yo := yo) (yk := yk) (yc := yc) z2 z1 (by omega) stm (by omega) (by omega); with_reducible exact ⟨F.1, F.2.1, F.2.2, by omega, by omega⟩))
          | (have _t := y1; have _t2 := z1; first | (have F := bpair_stored (xn := xn) (xo := xo) (xk := xk) (xc := xc) (yn := yn) (yo := yo) (yk := yk) (yc := yc) y1 z1 (by omega) stm (by omega) (by omega); with_reducible exact ⟨F.1, F.2.1, F.2.2, by omega, by omega⟩) | (have F := bpair_stored (xn := xn) (xo := xo) (xk := xk) (xc := xc) (yn := yn) (yo := yo) (yk := yk) (yc := yc) z1 y1 (by omega) stm (by omega) (by omega); with_reducible exact ⟨F.1, F.2.1, F.2.2, by omega, by omega⟩))
          | (have _t := y1; first | (have F := bfin_mix (xn := xn) (xo := xo) (xk := xk) (xc := xc) (yn := yn) (yo := yo) (yk := yk) (yc := yc) stm y1 (by omega); with_reducible exact ⟨F.1, F.2.1, F.2.2, by omega, by omega⟩) | (have F := bfin_mix (xn := yn) (xo := yo) (xk := yk) (xc := yc) (yn := xn) (yo := xo) (yk := xk) (yc := xc) stm y1 (by omega); with_reducible exact ⟨F.2.1, F.1, F.2.2, by omega, by omega⟩))
          | (have _t := z1; first | (have F := bfin_mix (xn := xn) (xo := xo) (xk := xk) (xc := xc) (yn := yn) (yo := yo) (yk := yk) (yc := yc) stm z1 (by omega); with_reducible exact ⟨F.1, F.2.1, F.2.2, by omega, by omega⟩) | (have F := bfin_mix (xn := yn) (xo := yo) (xk := yk) (xc := yc) (yn := xn) (yo := xo) (yk := xk) (yc := xc) stm z1 (by omega); with_reducible exact ⟨F.2.1, F.1, F.2.2, by omega, by omega⟩))
          | (have F := bfin_new (xn := xn) (xo := xo) (xk := xk) (xc := xc) (yn := yn) (yo := yo) (yk := yk) (yc := yc) stm; with_reducible exact ⟨F.1, F.2.1, F.2.2, by omega, by omega⟩)
          | (have F := bfin_new (xn := yn) (xo := yo) (xk := yk) (xc := yc) (yn := xn) (yo := xo) (yk := xk) (yc := xc) stm; with_reducible exact ⟨F.2.1, F.1, F.2.2, by omega, by omega⟩)
    obtain ⟨g, h, xn, xo, xk, xc, yn, yo, yk, yc, rfl, rfl, hx, hy, hst2, hg1, hh1⟩ := hcut
    obtain ⟨V2, hV2⟩ : ∃ V2, V2 = wc := ⟨wc, rfl⟩
    subst hV2
    obtain ⟨_, _, _, e1, hs1⟩ := (hst2.bag _ (List.Mem.tail _ (List.Mem.head _))).parts
    cases e1
    obtain ⟨_, _, _, e2, hs2⟩ := (hst2.bag _ (List.Mem.head _)).parts
    cases e2
    have br := br.below hst2.ext
    have bs := bs.below hst2.ext
    have hB2 : Below B w V2 := Below.trans hBV (hst2.ext.mono (by omega))
    have hz2 : B + 4 ≤ V2.heap.size := by have := Below.size hst2.ext; omega
    have hbn : Bn V2 false yo yk yc ((a % b : Nat) : Int) := ⟨(decide_eq_false (Int.not_lt.2 (Int.natCast_nonneg _))).symm, by rw [Int.natAbs_natCast]; exact hs2⟩
    have hykl : yk ≤ 1000000000 := by
      have h1 := hs2.len
      have h2 := len_le_of_le (Nat.le_of_lt (Nat.mod_lt a (Nat.pos_of_ne_zero h0)))
      rw [h1, HBL.out] at h2
      have h3 := hb.small
      omega
    have hsg := refSign_any _ _ _ _ _ V2 (hbn.bg hykl)
    obtain ⟨sg, hsgv⟩ : ∃ sg, sgn3 ((a % b : Nat) : Int) 0 = sg := ⟨_, rfl⟩
    rw [hsgv] at hsg
    have hsg0 : decide (sg < 0) = false := by rw [← hsgv]; unfold sgn3; rw [if_neg (by omega)]; split <;> simp
    have HSG := Lib.hid hsg
    clear hsgv hsg hst std hst2 bx bY hBV HC CQ CR hq1 hbn
    have k0 := hy.c0
    have k1 := hy.c1
    go_wp2_with fail
    refine HSG.out.mono ?_
    rintro e V3 ⟨rfl, hV3⟩
    have hx := hx.below hV3
    have hy := hy.below hV3
    have br := br.below hV3
    have bs := bs.below hV3
    have hs1 := hs1.below hV3
    have hs2 := hs2.below hV3
    have hB3 : Below B w V3 := Below.trans hB2 (hV3.mono (by omega))
    have hz3 := Below.size hV3
    clear k0 k1 hV3 hB2 HSG
    have k0 := hy.c0
    have k1 := hy.c1
    have l0 := hx.c0
    have l1 := hx.c1
    have q0 := br.c0
    have q1 := br.c1
    have q2 := br.f 0
    have q3 := br.f 1
    have t0 := bs.c0
    have t1 := bs.c1
    have t2 := bs.f 0
    have t3 := bs.f 1
    have hres := two_bns br bs (by omega) (B := B) (by omega) (by omega) (show Bn V3 false xo xk xc ((a / b : Nat) : Int) from ⟨(decide_eq_false (Int.not_lt.2 (Int.natCast_nonneg _))).symm, by rw [Int.natAbs_natCast]; exact hs1⟩) (show Bn V3 false yo yk yc ((a % b : Nat) : Int) from ⟨(decide_eq_false (Int.not_lt.2 (Int.natCast_nonneg _))).symm, by rw [Int.natAbs_natCast]; exact hs2⟩) hB3
    have HRES := Lib.hid hres; clear hres
    have n1 : ¬ h = B + 1 + 1 := by omega
    have n2 : ¬ B + 1 + 1 = h := by omega
    have n3 : ¬ g = B + 1 + 1 := by omega
    have n4 : ¬ B + 1 + 1 = g := by omega
    have n5 : ¬ h = B + 1 + 1 + 1 := by omega
    have n6 : ¬ B + 1 + 1 + 1 = h := by omega
    have n7 : ¬ g = B + 1 + 1 + 1 := by omega
    have n8 : ¬ B + 1 + 1 + 1 = g := by omega
    go_wp2
    go_region
    obtain ⟨r1, r2, r3, r4, r5⟩ := HRES.out
    generalize hWe : World.drew _ = V9 at r1 r2 r3 r4 r5 ⊢
    have z0 := r4.c0
    have z1 := r4.c1
    have z2 := r5.c0
    have z3 := r5.c1
    have R := Lib.hid (And.intro r1 (And.intro r2 r3))
    clear r1 r2 r3 r4 r5 hWe q0 q1 t0 t1 HRES
    go_wp2
    refine bodyPost_ret (v := .tuple #[.agg #[.bool false, .slice xo xk xc], .agg #[.bool false, .slice yo yk yc]]) (by simp [results, Tryz.results159, go_sem, z0, z1, z2, z3]) rfl ⟨false, xo, xk, xc, false, yo, yk, yc, rfl, R.out.1, R.out.2.1, ?_⟩
    show Below _ _ _; rw [HBe.out]; exact R.out.2.2
end Go.Proofs.YtolghagbpnjpgaaGreatDoor

namespace Go.Proofs.YtolghagbpnjpgaaGreatDoor
open Go Go.RowKit

theorem four_le (p q : Nat) : 4 * (p * q) ≤ (p + q) * (p + q) := by
  have h := sq_nonneg ((p : Int) - q)
  rw [sq_sub] at h
  have e : ((p + q : Nat) : Int) * ((p + q : Nat) : Int) = (p : Int) * p + 2 * ((p : Int) * q) + (q : Int) * q := by
    rw [Int.natCast_add]; exact sq_add _ _
  have e2 : ((4 * (p * q) : Nat) : Int) = 4 * ((p : Int) * q) := by simp
  have : ((4 * (p * q) : Nat) : Int) ≤ (((p + q) * (p + q) : Nat) : Int) := by
    rw [Int.natCast_mul (p + q), e, e2]; omega
  exact Int.ofNat_le.1 this

/-- a step from above stays above -/
theorem newt_above {a x : Nat} (hx : 0 < x) (ha : 0 < a) : 0 < (x + a / x) / 2 ∧ a < ((x + a / x) / 2 + 1) * ((x + a / x) / 2 + 1) := by
  have h1 := Nat.div_add_mod a x
  have h2 := Nat.mod_lt a hx
  have hlt : a < x * (a / x + 1) := by rw [Nat.mul_add, Nat.mul_one]; omega
  generalize hq : a / x = q at *
  generalize hy : (x + q) / 2 = y at *
  have hy2 : x + (q + 1) ≤ 2 * (y + 1) := by omega
  have h3 := four_le x (q + 1)
  have h4 : (x + (q + 1)) * (x + (q + 1)) ≤ (2 * (y + 1)) * (2 * (y + 1)) := Nat.mul_le_mul hy2 hy2
  have h5 : (2 * (y + 1)) * (2 * (y + 1)) = 4 * ((y + 1) * (y + 1)) := by
    rw [Nat.mul_mul_mul_comm]
  have h6 : a < (y + 1) * (y + 1) := by omega
  refine ⟨?_, h6⟩
  rcases Nat.eq_zero_or_pos y with h | h
  · rw [h] at h6; omega
  · exact h
theorem newt_stop {a x : Nat} (hx : 0 < x) (h : x ≤ (x + a / x) / 2) : x * x ≤ a := by
  have h1 : x ≤ a / x := by omega
  exact (Nat.le_div_iff_mul_le hx).1 h1
theorem newt_start {a : Nat} (ha : a ≠ 0) : a < (2 ^ ((blen a + 1) / 2) + 1) * (2 ^ ((blen a + 1) / 2) + 1) := by
  obtain ⟨l, h1, _, h2⟩ := blen_spec ha
  rw [h1]
  have h3 : 2 ^ (l + 1) ≤ 2 ^ ((l + 1 + 1) / 2) * 2 ^ ((l + 1 + 1) / 2) := by
    rw [← Nat.pow_add]; exact Nat.pow_le_pow_right (by omega) (by omega)
  have h4 : 2 ^ ((l + 1 + 1) / 2) * 2 ^ ((l + 1 + 1) / 2) ≤ (2 ^ ((l + 1 + 1) / 2) + 1) * (2 ^ ((l + 1 + 1) / 2) + 1) := Nat.mul_le_mul (Nat.le_succ _) (Nat.le_succ _)
  omega

/-- the number in a box of a world, zero where there is none -/
def IsNum (w : World) (g x : Nat) : Prop := ∃ nb ao n ca, Box w g nb ao n ca ∧ Bn w nb ao n ca (x : Int)
theorem IsNum.unique {w : World} {g x y : Nat} (h : IsNum w g x) (k : IsNum w g y) : x = y := by
  obtain ⟨nb, ao, n, ca, b1, n1⟩ := h
  obtain ⟨mb, bo, m, cb, b2, n2⟩ := k
  unfold Box at b1 b2
  rw [b1] at b2
  injection b2 with b2
  injection b2 with b2
  have e1 : Value.slice ao n ca = .slice bo m cb := by
    have := congrArg (fun (a : Array Value) => a[1]?) b2
    simpa using this
  injection e1 with e1 e2 e3
  subst e1 e2 e3
  have s1 := n1.sl
  have s2 := n2.sl
  rw [Int.natAbs_natCast] at s1 s2
  have hl : limbs x = limbs y := by
    refine List.ext_getElem (by rw [s1.len, s2.len]) fun j h1 h2 => ?_
    have hn : 0 < n := by rw [s1.len] at h1; omega
    obtain ⟨b, o, e, c1⟩ := s1.cells (by rw [s1.len]; exact hn)
    obtain ⟨b', o', e', c2⟩ := s2.cells (by rw [s2.len]; exact hn)
    rw [e] at e'
    cases e'
    have g1 := c1 j h1
    have g2 := c2 j h2
    rw [g1] at g2
    injection g2 with g2
    injection g2 with _ g2
    simpa [List.getD, h1, h2] using g2
  exact limbs_inj hl
noncomputable def numAt (w : World) (g : Nat) : Nat := by
  classical
  exact if h : ∃ x, IsNum w g x then h.choose else 0
theorem numAt_is {w : World} {g x : Nat} (h : IsNum w g x) : numAt w g = x := by
  have hx : ∃ x, IsNum w g x := ⟨x, h⟩
  unfold numAt
  rw [dif_pos hx]
  exact hx.choose_spec.unique h
end Go.Proofs.YtolghagbpnjpgaaGreatDoor

namespace Go.Proofs.YtolghagbpnjpgaaGreatDoor
open Go Go.RowKit

theorem ext_allocB2 {V w : World} (h : Ext V w) (o : Obj) : Ext V (w.alloc o) := Ext.trans h ((Below.refl _ _).alloc (Nat.le_refl _) _)
theorem ext_adB (V : World) (o : Obj) : Ext V (V.alloc o).drew := ((Below.refl _ _).alloc (Nat.le_refl _) _).drew
/-- an integer stored in a block of the call's own -/
theorem bbox_stored {W w : World} {g : Nat} {nb mb : Bool} {ao bo : Option Addr} {n ca m cb : Nat} {x : Int} (hx : Box w g nb ao n ca) (h : Bn w mb bo m cb x) (hw : Ext W w) (hg : W.heap.size ≤ g) :
    Bn ((w.setCell ⟨g, 0, none⟩ (.bool mb)).setCell ⟨g, 1, none⟩ (.slice bo m cb)) mb bo m cb x ∧
    Box ((w.setCell ⟨g, 0, none⟩ (.bool mb)).setCell ⟨g, 1, none⟩ (.slice bo m cb)) g mb bo m cb ∧
    Ext W ((w.setCell ⟨g, 0, none⟩ (.bool mb)).setCell ⟨g, 1, none⟩ (.slice bo m cb)) :=
  ⟨Bn.only_bx' h hx (only_set2 _ _ _ _), hx.stored _ _ _ _, Below.trans hw ((only_set2 w g (.bool mb) (.slice bo m cb)).below hg)⟩

theorem boxes_twoB (w : World) (nb : Bool) (ao : Option Addr) (n ca : Nat) (mb : Bool) (bo : Option Addr) (m cb : Nat) :
    ∃ W, W = (w.alloc (.cells #[.bool nb, .slice ao n ca] 31)).alloc (.cells #[.bool mb, .slice bo m cb] 31) ∧ Ext w W ∧ Box W w.heap.size nb ao n ca ∧ Box W (w.heap.size + 1) mb bo m cb :=
  ⟨_, rfl, Ext.trans (ext_allocB _ _) (ext_allocB _ _), (Box.new w nb ao n ca).below (ext_allocB _ _), bbox_new1v w _ mb bo m cb⟩
theorem refHalf_any (nb : Bool) (ao : Option Addr) (n cap : Nat) (x : Nat) (w : World) (h : Bg w nb ao n cap (x : Int)) :
    Calls Tryz.prog 153 #[.agg #[.bool nb, .slice ao n cap], .int .i64 (-1)] w fun r w' => ∃ nr ro k cr, r = .returned (.agg #[.bool nr, .slice ro k cr]) ∧ Bn w' nr ro k cr ((x / 2 : Nat) : Int) ∧ Ext w w' := by
  have C := refShift_down nb ao n cap (x : Int) 1 w h (by omega) (by omega) (by omega)
  rw [show (-((1 : Nat) : Int)) = -1 from rfl, show (x : Int) / 2 ^ 1 = ((x / 2 : Nat) : Int) by omega] at C
  exact C.mono fun r w' ⟨nr, ro, k, cr, h1, h2, _, h4⟩ => ⟨nr, ro, k, cr, h1, h2, h4⟩
theorem blen_sum {x y p : Nat} (hx : x ≤ 2 ^ p) (hy : y < 2 ^ p) : blen (x + y) ≤ p + 1 := by
  apply blen_le_of_lt
  rw [Nat.pow_succ]; omega

set_option maxRecDepth 100000 in
set_option maxHeartbeats 8000000 in
theorem refSqrt_any (nb : Bool) (ao : Option Addr) (n cap : Nat) (a : Nat) (w : World) (h : Bg w nb ao n cap (a : Int)) (hbl : blen a ≤ 900000) (hn : n ≤ 100000) :
    Calls Tryz.prog 160 #[.agg #[.bool nb, .slice ao n cap]] w fun e w' => ∃ nr ro k cr, ∃ s : Nat, e = .returned (.agg #[.bool nr, .slice ro k cr]) ∧ Bn w' nr ro k cr (s : Int) ∧ s * s ≤ a ∧ a < (s + 1) * (s + 1) ∧ Ext w w' := by
  go_enter Tryz.func160, Tryz.ntmps160
  go_upto_region 1 with fail
  obtain ⟨W, hW, hB, hx, hr, hz⟩ := boxes1 w nb ao n cap
  rw [← hW]
  clear hW
  have ha := h.below hB
  generalize hBe : w.heap.size = B at *
  have HBe := Lib.hid hBe; clear hBe h
  have k0 := hx.c0
  have k1 := hx.c1
  obtain ⟨sg, hsg⟩ : ∃ sg, sgn3 (a : Int) 0 = sg := ⟨_, rfl⟩
  have CS := refSign_any _ _ _ _ _ W ha
  rw [hsg] at CS
  have CS := Lib.hid CS
  go_wp2_with fail
  refine CS.out.mono ?_
  rintro e V ⟨rfl, hV⟩
  have ha := ha.below hV
  have hx := hx.below hV
  have hr := hr.below hV
  have hB1 : Below B w V := Below.trans hB (hV.mono (by omega))
  have hzV : B + 2 ≤ V.heap.size := by have := Below.size hV; omega
  clear k0 k1 CS hV hB hz
  by_cases h0 : a = 0
  · subst h0
    obtain rfl : sg = 0 := by rw [← hsg]; rfl
    have q0 := hr.c0
    have q1 := hr.c1
    have q2 := hr.f 0
    have q3 := hr.f 1
    have u1 := hr.stored false none 0 0
    have z0 := u1.c0
    have z1 := u1.c1
    have HB := Lib.hid (Below.trans hB1 ((only_set2 V (B + 1) (.bool false) (.slice none 0 0)).below (Nat.le_succ B)))
    clear hsg u1
    go_wp2
    refine bodyPost_ret (v := .agg #[.bool false, .slice none 0 0]) (by simp [results, Tryz.results160, go_sem, z0, z1]) rfl ⟨false, none, 0, 0, 0, rfl, ⟨rfl, by show Sl _ none 0 0 (limbs 0); rw [limbs_zero]; exact Sl.nil _⟩, by omega, by omega, ?_⟩
    show Below _ _ _; rw [HBe.out]; exact HB.out
  · have hsg0 : (sg == 0) = false := by
      rw [beq_eq_false_iff_ne]; intro e
      rw [e] at hsg
      exact h0 (by have := sgn3_zero hsg; omega)
    obtain ⟨k, hk⟩ : ∃ k, (blen a + 1) / 2 = k := ⟨_, rfl⟩
    have hst0 := newt_start h0
    rw [hk] at hst0
    have hkb : k ≤ 450001 := by omega
    have hkI : IntKind.i64.wrap (((blen a : Int) + 1).tdiv 2) = (k : Int) := by
      rw [Int.tdiv_eq_ediv_of_nonneg (by omega), show ((blen a : Int) + 1) / 2 = (k : Int) by omega]
      exact IntWalk.i64_in _ ⟨by omega, by omega⟩
    have C1 := Lib.hid (fun W => refFromInt_any 1 W (by omega) (by omega))
    have C2 := Lib.hid (fun W (hE : Ext V W) => show Calls Tryz.prog 150 #[.agg #[.bool nb, .slice ao n cap]] W fun e w' => e = .returned (.int .i64 ((blen a : Nat) : Int)) ∧ Below W.heap.size W w' from refBitLen_any nb ao n cap (a : Int) W (ha.below hE))
    have HC := Lib.hid (show ∀ wx, Ext V wx → wx.cell? ⟨B, 0, none⟩ = some (.bool nb) ∧ wx.cell? ⟨B, 1, none⟩ = some (.slice ao n cap) from fun wx h => ⟨(hx.below h).c0, (hx.below h).c1⟩)
    have hw1 : IntKind.i64.wrap ((blen a : Int) + 1) = (blen a : Int) + 1 := IntWalk.i64_in _ ⟨by omega, by omega⟩
    have HK := Lib.hid hk
    clear hsg hk
    have k0 := hx.c0
    have k1 := hx.c1
    have st : Ext V V.drew := (Below.refl _ _).drew
    go_upto_region 3 with fail
    go_cut [3] from 4 (fun p wx => ∃ xn xo xk xc G, p = .pointer (some ⟨G, 0, none⟩) ∧ Bn wx xn xo xk xc ((2 ^ k : Nat) : Int) ∧ Box wx G xn xo xk xc ∧ V.heap.size ≤ G ∧ Ext V wx)
    case first =>
      go_region_held3 (fun wx => wx.cell? ⟨B, 0, none⟩ = some (.bool nb) ∧ wx.cell? ⟨B, 1, none⟩ = some (.slice ao n cap))
        (first | exact HC.out _ (by first | assumption | exact ext_allocB2 (by assumption) _ | exact ext_adB _ _))
        (first
          | (go_at_call 195; ((with_reducible refine (C1.out _).mono ?_); rintro e w1 ⟨on, oo, ok, oc, rfl, h1, hw1⟩; have ex1 : Ext V w1 := Ext.trans (by first | assumption | exact ext_allocB2 (by assumption) _ | exact ext_adB _ _) hw1; (first | (have bz := bbox_in1d (w := V) hw1; have bG : V.heap.size ≤ V.heap.size := Nat.le_refl _) | skip)))
          | (go_at_call 150; ((with_reducible refine (C2.out _ (by first | assumption | exact ext_allocB2 (by assumption) _ | exact ext_adB _ _)).mono ?_); rintro e w2 ⟨rfl, hw2⟩; have ex2 : Ext V w2 := Ext.trans (by first | assumption | exact ext_allocB2 (by assumption) _ | exact ext_adB _ _) hw2; (first | (have bz := bz.below hw2) | (have bz := bbox_in1 (w := w1) hw2; have bG : V.heap.size ≤ w1.heap.size := Below.size ex1) | skip); (first | (have h1 := h1.below hw2) | (have h1 := (h1.below (ext_allocB _ _)).below hw2))))
          | (go_at_call 153; refine (refShift_up _ _ _ _ 1 k _ (by first | exact bn_bg_of h1 (by decide) | exact bn_bg_of (h1.below (ext_allocB _ _)) (by decide)) (by omega)).mono ?_; rintro e w3 ⟨xn, xo, xk, xc, rfl, h3, -, hw3⟩; have ex3 : Ext V w3 := Ext.trans (by first | assumption | exact ext_allocB2 (by assumption) _ | exact ext_adB _ _) hw3; (first | (have bz := bz.below hw3; have y0 := bz.c0; have y1 := bz.c1; have g0 := bz.f 0; have g1 := bz.f 1; obtain ⟨st1, st2, st3⟩ := bbox_stored (W := V) bz h3 ex3 bG) | (have bz := bbox_in1 (w := w2) hw3; have bG : V.heap.size ≤ w2.heap.size := Below.size ex2; have y0 := bz.c0; have y1 := bz.c1; have g0 := bz.f 0; have g1 := bz.f 1; obtain ⟨st1, st2, st3⟩ := bbox_stored (W := V) bz h3 ex3 bG) | skip)))
      all_goals
        go_wp2
        go_meet
      all_goals
        first
          | exact ⟨xn, xo, xk, xc, _, rfl, by rw [Int.one_mul] at st1; rw [Int.natCast_pow]; exact st1, st2, bG, st3⟩
          | exact ⟨xn, xo, xk, xc, _, rfl, by rw [Int.one_mul] at h3; rw [Int.natCast_pow]; exact h3.below (ext_allocB _ _), Box.new _ xn xo xk xc, Below.size ex3, ext_allocB2 ex3 _⟩
    case rest =>
      obtain ⟨xn, xo, xk, xc, G, rfl, hxn, hG, hVG, hE⟩ := hcut
      have hBG : ¬ B = G := by omega
      have hBG1 : ¬ B + 1 = G := by omega
      have HPB : Hid (∃ p, k + 1 ≤ p ∧ blen a ≤ p ∧ p ≤ 900000) := Lib.hid ⟨max (k + 1) (blen a), by omega, by omega, by have := HK.out; omega⟩
      have hG0 := hG
      have hE0 := hE
      have hn0 := hxn
      clear k0 k1 hsg0 hkI hw1 C1 C2 st hG hE hxn
      go_wp2
      go_loopw [4, 5, 6] (fun _ _ _ wr => ∃ (x : Nat) (xn : Bool) (xo : Option Addr) (xk xc : Nat), 0 < x ∧ x ≤ 2 ^ k ∧ a < (x + 1) * (x + 1) ∧ Box wr G xn xo xk xc ∧ Bn wr xn xo xk xc (x : Int) ∧ Ext V wr)
        (fun _ _ _ wr => numAt wr G)
      case atStart => exact ⟨2 ^ k, xn, xo, xk, xc, Nat.pow_pos (by omega), Nat.le_refl _, hst0, hG0, hn0, hE0⟩
      case round =>
        clear hG0 hn0 hE0
        obtain ⟨x, xn, xo, xk, xc, hx0, hx1, hx2, hG, hxn, hE⟩ := hrel
        obtain ⟨p, hp1, hp2, hp3⟩ := HPB.out
        have hxp : x ≤ 2 ^ p := Nat.le_trans hx1 (Nat.pow_le_pow_right (by omega) (by omega))
        have hap : a < 2 ^ p := Nat.lt_of_lt_of_le (blen_lt a) (Nat.pow_le_pow_right (by omega) hp2)
        have hxb : blen x ≤ p + 1 := by
          have := blen_sum (y := 0) hxp (Nat.pow_pos (by omega))
          rwa [Nat.add_zero] at this
        have hdv : a / x < 2 ^ p := Nat.lt_of_le_of_lt (Nat.div_le_self _ _) hap
        have hsb := blen_sum hxp hdv
        have hqb : blen (a / x) ≤ p := blen_le_of_lt hdv
        obtain ⟨hy0, hy1⟩ := newt_above (a := a) hx0 (Nat.pos_of_ne_zero h0)
        have hstop := newt_stop (a := a) hx0
        have hnum := numAt_is (w := wr) (g := G) (x := x) ⟨xn, xo, xk, xc, hG, hxn⟩
        have HNUM := Lib.hid hnum
        have HY0 := Lib.hid hy0
        have HY1 := Lib.hid hy1
        have HSTOP := Lib.hid hstop
        have HX2 := Lib.hid hx2
        have bx := hx.below hE
        have brr := hr.below hE
        have haw := ha.below hE
        have gx := bn_bg_of hxn (by rw [Int.natAbs_natCast]; omega)
        have CD := Lib.hid (refDivMod_pos a x nb xn ao xo n xk cap xc wr haw gx (by omega) (by omega))
        clear hy0 hy1 hstop hnum hx2 haw gx
        have k0 := bx.c0
        have k1 := bx.c1
        have l0 := hG.c0
        have l1 := hG.c1
        go_wp2_with fail
        refine CD.out.mono ?_
        rintro e w1 ⟨qn, qo, qk, qc, rn, ro, rk, rc, rfl, hq, -, hw1⟩
        have hE := Ext.trans hE hw1
        have hG := hG.below hw1
        have hxn := hxn.below hw1
        have brr := brr.below hw1
        clear k0 k1 l0 l1 hw1 CD bx
        go_upto_region 5 with fail
        obtain ⟨W2, hW2, hE2, bq, bq2⟩ := boxes_twoB w1 qn qo qk qc rn ro rk rc
        rw [← hW2]
        clear hW2
        have hE := Ext.trans hE hE2
        have hG := hG.below hE2
        have hxn := hxn.below hE2
        have hq := hq.below hE2
        have brr := brr.below hE2
        clear hE2 bq2
        generalize w1.heap.size = D at *
        have l0 := hG.c0
        have l1 := hG.c1
        have k0 := bq.c0
        have k1 := bq.c1
        have CA := refAdd_any xn qn xo xk xc qo qk qc (x : Int) ((a / x : Nat) : Int) W2 (bn_bg_of hxn (by rw [Int.natAbs_natCast]; omega)) (bn_bg_of hq (by rw [Int.natAbs_natCast]; omega))
        rw [← Int.natCast_add] at CA
        have CA := Lib.hid CA
        go_wp2_with fail
        refine CA.out.mono ?_
        rintro e w3 ⟨sn, so, sk, sc, rfl, hs, hw3⟩
        have hE := Ext.trans hE hw3
        have hG := hG.below hw3
        have hxn := hxn.below hw3
        have brr := brr.below hw3
        clear k0 k1 l0 l1 hw3 CA bq hq
        have CH := Lib.hid (refHalf_any sn so sk sc (x + a / x) w3 (bn_bg_of hs (by rw [Int.natAbs_natCast]; omega)))
        go_wp2_with fail
        refine CH.out.mono ?_
        rintro e w4 ⟨yn, yo, yk, yc, rfl, hy, hw4⟩
        have hE := Ext.trans hE hw4
        have hG := hG.below hw4
        have hxn := hxn.below hw4
        have brr := brr.below hw4
        clear hw4 CH hs
        go_upto_region 6 with fail
        obtain ⟨W5, hW5, hE5, bY, -⟩ := box_new w4 yn yo yk yc
        rw [← hW5]
        clear hW5
        have hE := Ext.trans hE hE5
        have hG := hG.below hE5
        have hxn := hxn.below hE5
        have hy := hy.below hE5
        have brr := brr.below hE5
        clear hE5
        generalize w4.heap.size = Y at *
        obtain ⟨y, hyv⟩ : ∃ y, (x + a / x) / 2 = y := ⟨_, rfl⟩
        rw [hyv] at hy
        have hyb : blen y ≤ p + 1 := by
          rw [← hyv]
          exact blen_le_of_lt (Nat.lt_of_le_of_lt (Nat.div_le_self _ _) (Nat.lt_of_lt_of_le (blen_lt _) (Nat.pow_le_pow_right (by omega) hsb)))
        have HYV := Lib.hid hyv
        have hyl : yk ≤ 100000 := by have h1 := hy.sl.len; rw [Int.natAbs_natCast] at h1; have := limbs_of_blen (a := y) (k := 30000) (by omega); omega
        have hxl : xk ≤ 100000 := by have h1 := hxn.sl.len; rw [Int.natAbs_natCast] at h1; have := limbs_of_blen (a := x) (k := 30000) (by omega); omega
        have CC := refCmp_any yn xn yo yk yc xo xk xc (y : Int) (x : Int) W5 (bn_bg_of hy (by rw [Int.natAbs_natCast]; omega)) (bn_bg_of hxn (by rw [Int.natAbs_natCast]; omega)) hyl hxl
        obtain ⟨cs, hcs⟩ : ∃ cs, sgn3 (y : Int) (x : Int) = cs := ⟨_, rfl⟩
        rw [hcs] at CC
        have CC := Lib.hid CC
        have HCS := Lib.hid hcs
        clear hyv hcs hyb hsb hqb hdv hap hxp hp1 hp2 hp3
        have k0 := bY.c0
        have k1 := bY.c1
        have l0 := hG.c0
        have l1 := hG.c1
        go_wp2_with fail
        refine CC.out.mono ?_
        rintro e w6 ⟨rfl, hw6⟩
        have hE := Ext.trans hE hw6
        have hG := hG.below hw6
        have hxn := hxn.below hw6
        have hy := hy.below hw6
        have bY := bY.below hw6
        have brr := brr.below hw6
        clear k0 k1 l0 l1 hw6 CC
        have k0 := bY.c0
        have k1 := bY.c1
        have l0 := hG.c0
        have l1 := hG.c1
        by_cases hge : y < x
        · have hc : decide (cs ≥ 0) = false := by rw [← HCS.out]; unfold sgn3; rw [if_pos (by omega)]; rfl
          have g0 := hG.f 0
          have g1 := hG.f 1
          obtain ⟨s1, s2, s3⟩ := bbox_stored (W := V) hG hy hE hVG
          have hnum2 := numAt_is (w := (w6.setCell ⟨G, 0, none⟩ (.bool yn)).setCell ⟨G, 1, none⟩ (.slice yo yk yc)) (g := G) (x := y) ⟨yn, yo, yk, yc, s2, s1⟩
          have HS := Lib.hid (And.intro s1 (And.intro s2 s3))
          have HN2 := Lib.hid hnum2
          clear s1 s2 s3 hnum2 hE hG hxn hy bY brr
          go_wp2
          go_roundw
          case rel => exact ⟨y, yn, yo, yk, yc, by rw [← HYV.out]; exact HY0.out, by omega, by rw [← HYV.out]; exact HY1.out, HS.out.2.1, HS.out.1, HS.out.2.2⟩
          case measure => rw [HN2.out, HNUM.out]; exact hge
        · have hc : decide (cs ≥ 0) = true := by
            rw [← HCS.out]; unfold sgn3; rw [if_neg (by omega)]; split <;> rfl
          have hst := HSTOP.out (by rw [HYV.out]; omega)
          have g0 := brr.f 0
          have g1 := brr.f 1
          have g2 := brr.c0
          have g3 := brr.c1
          have hBV : Below B w w6 := Below.trans hB1 (Below.mono hE (by omega))
          have u1 := brr.stored xn xo xk xc
          have z0 := u1.c0
          have z1 := u1.c1
          have HF := Lib.hid (And.intro (Bn.only_bx' hxn brr (only_set2 w6 (B + 1) (.bool xn) (.slice xo xk xc))) (Below.trans hBV ((only_set2 w6 (B + 1) (.bool xn) (.slice xo xk xc)).below (Nat.le_succ B))))
          clear u1 hE hG hxn hy bY brr hBV
          go_wp2
          refine bodyPost_ret (v := .agg #[.bool xn, .slice xo xk xc]) (by simp [results, Tryz.results160, go_sem, z0, z1]) rfl ⟨xn, xo, xk, xc, x, rfl, HF.out.1, hst, HX2.out, ?_⟩
          show Below _ _ _; rw [HBe.out]; exact HF.out.2
end Go.Proofs.YtolghagbpnjpgaaGreatDoor
