import Derived.Test.YtolghagbpnjpgaaGreatDoorANormU21
import Derived.Test.YtolghagbpnjpgaaGreatDoorANormU32
import Derived.Test.YtolghagbpnjpgaaGreatDoorANormU35
import Derived.Test.YtolghagbpnjpgaaGreatDoorANormU36
import Derived.Test.YtolghagbpnjpgaaGreatDoorANormU27
namespace Go.Proofs.YtolghagbpnjpgaaGreatDoor
open Go.RowKit

set_option maxRecDepth 100000 in
set_option maxHeartbeats 4000000 in
theorem ref_dabs_any (u : Value) (d : Dy) (w : World) (hu : Dl w u d) (hT : Table w) :
    Calls Tryz.prog 125 #[u] w fun e w' => ∃ r, e = .returned r ∧ Dn w' r (dabs d) ∧ Ext w w' := by
  have hu0 := hu
  obtain ⟨ub, un, uo, uk, uc, _, uf, rfl, -⟩ := hu0
  have HTw := Lib.hid hT
  go_enter Tryz.func125, Tryz.ntmps125
  go_upto_region 1 with fail
  obtain ⟨W, hW, hB, hbx, hrx, hz⟩ := boxes_dd w ub un uo uk uc uf
  rw [← hW]
  clear hW
  have hu := hu.ext hB
  have HT := Lib.hid (hT.below hB)
  generalize hBe : w.heap.size = B at *
  have HBe := Lib.hid hBe; clear hBe hT
  have k0 := hbx.c0
  have k1 := hbx.c1
  have k2 := hbx.c2
  have k3 := hbx.c3
  go_wp2_with fail
  refine (refDNorm_any _ _ _ hu HT.out).mono ?_
  rintro e w1 ⟨r1, rfl, hr, hw1⟩
  have bx := hbx.below hw1
  have c1 := hrx.below hw1
  obtain ⟨hB1, hB1'⟩ := bnext hB (by omega) hw1
  have hz1 := hw1.size
  obtain ⟨xb, xn, xo, xk, xc, xe, rfl⟩ := hr.parts
  clear k0 k1 k2 k3 hbx hrx hB hw1 hu HT
  have k0 := bx.c0
  have k1 := bx.c1
  have k2 := bx.c2
  have k3 := bx.c3
  have f0 := bx.f 0
  have f1 := bx.f 1
  have f2 := bx.f 2
  have f3 := bx.f 3
  go_upto_region 2 with fail
  have ho := only_set4 w1 B (.bool xb) (.bool xn) (.slice xo xk xc) (.int .i64 xe)
  have hr := hr.only_dbox bx ho
  have bx := bx.stored xb xn xo xk xc xe
  have c1 := c1.only ho (by omega)
  have hB2 := hB1.trans (ho.below (B := B) (Nat.le_refl _))
  have hz2 := ho.size
  have hz3 : B + 2 ≤ ((((w1.setCell ⟨B, 0, none⟩ (.bool xb)).setCell ⟨B, 1, none⟩ (.bool xn)).setCell ⟨B, 2, none⟩ (.slice xo xk xc)).setCell ⟨B, 3, none⟩ (.int .i64 xe)).heap.size := by omega
  have hTf := HTw.out.below (w' := (((w1.setCell ⟨B, 0, none⟩ (.bool xb)).setCell ⟨B, 1, none⟩ (.bool xn)).setCell ⟨B, 2, none⟩ (.slice xo xk xc)).setCell ⟨B, 3, none⟩ (.int .i64 xe)) (by rw [HBe.out]; exact hB2)
  clear k0 k1 k2 k3 f0 f1 f2 f3 hB1 ho hz2
  generalize (((w1.setCell ⟨B, 0, none⟩ (.bool xb)).setCell ⟨B, 1, none⟩ (.bool xn)).setCell ⟨B, 2, none⟩ (.slice xo xk xc)).setCell ⟨B, 3, none⟩ (.int .i64 xe) = w2 at *
  have HT := Lib.hid hTf; clear hTf
  cases d with
  | none =>
    obtain rfl := dn_none hr
    clear HT
    have k0 := bx.c0
    have k1 := bx.c1
    have k2 := bx.c2
    have k3 := bx.c3
    have q0 := c1.c0
    have q1 := c1.c1
    have q2 := c1.c2
    have q3 := c1.c3
    have f0 := c1.f 0
    have f1 := c1.f 1
    have f2 := c1.f 2
    have f3 := c1.f 3
    have hres := dn_stored c1 hr w hB2 (by omega)
    have z3 := c1.stored true xn xo xk xc xe
    have z0 := z3.c0
    have z1 := z3.c1
    have z2 := z3.c2
    have z4 := z3.c3
    have HRES := Lib.hid hres; clear hres z3
    go_wp2
    refine bodyPost_ret (v := .agg #[.bool true, .bool xn, .slice xo xk xc, .int .i64 xe]) (by simp [results, Tryz.results125, go_sem, z0, z1, z2, z4]) rfl ⟨_, rfl, ?_, ?_⟩
    · exact HRES.out.1
    · show Below _ _ _; rw [HBe.out]; exact HRES.out.2
  | some p =>
    obtain ⟨m, f⟩ := p
    obtain ⟨rfl, rfl, hm⟩ := dn_some hr
    have hnx := nd_blen hr.1
    have hspec : dmk ((m.natAbs : Int)) xe = dabs (some (m, xe)) := dmk_norm (dabs_nd hr.1)
    have HSP := Lib.hid hspec
    simp only [dm, dx, Option.getD_some] at hnx
    obtain ⟨hnx, hx0, hx1⟩ := hnx
    have gm := bn_bg_of hm (by omega)
    have HBL := Lib.hid (show blen ((m.natAbs : Int)).natAbs ≤ 1000000 by rw [Int.natAbs_natCast]; omega)
    clear hm hr hspec
    have HC := Lib.hid (show ∀ wx, Ext w2 wx → (wx.cell? ⟨B, 0, none⟩ = some (.bool false) ∧ wx.cell? ⟨B, 1, none⟩ = some (.bool xn) ∧ wx.cell? ⟨B, 2, none⟩ = some (.slice xo xk xc) ∧ wx.cell? ⟨B, 3, none⟩ = some (.int .i64 xe)) from fun wx h => ⟨(bx.ext h).c0, (bx.ext h).c1, (bx.ext h).c2, (bx.ext h).c3⟩)
    have ex0 : Ext w2 w2.drew := (Below.refl _ _).drew
    obtain ⟨k0, k1, k2, k3⟩ := HC.out w2 (Ext.refl _)
    go_wp2_with fail
    go_region_held3 (fun wx => (wx.cell? ⟨B, 0, none⟩ = some (.bool false) ∧ wx.cell? ⟨B, 1, none⟩ = some (.bool xn) ∧ wx.cell? ⟨B, 2, none⟩ = some (.slice xo xk xc) ∧ wx.cell? ⟨B, 3, none⟩ = some (.int .i64 xe)))
      (first | exact HC.out _ (by assumption) | (refine ⟨?_, ?_, ?_, ?_⟩ <;> go_simp))
      (first
        | (go_at_call 89; refine (refAbs_any _ _ _ _ _ _ (by exact gm.drew)).mono ?_; rintro e w3 ⟨nr, ro, l, cr, rfl, hq, -, hw3⟩; have ex1 : Ext w2 w3 := ex0.trans hw3)
        | (go_at_call 131; refine (refMake_any _ _ _ _ _ _ _ (bn_bg_of hq HBL.out) HBL.out (by omega) (by omega) (HT.out.below ex1)).mono ?_; rintro e w4 ⟨r, rfl, hr2, hw4⟩; have ex2 : Ext w2 w4 := ex1.trans hw4; rw [HSP.out] at hr2; obtain ⟨rb, rn, ro2, rk, rc, re, rfl⟩ := hr2.parts; have c2 := c1.ext ex2; have q0 := c2.c0; have q1 := c2.c1; have q2 := c2.c2; have q3 := c2.c3; have f0 := c2.f 0; have f1 := c2.f 1; have f2 := c2.f 2; have f3 := c2.f 3; obtain ⟨b0, b1, b2, b3⟩ := HC.out _ ex2))
    have hB3 : Below B w w4 := (bnext hB2 (by omega) ex2).1
    have hres := dn_stored c2 hr2 w hB3 (Nat.le_succ B)
    have z3 := c2.stored rb rn ro2 rk rc re
    have z0 := z3.c0
    have z1 := z3.c1
    have z2 := z3.c2
    have z4 := z3.c3
    have HRES := Lib.hid hres; clear hres z3
    go_wp2
    refine bodyPost_ret (v := .agg #[.bool rb, .bool rn, .slice ro2 rk rc, .int .i64 re]) (by simp [results, Tryz.results125, go_sem, z0, z1, z2, z4]) rfl ⟨_, rfl, ?_, ?_⟩
    · exact HRES.out.1
    · show Below _ _ _; rw [HBe.out]; exact HRES.out.2
end Go.Proofs.YtolghagbpnjpgaaGreatDoor

namespace Go.Proofs.YtolghagbpnjpgaaGreatDoor
open Go.RowKit

set_option maxRecDepth 100000 in
set_option maxHeartbeats 4000000 in
theorem ref_dadd_any (u v : Value) (d d' : Dy) (w : World) (hu : Dl w u d) (hv : Dl w v d') (hT : Table w) :
    Calls Tryz.prog 59 #[u, v] w fun e w' => ∃ r, e = .returned r ∧ Dn w' r (dadd d d') ∧ Ext w w' := by
  have hu0 := hu
  have hv0 := hv
  obtain ⟨ub, un, uo, uk, uc, _, uf, rfl, -⟩ := hu0
  obtain ⟨vb, vn, vo, vk, vc, _, vf, rfl, -⟩ := hv0
  go_enter Tryz.func59, Tryz.ntmps59
  go_upto_region 1 with fail
  obtain ⟨W, hW, hB, hbx, hby, hrx, hz⟩ := boxes_ddd w ub un uo uk uc uf vb vn vo vk vc vf
  rw [← hW]
  clear hW
  have hu := hu.ext hB
  have hv := hv.ext hB
  have HT0 := Lib.hid hT
  have hT := hT.below hB
  generalize hBe : w.heap.size = B at *
  have HBe := Lib.hid hBe; clear hBe
  go_cut [] from 8 (fun wx => ∃ xb xn xo xk xc xe yb yn yo yk yc ye, Dn wx (.agg #[.bool xb, .bool xn, .slice xo xk xc, .int .i64 xe]) d ∧ Dn wx (.agg #[.bool yb, .bool yn, .slice yo yk yc, .int .i64 ye]) d' ∧
    DBox wx B xb xn xo xk xc xe ∧ DBox wx (B + 1) yb yn yo yk yc ye ∧ Below B w wx ∧ (∀ k, B + 1 < k → k < W.heap.size → wx.heap[k]? = W.heap[k]?) ∧ W.heap.size ≤ wx.heap.size)
  case first =>
    have k0 := hbx.c0
    have k1 := hbx.c1
    have k2 := hbx.c2
    have k3 := hbx.c3
    have l0 := hby.c0
    have l1 := hby.c1
    have l2 := hby.c2
    have l3 := hby.c3
    go_region_with (first
      | (go_at_call 86; refine (refDNorm_any _ _ _ (by exact hu.ext (by exact (Below.refl _ _).drew)) (by exact hT.below (by exact (Below.refl _ _).drew))).mono ?_; rintro e w1 ⟨r1, rfl, hr1, hw1⟩; have ex1 : Ext W w1 := Ext.trans (by exact (Below.refl _ _).drew) hw1; obtain ⟨xb, xn, xo, xk, xc, xe, rfl⟩ := hr1.parts; have fb := hby.ext ex1; have h0 := fb.c0; have h1 := fb.c1; have h2 := fb.c2; have h3 := fb.c3)
      | (go_at_call 86; refine (refDNorm_any _ _ _ (by exact hv.ext ex1) (by exact hT.below ex1)).mono ?_; rintro e w2 ⟨r2, rfl, hr2, hw2⟩; have ex2 : Ext W w2 := Ext.trans ex1 hw2; obtain ⟨yb, yn, yo, yk, yc, ye, rfl⟩ := hr2.parts; have hr1 := hr1.ext hw2; clear h0 h1 h2 h3; have fa := hbx.ext ex2; have fb := hby.ext ex2; have a0 := fa.c0; have a1 := fa.c1; have a2 := fa.c2; have a3 := fa.c3; have b0 := fb.c0; have b1 := fb.c1; have b2 := fb.c2; have b3 := fb.c3; have g0 := fa.f 0; have g1 := fa.f 1; have g2 := fa.f 2; have g3 := fa.f 3; have h0 := fb.f 0; have h1 := fb.f 1; have h2 := fb.f 2; have h3 := fb.f 3))
    all_goals
      go_wp2
      go_meet
    all_goals
      clear a0 a1 a2 a3 b0 b1 b2 b3 g0 g1 g2 g3 h0 h1 h2 h3 k0 k1 k2 k3 l0 l1 l2 l3
      obtain ⟨hB2, hB2'⟩ := bnext hB (by omega) ex2
      obtain ⟨Z, hZ, z1, z2, z3, z4, z5, z6, z7⟩ := two_dyads fa fb (by omega) (Nat.le_refl B) (Nat.le_succ B) hr1 hr2 hB2
      rw [← hZ]
      exact ⟨_, _, _, _, _, _, _, _, _, _, _, _, z1, z2, z4, z5, z3, fun k hk1 hk2 => by rw [z6 k (by omega) (by omega)]; exact Below.block ex2 k hk2, by rw [z7]; exact Below.size ex2⟩
  case rest =>
    obtain ⟨xb, xn, xo, xk, xc, xe, yb, yn, yo, yk, yc, ye, hx, hy, bx, bY, hB1, hkeep, hzc⟩ := hcut
    have hT1 := (show Table w from HT0.out).below (w' := wc) (by rw [HBe.out]; exact hB1)
    have hrx : DBox wc (B + 1 + 1) false false none 0 0 0 := by
      have := hrx
      unfold DBox at this ⊢
      rw [hkeep _ (by omega) (by omega)]; exact this
    have HT := Lib.hid hT1
    clear hT1 hbx hby hu hv hT hB hkeep
    have k0 := bx.c0
    have k1 := bx.c1
    have k2 := bx.c2
    have k3 := bx.c3
    have l0 := bY.c0
    have l1 := bY.c1
    have l2 := bY.c2
    have l3 := bY.c3
    cases d with
    | none =>
      obtain rfl := dn_none hx
      go_wp2_with fail
      refine (refBad_any _).mono ?_
      rintro e w1 ⟨rfl, hw1⟩
      have c1 := hrx.below hw1
      obtain ⟨hB2, hB2'⟩ := bnext hB1 (by omega) hw1
      have q0 := c1.c0
      have q1 := c1.c1
      have q2 := c1.c2
      have q3 := c1.c3
      have f0 := c1.f 0
      have f1 := c1.f 1
      have f2 := c1.f 2
      have f3 := c1.f 3
      have hres := dn_stored c1 (dn_bad w1) w hB2 (by omega)
      have z3 := c1.stored true false none 0 0 0
      have z0 := z3.c0
      have z1 := z3.c1
      have z2 := z3.c2
      have z4 := z3.c3
      have HRES := Lib.hid hres; clear hres z3
      go_wp2
      refine bodyPost_ret (v := .agg #[.bool true, .bool false, .slice none 0 0, .int .i64 0]) (by simp [results, Tryz.results59, go_sem, z0, z1, z2, z4]) rfl ⟨_, rfl, ?_, ?_⟩
      · exact HRES.out.1
      · show Below _ _ _; rw [HBe.out]; exact HRES.out.2
    | some p =>
      obtain ⟨m, f⟩ := p
      obtain ⟨rfl, rfl, hm⟩ := dn_some hx
      cases d' with
      | none =>
        obtain rfl := dn_none hy
        go_wp2_with fail
        refine (refBad_any _).mono ?_
        rintro e w1 ⟨rfl, hw1⟩
        have c1 := hrx.below hw1
        obtain ⟨hB2, hB2'⟩ := bnext hB1 (by omega) hw1
        have q0 := c1.c0
        have q1 := c1.c1
        have q2 := c1.c2
        have q3 := c1.c3
        have f0 := c1.f 0
        have f1 := c1.f 1
        have f2 := c1.f 2
        have f3 := c1.f 3
        have hres := dn_stored c1 (dn_bad w1) w hB2 (by omega)
        have z3 := c1.stored true false none 0 0 0
        have z0 := z3.c0
        have z1 := z3.c1
        have z2 := z3.c2
        have z4 := z3.c3
        have HRES := Lib.hid hres; clear hres z3
        go_wp2
        refine bodyPost_ret (v := .agg #[.bool true, .bool false, .slice none 0 0, .int .i64 0]) (by simp [results, Tryz.results59, go_sem, z0, z1, z2, z4]) rfl ⟨_, rfl, ?_, ?_⟩
        · exact HRES.out.1
        · show Below _ _ _; rw [HBe.out]; exact HRES.out.2
      | some q =>
        obtain ⟨m', f'⟩ := q
        obtain ⟨rfl, rfl, hm'⟩ := dn_some hy
        have hnx := hx.1
        have hny := hy.1
        clear hx hy
        go_wp2_with fail
        refine (refAlign_any _ _ _ _ _ _ _ _ _ _ _ _ _ hm hm' hnx hny).mono ?_
        rintro e w1 ⟨an, ao', ak, ac, bn, bo', bk, bc, X, Y, E, rfl, hX, hY, hAl, hak, hbk, hw1⟩
        have c1 := hrx.below hw1
        have HT := Lib.hid (HT.out.below hw1)
        obtain ⟨hB2, hB2'⟩ := bnext hB1 (by omega) hw1
        have hz1 := hw1.size
        have hE0 := hAl.1
        have hE1 := hAl.2.1
        have HAL := Lib.hid hAl
        clear k0 k1 k2 k3 l0 l1 l2 l3 hm hm' hnx hny hAl hrx hB1 bx bY hw1
        go_upto_region 5 with fail
        obtain ⟨V, hV, hv, e1, e2⟩ := boxes_bb w1 an ao' ak ac bn bo' bk bc
        rw [← hV]
        clear hV
        have hX := hX.below hv
        have hY := hY.below hv
        have c1 := c1.below hv
        have HT := Lib.hid (HT.out.below hv)
        obtain ⟨hB2, hB2'⟩ := bnext hB2 (by omega) hv
        have hz2 := hv.size
        have k0 := e1.c0
        have k1 := e1.c1
        have l0 := e2.c0
        have l1 := e2.c1
        clear hv
        generalize w1.heap.size = D at *
        have HBL := Lib.hid (show blen (X + Y).natAbs ≤ 1000000 by
          have a := blen_add X Y
          have b := HAL.out.2.2.2.2
          omega)
        go_wp2_with fail
        refine (refAdd_any _ _ _ _ _ _ _ _ _ _ _ hX hY).mono ?_
        rintro e w2 ⟨nr, ro, l, cr, rfl, hr, hw2⟩
        have hr := bn_bg_of hr HBL.out
        have c1 := c1.below hw2
        have HT := Lib.hid (HT.out.below hw2)
        obtain ⟨hB3, hB3'⟩ := bnext hB2 (by omega) hw2
        have hz3 := hw2.size
        clear k0 k1 l0 l1 hw2
        go_wp2_with fail
        refine (refMake_any _ _ _ _ _ _ _ hr HBL.out (by omega) (by omega) HT.out).mono ?_
        rintro e w3 ⟨r, rfl, hr2, hw3⟩
        rw [dadd_al HAL.out] at hr2
        have c1 := c1.below hw3
        obtain ⟨hB4, hB4'⟩ := bnext hB3 (by omega) hw3
        obtain ⟨rb, rn, ro2, rk, rc, re, rfl⟩ := hr2.parts
        have q0 := c1.c0
        have q1 := c1.c1
        have q2 := c1.c2
        have q3 := c1.c3
        have f0 := c1.f 0
        have f1 := c1.f 1
        have f2 := c1.f 2
        have f3 := c1.f 3
        have hres := dn_stored c1 hr2 w hB4 (by omega)
        have z3 := c1.stored rb rn ro2 rk rc re
        have z0 := z3.c0
        have z1 := z3.c1
        have z2 := z3.c2
        have z4 := z3.c3
        have HRES := Lib.hid hres; clear hres z3
        go_wp2
        refine bodyPost_ret (v := .agg #[.bool rb, .bool rn, .slice ro2 rk rc, .int .i64 re]) (by simp [results, Tryz.results59, go_sem, z0, z1, z2, z4]) rfl ⟨_, rfl, ?_, ?_⟩
        · exact HRES.out.1
        · show Below _ _ _; rw [HBe.out]; exact HRES.out.2

end Go.Proofs.YtolghagbpnjpgaaGreatDoor

namespace Go.Proofs.YtolghagbpnjpgaaGreatDoor
open Go.RowKit

set_option maxRecDepth 100000 in
set_option maxHeartbeats 4000000 in
theorem ref_dmul_any (u v : Value) (d d' : Dy) (w : World) (hu : Dl w u d) (hv : Dl w v d') (hT : Table w) :
    Calls Tryz.prog 68 #[u, v] w fun e w' => ∃ r, e = .returned r ∧ Dn w' r (dmul d d') ∧ Ext w w' := by
  have hu0 := hu
  have hv0 := hv
  obtain ⟨ub, un, uo, uk, uc, _, uf, rfl, -⟩ := hu0
  obtain ⟨vb, vn, vo, vk, vc, _, vf, rfl, -⟩ := hv0
  go_enter Tryz.func68, Tryz.ntmps68
  go_upto_region 1 with fail
  obtain ⟨W, hW, hB, hbx, hby, hrx, hz⟩ := boxes_ddd w ub un uo uk uc uf vb vn vo vk vc vf
  rw [← hW]
  clear hW
  have hu := hu.ext hB
  have hv := hv.ext hB
  have HT0 := Lib.hid hT
  have hT := hT.below hB
  generalize hBe : w.heap.size = B at *
  have HBe := Lib.hid hBe; clear hBe
  go_cut [] from 5 (fun wx => ∃ xb xn xo xk xc xe yb yn yo yk yc ye, Dn wx (.agg #[.bool xb, .bool xn, .slice xo xk xc, .int .i64 xe]) d ∧ Dn wx (.agg #[.bool yb, .bool yn, .slice yo yk yc, .int .i64 ye]) d' ∧
    DBox wx B xb xn xo xk xc xe ∧ DBox wx (B + 1) yb yn yo yk yc ye ∧ Below B w wx ∧ (∀ k, B + 1 < k → k < W.heap.size → wx.heap[k]? = W.heap[k]?) ∧ W.heap.size ≤ wx.heap.size)
  case first =>
    have k0 := hbx.c0
    have k1 := hbx.c1
    have k2 := hbx.c2
    have k3 := hbx.c3
    have l0 := hby.c0
    have l1 := hby.c1
    have l2 := hby.c2
    have l3 := hby.c3
    go_region_with (first
      | (go_at_call 86; refine (refDNorm_any _ _ _ (by exact hu.ext (by exact (Below.refl _ _).drew)) (by exact hT.below (by exact (Below.refl _ _).drew))).mono ?_; rintro e w1 ⟨r1, rfl, hr1, hw1⟩; have ex1 : Ext W w1 := Ext.trans (by exact (Below.refl _ _).drew) hw1; obtain ⟨xb, xn, xo, xk, xc, xe, rfl⟩ := hr1.parts; have fb := hby.ext ex1; have h0 := fb.c0; have h1 := fb.c1; have h2 := fb.c2; have h3 := fb.c3)
      | (go_at_call 86; refine (refDNorm_any _ _ _ (by exact hv.ext ex1) (by exact hT.below ex1)).mono ?_; rintro e w2 ⟨r2, rfl, hr2, hw2⟩; have ex2 : Ext W w2 := Ext.trans ex1 hw2; obtain ⟨yb, yn, yo, yk, yc, ye, rfl⟩ := hr2.parts; have hr1 := hr1.ext hw2; clear h0 h1 h2 h3; have fa := hbx.ext ex2; have fb := hby.ext ex2; have a0 := fa.c0; have a1 := fa.c1; have a2 := fa.c2; have a3 := fa.c3; have b0 := fb.c0; have b1 := fb.c1; have b2 := fb.c2; have b3 := fb.c3; have g0 := fa.f 0; have g1 := fa.f 1; have g2 := fa.f 2; have g3 := fa.f 3; have h0 := fb.f 0; have h1 := fb.f 1; have h2 := fb.f 2; have h3 := fb.f 3))
    all_goals
      go_wp2
      go_meet
    all_goals
      clear a0 a1 a2 a3 b0 b1 b2 b3 g0 g1 g2 g3 h0 h1 h2 h3 k0 k1 k2 k3 l0 l1 l2 l3
      obtain ⟨hB2, hB2'⟩ := bnext hB (by omega) ex2
      obtain ⟨Z, hZ, z1, z2, z3, z4, z5, z6, z7⟩ := two_dyads fa fb (by omega) (Nat.le_refl B) (Nat.le_succ B) hr1 hr2 hB2
      rw [← hZ]
      exact ⟨_, _, _, _, _, _, _, _, _, _, _, _, z1, z2, z4, z5, z3, fun k hk1 hk2 => by rw [z6 k (by omega) (by omega)]; exact Below.block ex2 k hk2, by rw [z7]; exact Below.size ex2⟩
  case rest =>
    obtain ⟨xb, xn, xo, xk, xc, xe, yb, yn, yo, yk, yc, ye, hx, hy, bx, bY, hB1, hkeep, hzc⟩ := hcut
    have hT1 := (show Table w from HT0.out).below (w' := wc) (by rw [HBe.out]; exact hB1)
    have hrx : DBox wc (B + 1 + 1) false false none 0 0 0 := by
      have := hrx
      unfold DBox at this ⊢
      rw [hkeep _ (by omega) (by omega)]; exact this
    have HT := Lib.hid hT1
    clear hT1 hbx hby hu hv hT hB hkeep
    have k0 := bx.c0
    have k1 := bx.c1
    have k2 := bx.c2
    have k3 := bx.c3
    have l0 := bY.c0
    have l1 := bY.c1
    have l2 := bY.c2
    have l3 := bY.c3
    cases d with
    | none =>
      obtain rfl := dn_none hx
      go_wp2_with fail
      refine (refBad_any _).mono ?_
      rintro e w1 ⟨rfl, hw1⟩
      have c1 := hrx.below hw1
      obtain ⟨hB2, hB2'⟩ := bnext hB1 (by omega) hw1
      have q0 := c1.c0
      have q1 := c1.c1
      have q2 := c1.c2
      have q3 := c1.c3
      have f0 := c1.f 0
      have f1 := c1.f 1
      have f2 := c1.f 2
      have f3 := c1.f 3
      have hres := dn_stored c1 (dn_bad w1) w hB2 (by omega)
      have z3 := c1.stored true false none 0 0 0
      have z0 := z3.c0
      have z1 := z3.c1
      have z2 := z3.c2
      have z4 := z3.c3
      have HRES := Lib.hid hres; clear hres z3
      go_wp2
      refine bodyPost_ret (v := .agg #[.bool true, .bool false, .slice none 0 0, .int .i64 0]) (by simp [results, Tryz.results68, go_sem, z0, z1, z2, z4]) rfl ⟨_, rfl, ?_, ?_⟩
      · exact HRES.out.1
      · show Below _ _ _; rw [HBe.out]; exact HRES.out.2
    | some p =>
      obtain ⟨m, f⟩ := p
      obtain ⟨rfl, rfl, hm⟩ := dn_some hx
      cases d' with
      | none =>
        obtain rfl := dn_none hy
        go_wp2_with fail
        refine (refBad_any _).mono ?_
        rintro e w1 ⟨rfl, hw1⟩
        have c1 := hrx.below hw1
        obtain ⟨hB2, hB2'⟩ := bnext hB1 (by omega) hw1
        have q0 := c1.c0
        have q1 := c1.c1
        have q2 := c1.c2
        have q3 := c1.c3
        have f0 := c1.f 0
        have f1 := c1.f 1
        have f2 := c1.f 2
        have f3 := c1.f 3
        have hres := dn_stored c1 (dn_bad w1) w hB2 (by omega)
        have z3 := c1.stored true false none 0 0 0
        have z0 := z3.c0
        have z1 := z3.c1
        have z2 := z3.c2
        have z4 := z3.c3
        have HRES := Lib.hid hres; clear hres z3
        go_wp2
        refine bodyPost_ret (v := .agg #[.bool true, .bool false, .slice none 0 0, .int .i64 0]) (by simp [results, Tryz.results68, go_sem, z0, z1, z2, z4]) rfl ⟨_, rfl, ?_, ?_⟩
        · exact HRES.out.1
        · show Below _ _ _; rw [HBe.out]; exact HRES.out.2
      | some q =>
        obtain ⟨m', f'⟩ := q
        obtain ⟨rfl, rfl, hm'⟩ := dn_some hy
        have hnx := nd_blen hx.1
        have hny := nd_blen hy.1
        simp only [dm, dx, Option.getD_some] at hnx hny
        obtain ⟨hnx, hx0, hx1⟩ := hnx
        obtain ⟨hny, hy0, hy1⟩ := hny
        have gm := bn_bg_of hm (by omega)
        have gm' := bn_bg_of hm' (by omega)
        clear hx hy hm hm'
        have HC := Lib.hid (show ∀ wx, Ext wc wx → (wx.cell? ⟨B, 1, none⟩ = some (.bool xn) ∧ wx.cell? ⟨B, 2, none⟩ = some (.slice xo xk xc) ∧ wx.cell? ⟨B, 3, none⟩ = some (.int .i64 xe)) ∧ (wx.cell? ⟨B + 1, 1, none⟩ = some (.bool yn) ∧ wx.cell? ⟨B + 1, 2, none⟩ = some (.slice yo yk yc) ∧ wx.cell? ⟨B + 1, 3, none⟩ = some (.int .i64 ye)) from fun wx h =>
          ⟨⟨(bx.ext h).c1, (bx.ext h).c2, (bx.ext h).c3⟩, ⟨(bY.ext h).c1, (bY.ext h).c2, (bY.ext h).c3⟩⟩)
        have ex0 : Ext wc wc.drew := (Below.refl _ _).drew
        have HBL := Lib.hid (show blen (m * m').natAbs ≤ 1000000 by have := blen_mul_le m m'; omega)
        have hwr : IntKind.i64.wrap (xe + ye) = xe + ye := IntWalk.i64_in _ ⟨by omega, by omega⟩
        go_upto_region 4 with fail
        go_region_held3 (fun wx => (wx.cell? ⟨B, 1, none⟩ = some (.bool xn) ∧ wx.cell? ⟨B, 2, none⟩ = some (.slice xo xk xc) ∧ wx.cell? ⟨B, 3, none⟩ = some (.int .i64 xe)) ∧ (wx.cell? ⟨B + 1, 1, none⟩ = some (.bool yn) ∧ wx.cell? ⟨B + 1, 2, none⟩ = some (.slice yo yk yc) ∧ wx.cell? ⟨B + 1, 3, none⟩ = some (.int .i64 ye)))
          (first | exact HC.out _ (by assumption) | (refine ⟨⟨?_, ?_, ?_⟩, ?_, ?_, ?_⟩ <;> go_simp))
          (first
            | (go_at_call 133; refine (refMul_any _ _ _ _ _ _ _ _ _ _ _ (by exact gm.drew) (by exact gm'.drew)).mono ?_; rintro e w1 ⟨nr, ro, l, cr, rfl, hr, hw1⟩; have ex1 : Ext wc w1 := ex0.trans hw1)
            | (go_at_call 131; refine (refMake_any _ _ _ _ _ _ _ (bn_bg_of hr HBL.out) HBL.out (by omega) (by omega) (HT.out.below ex1)).mono ?_; rintro e w2 ⟨r, rfl, hr2, hw2⟩; have ex2 : Ext wc w2 := ex1.trans hw2; obtain ⟨rb, rn, ro2, rk, rc, re, rfl⟩ := hr2.parts; have c2 := hrx.ext ex2; have q0 := c2.c0; have q1 := c2.c1; have q2 := c2.c2; have q3 := c2.c3; have f0 := c2.f 0; have f1 := c2.f 1; have f2 := c2.f 2; have f3 := c2.f 3; obtain ⟨⟨a1, a2, a3⟩, b1, b2, b3⟩ := HC.out _ ex2))
        have hB2 : Below B w w2 := (bnext hB1 (by omega) ex2).1
        have hres := dn_stored c2 hr2 w hB2 (by omega)
        have z3 := c2.stored rb rn ro2 rk rc re
        have z0 := z3.c0
        have z1 := z3.c1
        have z2 := z3.c2
        have z4 := z3.c3
        have HRES := Lib.hid hres; clear hres z3
        go_wp2
        refine bodyPost_ret (v := .agg #[.bool rb, .bool rn, .slice ro2 rk rc, .int .i64 re]) (by simp [results, Tryz.results68, go_sem, z0, z1, z2, z4]) rfl ⟨_, rfl, ?_, ?_⟩
        · exact HRES.out.1
        · show Below _ _ _; rw [HBe.out]; exact HRES.out.2
end Go.Proofs.YtolghagbpnjpgaaGreatDoor
