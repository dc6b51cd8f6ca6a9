import Derived.Test.YtapcecjbmcoliaaGreatDoorACauU5
import Derived.Test.YtapcecjbmcoliaaGreatDoorACauU44
import Derived.Test.YtapcecjbmcoliaaGreatDoorACauU33
import Derived.Test.YtapcecjbmcoliaaGreatDoorACauU39
import Derived.Test.YtapcecjbmcoliaaGreatDoorACauU40
import Derived.Test.YtapcecjbmcoliaaGreatDoorACauU41
namespace Go.Proofs.YtapcecjbmcoliaaGreatDoor
open Go Go.RowKit

set_option maxRecDepth 100000 in
set_option maxHeartbeats 1000000 in
theorem timesK_any (a b : Nat) (ao bo : Option Addr) (n m ca cb : Nat) (w : World) (ha : Sl w ao n ca (limbs a)) (hb : Sl w bo m cb (limbs b)) (hn : n ≤ 190) (hm : m ≤ 190) :
    Calls Tryz.prog 54 #[.slice ao n ca, .slice bo m cb] w fun e w' => ∃ ao' k cap, e = .returned (.slice ao' k cap) ∧ Sl w' ao' k cap (limbs (a * b)) ∧ Below w.heap.size w w' := by
  by_cases hs : n < 100 ∨ m < 100
  · exact times_any a b ao bo n m ca cb w ha hb (by omega) (by omega) hs
  · have hn1 : 100 ≤ n := by omega
    have hm1 : 100 ≤ m := by omega
    clear hs
    by_cases hlt : n < m
    · go_enter Tryz.func54, Tryz.ntmps54
      go_wp2_with fail
      refine (karat_any b a _ _ _ _ _ _ _ hb ha (by omega) (by omega) (by omega)).mono ?_
      rintro e w2 ⟨ro, k, cr, rfl, hr, hw2⟩
      go_wp2
      go_ret
      exact ⟨ro, k, cr, rfl, by rw [Nat.mul_comm a b]; exact hr, hw2⟩
    · go_enter Tryz.func54, Tryz.ntmps54
      go_wp2_with fail
      refine (karat_any a b _ _ _ _ _ _ _ ha hb (by omega) (by omega) (by omega)).mono ?_
      rintro e w2 ⟨ro, k, cr, rfl, hr, hw2⟩
      go_wp2
      go_ret
      exact ⟨ro, k, cr, rfl, hr, hw2⟩
end Go.Proofs.YtapcecjbmcoliaaGreatDoor

namespace Go.Proofs.YtapcecjbmcoliaaGreatDoor
open Go.RowKit

set_option maxRecDepth 100000 in
set_option maxHeartbeats 4000000 in
theorem mulK_any (nb mb : Bool) (ao : Option Addr) (n ca : Nat) (bo : Option Addr) (m cb : Nat) (x y : Int) (w : World) (ha : Bg w nb ao n ca x) (hb : Bg w mb bo m cb y) (h100 : n ≤ 190 ∧ m ≤ 190) :
    Calls Tryz.prog 29 #[.agg #[.bool nb, .slice ao n ca], .agg #[.bool mb, .slice bo m cb]] w fun e w' => ∃ nr ro k cr, e = .returned (.agg #[.bool nr, .slice ro k cr]) ∧ Bn w' nr ro k cr (x * y) ∧ Below w.heap.size w w' := by
  obtain ⟨⟨zs, hs, hx⟩, hsm⟩ := ha
  obtain ⟨⟨ys, hu, hy⟩, hum⟩ := hb
  have hwz := hs.wf
  have hwy := hu.wf
  have hx' := Lib.hid hx; clear hx
  have hy' := Lib.hid hy; clear hy
  have H100 := Lib.hid h100; clear h100
  go_enter Tryz.func29, Tryz.ntmps29
  go_wp2_with fail
  obtain ⟨W, hW, hB, hbx, hby, hrx, hz⟩ := boxes2 w nb ao n ca mb bo m cb
  rw [← hW]
  clear hW
  have hs0 := hs.below hB
  have hu0 := hu.below hB
  generalize hBe : w.heap.size = B at *
  have HBe := Lib.hid hBe; clear hBe
  have hBelow := Lib.hid hB
  clear hs hu hB
  obtain ⟨k1, hk1, hs1, ht1⟩ := trim_at _ _ _ _ _ hs0
  obtain ⟨k2, hk2, hu1, ht2⟩ := trim_at _ _ _ _ _ hu0
  generalize ea : (num zs).toNat = a at hs1
  generalize eb : (num ys).toNat = b at hu1
  have EA := Lib.hid ea; clear ea
  have EB := Lib.hid eb; clear eb
  have HT1 := Lib.hid ht1; clear ht1
  have HT2 := Lib.hid ht2; clear ht2
  have k0 := hbx.c0
  have k1' := hbx.c1
  have l0 := hby.c0
  have l1' := hby.c1
  go_region_held3 (fun w' => w'.cell? ⟨B, 0, none⟩ = some (.bool nb) ∧ w'.cell? ⟨B, 1, none⟩ = some (.slice ao n ca) ∧ w'.cell? ⟨B + 1, 0, none⟩ = some (.bool mb) ∧ w'.cell? ⟨B + 1, 1, none⟩ = some (.slice bo m cb))
    (first | exact ⟨k0, k1', l0, l1'⟩ | exact ⟨x2.c0, x2.c1, v2.c0, v2.c1⟩ | exact ⟨x3.c0, x3.c1, v3.c0, v3.c1⟩ | (refine ⟨?_, ?_, ?_, ?_⟩ <;> go_simp))
    (first
      | (go_at_call 46; first | ((with_reducible refine (HT1.out _ (by exact hs0.drew)).mono ?_); rintro e w1 ⟨rfl, rfl⟩) | ((with_reducible refine (HT2.out _ (by exact hu0.drew)).mono ?_); rintro e w1 ⟨rfl, rfl⟩))
      | (go_at_call 54; refine (timesK_any _ _ _ _ _ _ _ _ _ (by exact hs1.drew) (by exact hu1.drew) (by have := H100.out; omega) (by have := H100.out; omega)).mono ?_; rintro e w2 ⟨ro, k, cr, rfl, hp, hw2⟩; have x2 := hbx.drew.below hw2; have v2 := hby.drew.below hw2; have y2 := hrx.drew.below hw2)
      | (go_at_call 53; refine (signed_any _ _ _ _ _ _ (by exact hp)).mono ?_; rintro e w3 ⟨ro', cr', rfl, hs3, hw3⟩; have x3 := x2.below hw3; have v3 := v2.below hw3; have y3 := y2.below hw3; have q0 := y3.c0; have q1 := y3.c1; have q2 := y3.f 0; have q3 := y3.f 1; have e0 := x3.c0; have e1 := x3.c1; have e2 := v3.c0; have e3 := v3.c1))
  have z3 := y3.stored (!(nb == mb) && decide (0 < k)) ro' k cr'
  have z0 := z3.c0
  have z1 := z3.c1
  go_wp2
  refine bodyPost_ret (v := .agg #[.bool (!(nb == mb) && decide (0 < k)), .slice ro' k cr']) (by simp [results, Tryz.results29, go_sem, z0, z1]) rfl ⟨_, ro', k, cr', rfl, ?_, ?_⟩
  · refine bn_of (hs3.only_box y3 (only_set2 _ _ _ _)) rfl ?_
    have e := sgd_mul (nb := nb) (mb := mb) hwz hwy
    rw [EA.out, EB.out] at e
    rw [hx'.out, hy'.out]; exact e
  · obtain ⟨b1, l1⟩ := bnext hBelow.out (by omega) (Below.refl _ W).drew
    obtain ⟨b2, l2⟩ := bnext b1 l1 hw2
    obtain ⟨b3, l3⟩ := bnext b2 l2 hw3
    rw [HBe.out]
    exact b3.trans ((only_set2 _ _ _ _).below (by omega))
end Go.Proofs.YtapcecjbmcoliaaGreatDoor

namespace Go.Proofs.YtapcecjbmcoliaaGreatDoor
open Go.RowKit

set_option maxRecDepth 100000 in
set_option maxHeartbeats 4000000 in
theorem dmulK_any (u v : Value) (d d' : Dy) (w : World) (hu : Dg w u d) (hv : Dg w v d') (hT : Table w) (hs : blen (dm d).natAbs ≤ 6000 ∧ blen (dm d').natAbs ≤ 6000) :
    Calls Tryz.prog 8 #[u, v] w fun e w' => ∃ r, e = .returned r ∧ Dn w' r (dmul d d') ∧ Ext w w' := by
  have hu0 := hu
  have hv0 := hv
  obtain ⟨ub, un, uo, uk, uc, _, uf, rfl, -⟩ := hu0
  obtain ⟨vb, vn, vo, vk, vc, _, vf, rfl, -⟩ := hv0
  go_enter Tryz.func8, Tryz.ntmps8
  go_upto_region 1 with fail
  obtain ⟨W, hW, hB, hbx, hby, hrx, hz⟩ := boxes_ddd w ub un uo uk uc uf vb vn vo vk vc vf
  rw [← hW]
  clear hW
  have hu := hu.ext hB
  have hv := hv.ext hB
  have HT0 := Lib.hid hT
  have hT := hT.below hB
  generalize hBe : w.heap.size = B at *
  have HBe := Lib.hid hBe; clear hBe
  go_cut [] from 5 (fun wx => ∃ xb xn xo xk xc xe yb yn yo yk yc ye, Dn wx (.agg #[.bool xb, .bool xn, .slice xo xk xc, .int .i64 xe]) d ∧ Dn wx (.agg #[.bool yb, .bool yn, .slice yo yk yc, .int .i64 ye]) d' ∧
    DBox wx B xb xn xo xk xc xe ∧ DBox wx (B + 1) yb yn yo yk yc ye ∧ Below B w wx ∧ (∀ k, B + 1 < k → k < W.heap.size → wx.heap[k]? = W.heap[k]?) ∧ W.heap.size ≤ wx.heap.size)
  case first =>
    have k0 := hbx.c0
    have k1 := hbx.c1
    have k2 := hbx.c2
    have k3 := hbx.c3
    have l0 := hby.c0
    have l1 := hby.c1
    have l2 := hby.c2
    have l3 := hby.c3
    go_region_with (first
      | (go_at_call 21; refine (dnormal_any _ _ _ (by exact hu.ext (by exact (Below.refl _ _).drew)) (by exact hT.below (by exact (Below.refl _ _).drew))).mono ?_; rintro e w1 ⟨r1, rfl, hr1, hw1⟩; have ex1 : Ext W w1 := Ext.trans (by exact (Below.refl _ _).drew) hw1; obtain ⟨xb, xn, xo, xk, xc, xe, rfl⟩ := hr1.parts; have fb := hby.ext ex1; have h0 := fb.c0; have h1 := fb.c1; have h2 := fb.c2; have h3 := fb.c3)
      | (go_at_call 21; refine (dnormal_any _ _ _ (by exact hv.ext ex1) (by exact hT.below ex1)).mono ?_; rintro e w2 ⟨r2, rfl, hr2, hw2⟩; have ex2 : Ext W w2 := Ext.trans ex1 hw2; obtain ⟨yb, yn, yo, yk, yc, ye, rfl⟩ := hr2.parts; have hr1 := hr1.ext hw2; clear h0 h1 h2 h3; have fa := hbx.ext ex2; have fb := hby.ext ex2; have a0 := fa.c0; have a1 := fa.c1; have a2 := fa.c2; have a3 := fa.c3; have b0 := fb.c0; have b1 := fb.c1; have b2 := fb.c2; have b3 := fb.c3; have g0 := fa.f 0; have g1 := fa.f 1; have g2 := fa.f 2; have g3 := fa.f 3; have h0 := fb.f 0; have h1 := fb.f 1; have h2 := fb.f 2; have h3 := fb.f 3))
    all_goals
      go_wp2
      go_meet
    all_goals
      clear a0 a1 a2 a3 b0 b1 b2 b3 g0 g1 g2 g3 h0 h1 h2 h3 k0 k1 k2 k3 l0 l1 l2 l3
      obtain ⟨hB2, hB2'⟩ := bnext hB (by omega) ex2
      obtain ⟨Z, hZ, z1, z2, z3, z4, z5, z6, z7⟩ := two_dyads fa fb (by omega) (Nat.le_refl B) (Nat.le_succ B) hr1 hr2 hB2
      rw [← hZ]
      exact ⟨_, _, _, _, _, _, _, _, _, _, _, _, z1, z2, z4, z5, z3, fun k hk1 hk2 => by rw [z6 k (by omega) (by omega)]; exact Below.block ex2 k hk2, by rw [z7]; exact Below.size ex2⟩
  case rest =>
    obtain ⟨xb, xn, xo, xk, xc, xe, yb, yn, yo, yk, yc, ye, hx, hy, bx, bY, hB1, hkeep, hzc⟩ := hcut
    have hT1 := (show Table w from HT0.out).below (w' := wc) (by rw [HBe.out]; exact hB1)
    have hrx : DBox wc (B + 1 + 1) false false none 0 0 0 := by
      have := hrx
      unfold DBox at this ⊢
      rw [hkeep _ (by omega) (by omega)]; exact this
    have HT := Lib.hid hT1
    clear hT1 hbx hby hu hv hT hB hkeep
    have k0 := bx.c0
    have k1 := bx.c1
    have k2 := bx.c2
    have k3 := bx.c3
    have l0 := bY.c0
    have l1 := bY.c1
    have l2 := bY.c2
    have l3 := bY.c3
    cases d with
    | none =>
      obtain rfl := dn_none hx
      go_wp2_with fail
      refine (bad_any _).mono ?_
      rintro e w1 ⟨rfl, hw1⟩
      have c1 := hrx.below hw1
      obtain ⟨hB2, hB2'⟩ := bnext hB1 (by omega) hw1
      have q0 := c1.c0
      have q1 := c1.c1
      have q2 := c1.c2
      have q3 := c1.c3
      have f0 := c1.f 0
      have f1 := c1.f 1
      have f2 := c1.f 2
      have f3 := c1.f 3
      have hres := dn_stored c1 (dn_bad w1) w hB2 (by omega)
      have z3 := c1.stored true false none 0 0 0
      have z0 := z3.c0
      have z1 := z3.c1
      have z2 := z3.c2
      have z4 := z3.c3
      have HRES := Lib.hid hres; clear hres z3
      go_wp2
      refine bodyPost_ret (v := .agg #[.bool true, .bool false, .slice none 0 0, .int .i64 0]) (by simp [results, Tryz.results8, go_sem, z0, z1, z2, z4]) rfl ⟨_, rfl, ?_, ?_⟩
      · exact HRES.out.1
      · show Below _ _ _; rw [HBe.out]; exact HRES.out.2
    | some p =>
      obtain ⟨m, f⟩ := p
      obtain ⟨rfl, rfl, hm⟩ := dn_some hx
      cases d' with
      | none =>
        obtain rfl := dn_none hy
        go_wp2_with fail
        refine (bad_any _).mono ?_
        rintro e w1 ⟨rfl, hw1⟩
        have c1 := hrx.below hw1
        obtain ⟨hB2, hB2'⟩ := bnext hB1 (by omega) hw1
        have q0 := c1.c0
        have q1 := c1.c1
        have q2 := c1.c2
        have q3 := c1.c3
        have f0 := c1.f 0
        have f1 := c1.f 1
        have f2 := c1.f 2
        have f3 := c1.f 3
        have hres := dn_stored c1 (dn_bad w1) w hB2 (by omega)
        have z3 := c1.stored true false none 0 0 0
        have z0 := z3.c0
        have z1 := z3.c1
        have z2 := z3.c2
        have z4 := z3.c3
        have HRES := Lib.hid hres; clear hres z3
        go_wp2
        refine bodyPost_ret (v := .agg #[.bool true, .bool false, .slice none 0 0, .int .i64 0]) (by simp [results, Tryz.results8, go_sem, z0, z1, z2, z4]) rfl ⟨_, rfl, ?_, ?_⟩
        · exact HRES.out.1
        · show Below _ _ _; rw [HBe.out]; exact HRES.out.2
      | some q =>
        obtain ⟨m', f'⟩ := q
        obtain ⟨rfl, rfl, hm'⟩ := dn_some hy
        have hnx := nd_blen hx.1
        have hny := nd_blen hy.1
        simp only [dm, dx, Option.getD_some] at hnx hny hs
        obtain ⟨hnx, hx0, hx1⟩ := hnx
        obtain ⟨hny, hy0, hy1⟩ := hny
        have h100 : xk ≤ 190 ∧ yk ≤ 190 := by
          obtain ⟨hs1, hs2⟩ := hs
          constructor
          · rw [← hm.sl.len]; have := limbs_of_blen (a := m.natAbs) (k := 188) (by omega); omega
          · rw [← hm'.sl.len]; have := limbs_of_blen (a := m'.natAbs) (k := 188) (by omega); omega
        have gm := bn_bg_of hm (by omega)
        have gm' := bn_bg_of hm' (by omega)
        clear hx hy hm hm' hs
        have hcells : ∀ wx, Ext wc wx → (wx.cell? ⟨B, 1, none⟩ = some (.bool xn) ∧ wx.cell? ⟨B, 2, none⟩ = some (.slice xo xk xc) ∧ wx.cell? ⟨B, 3, none⟩ = some (.int .i64 xe)) ∧
            (wx.cell? ⟨B + 1, 1, none⟩ = some (.bool yn) ∧ wx.cell? ⟨B + 1, 2, none⟩ = some (.slice yo yk yc) ∧ wx.cell? ⟨B + 1, 3, none⟩ = some (.int .i64 ye)) := fun wx h =>
          ⟨⟨(bx.ext h).c1, (bx.ext h).c2, (bx.ext h).c3⟩, ⟨(bY.ext h).c1, (bY.ext h).c2, (bY.ext h).c3⟩⟩
        have HC := Lib.hid hcells; clear hcells
        have ex0 : Ext wc wc.drew := (Below.refl _ _).drew
        have hwr : IntKind.i64.wrap (xe + ye) = xe + ye := IntWalk.i64_in _ ⟨by omega, by omega⟩
        go_upto_region 4 with fail
        go_region_held3 (fun wx => (wx.cell? ⟨B, 1, none⟩ = some (.bool xn) ∧ wx.cell? ⟨B, 2, none⟩ = some (.slice xo xk xc) ∧ wx.cell? ⟨B, 3, none⟩ = some (.int .i64 xe)) ∧
            (wx.cell? ⟨B + 1, 1, none⟩ = some (.bool yn) ∧ wx.cell? ⟨B + 1, 2, none⟩ = some (.slice yo yk yc) ∧ wx.cell? ⟨B + 1, 3, none⟩ = some (.int .i64 ye)))
          (first | exact HC.out _ (by assumption) | (refine ⟨⟨?_, ?_, ?_⟩, ?_, ?_, ?_⟩ <;> go_simp))
          (first
            | (go_at_call 29; refine (mulK_any _ _ _ _ _ _ _ _ _ _ _ (by exact gm.drew) (by exact gm'.drew) h100).mono ?_; rintro e w1 ⟨nr, ro, l, cr, rfl, hr, hw1⟩; have ex1 : Ext wc w1 := ex0.trans hw1)
            | (go_at_call 28; refine (dreduce_any _ _ _ _ _ _ _ (bn_bg_of hr (by have := blen_mul_le m m'; omega)) (by omega) (by omega) (HT.out.below ex1)).mono ?_; rintro e w2 ⟨r, rfl, hr2, hw2⟩; have ex2 : Ext wc w2 := ex1.trans hw2; obtain ⟨rb, rn, ro2, rk, rc, re, rfl⟩ := hr2.parts; have c2 := hrx.ext ex2; have q0 := c2.c0; have q1 := c2.c1; have q2 := c2.c2; have q3 := c2.c3; have f0 := c2.f 0; have f1 := c2.f 1; have f2 := c2.f 2; have f3 := c2.f 3; obtain ⟨⟨a1, a2, a3⟩, b1, b2, b3⟩ := HC.out _ ex2))
        have hB2 : Below B w w2 := (bnext hB1 (by omega) ex2).1
        have hres := dn_stored c2 hr2 w hB2 (by omega)
        have z3 := c2.stored rb rn ro2 rk rc re
        have z0 := z3.c0
        have z1 := z3.c1
        have z2 := z3.c2
        have z4 := z3.c3
        have HRES := Lib.hid hres; clear hres z3
        go_wp2
        refine bodyPost_ret (v := .agg #[.bool rb, .bool rn, .slice ro2 rk rc, .int .i64 re]) (by simp [results, Tryz.results8, go_sem, z0, z1, z2, z4]) rfl ⟨_, rfl, ?_, ?_⟩
        · exact HRES.out.1
        · show Below _ _ _; rw [HBe.out]; exact HRES.out.2
end Go.Proofs.YtapcecjbmcoliaaGreatDoor

namespace Go.Proofs.YtapcecjbmcoliaaGreatDoor
open Go.RowKit

set_option maxRecDepth 100000 in
set_option maxHeartbeats 2000000 in
theorem refDFromInt_any (x : Int) (w : World) (h0 : -9223372036854775808 ≤ x) (h1 : x ≤ 9223372036854775807) (hT : Table w) :
    Calls Tryz.prog 33 #[.int .i64 x] w fun e w' => ∃ v, e = .returned v ∧ Dn w' v (dmk x 0) ∧ Ext w w' := by
  have HT := Lib.hid hT
  have C := Lib.hid (fun w => refFromInt_any x w h0 h1)
  have HBL := Lib.hid (show blen x.natAbs ≤ 1000000 from Nat.le_trans (blen_le_of_lt (show x.natAbs < 2 ^ 64 by omega)) (by omega))
  clear hT h0 h1
  go_enter Tryz.func33, Tryz.ntmps33
  go_upto_region 1 with fail
  obtain ⟨W, hW, hB, r1, hz⟩ := dbox_new w false false none 0 0 0
  rw [← hW]
  clear hW
  have HT := Lib.hid (HT.out.below hB)
  generalize hBe : w.heap.size = B at *
  have HBe := Lib.hid hBe
  clear hBe hz
  go_wp2_with fail
  refine (C.out _).mono ?_
  rintro e w1 ⟨nr, ro, k, cr, rfl, hr, hw1⟩
  have HT := Lib.hid (HT.out.below hw1)
  have c1 := r1.below hw1
  obtain ⟨hB2, hB2'⟩ := bnext hB (Nat.le_of_lt r1.lt) hw1
  have hr := bn_bg_of hr HBL.out
  clear r1 hB hw1
  go_wp2_with fail
  refine (refMake_any _ _ _ _ _ _ _ hr HBL.out (by omega) (by omega) HT.out).mono ?_
  rintro e w5 ⟨v, rfl, hr2, hw5⟩
  have c1 := c1.below hw5
  obtain ⟨hB4, hB4'⟩ := bnext hB2 hB2' hw5
  obtain ⟨rb, rn, ro2, rk, rc, re, rfl⟩ := hr2.parts
  clear hr hw5 hB2
  have q0 := c1.c0
  have q1 := c1.c1
  have q2 := c1.c2
  have q3 := c1.c3
  have f0 := c1.f 0
  have f1 := c1.f 1
  have f2 := c1.f 2
  have f3 := c1.f 3
  have hres := dn_stored c1 hr2 w hB4 (Nat.le_refl _)
  have z3 := c1.stored rb rn ro2 rk rc re
  have z0 := z3.c0
  have z1 := z3.c1
  have z2 := z3.c2
  have z4 := z3.c3
  have HRES := Lib.hid hres; clear hres z3
  go_wp2
  refine bodyPost_ret (v := .agg #[.bool rb, .bool rn, .slice ro2 rk rc, .int .i64 re]) (by simp [results, Tryz.results33, go_sem, z0, z1, z2, z4]) rfl ⟨_, rfl, ?_, ?_⟩
  · exact HRES.out.1
  · show Below _ _ _; rw [HBe.out]; exact HRES.out.2
end Go.Proofs.YtapcecjbmcoliaaGreatDoor

namespace Go.Proofs.YtapcecjbmcoliaaGreatDoor
open Go Go.RowKit

theorem refFNeg_any (f : Nat) (hf : f < 18446744073709551616) (hn : nanB f = false) (hs : fneg f = false) (w : World) :
    Calls Tryz.prog 15 #[.int .u64 (f : Int)] w fun e w' => e = .returned (.int .u64 ((9223372036854775808 + f : Nat) : Int)) ∧ w = w' := by
  have hlt : f < 9223372036854775808 := by unfold fneg at hs; simpa using hs
  have hx : bits BinOp.xor IntKind.u64 (f : Int) 9223372036854775808 = ((9223372036854775808 + f : Nat) : Int) := by
    rw [xor_sign hf, hs, show fmag f = f from Nat.mod_eq_of_lt hlt]; rfl
  clear hlt
  go_enter Tryz.func15, Tryz.ntmps15
  go_wp2_with fail
  refine (refNan_any f hf false hn w).mono ?_
  rintro e w1 ⟨rfl, rfl⟩
  go_wp2
  go_ret
  exact ⟨rfl, rfl⟩

theorem dmk_60 : dmk 1152921504606846976 0 = some (1, 60) := by
  have := dmk_shift 1 0 60
  rw [show (1 : Int) * 2 ^ 60 = 1152921504606846976 by decide] at this
  rw [this]
  exact dmk_norm (Or.inr ⟨by decide, by decide, by decide⟩)

set_option maxRecDepth 100000 in
set_option maxHeartbeats 4000000 in
theorem refRounded_60 (nb : Bool) (ao : Option Addr) (n ca : Nat) (w : World) (h : Bg w nb ao n ca 1) :
    Calls Tryz.prog 59 #[.bool false, .agg #[.bool nb, .slice ao n ca], .int .i64 60, .bool false, .int .i64 0] w fun e w' => e = .returned (.int .u64 4877398396442247168) ∧ Ext w w' := by
  go_enter Tryz.func59, Tryz.ntmps59
  go_upto_region 1 with fail
  obtain ⟨W, hW, hB, hbx, hz⟩ := box_new w nb ao n ca
  rw [← hW]
  clear hW
  have h := h.below hB
  generalize hBe : w.heap.size = B at *
  have HBe := Lib.hid hBe
  clear hBe
  have k0 := hbx.c0
  have k1 := hbx.c1
  go_wp2_with fail
  refine (refBitLen_any _ _ _ _ _ _ h).mono ?_
  rintro e w1 ⟨rfl, hw1⟩
  rw [show ((blen (1 : Int).natAbs : Nat) : Int) = 1 by decide]
  have hbx := hbx.below hw1
  have h := h.below hw1
  obtain ⟨hE, hE'⟩ := bnext hB (by omega) hw1
  clear k0 k1 hw1 hB
  have k0 := hbx.c0
  have k1 := hbx.c1
  have hmx : max (8 : Int) (-1074) = 8 := by decide
  go_upto_region 6 with fail
  obtain ⟨V, hV, hVB, hvx, hvz⟩ := box_new w1 false none 0 0
  rw [← hV]
  clear hV
  have hbx := hbx.below hVB
  have h := h.below hVB
  obtain ⟨hE, hE2⟩ := bnext hE hE' hVB
  clear k0 k1 hVB
  generalize w1.heap.size = C at *
  have k0 := hbx.c0
  have k1 := hbx.c1
  go_wp2_with fail
  refine (refShift_up _ _ _ _ _ 52 _ h (by omega)).mono ?_
  rintro e w2 ⟨nr, ro, k, cr, rfl, hr, _, hw2⟩
  rw [show (1 : Int) * 2 ^ 52 = 4503599627370496 by decide] at hr
  have hvx := hvx.below hw2
  obtain ⟨hE, hE2⟩ := bnext hE hE2 hw2
  clear k0 k1 hbx h hvz hz hw2
  have v0 := hvx.c0
  have v1 := hvx.c1
  have f0 := hvx.f 0
  have f1 := hvx.f 1
  have hfit : fitsI 4503599627370496 = true ∧ intOut 4503599627370496 = 4503599627370496 := fits_yes (by omega)
  go_upto_region 9 with fail
  have ho := only_set2 w2 C (.bool nr) (.slice ro k cr)
  have hr := hr.only_box hvx ho
  have hvx := hvx.stored nr ro k cr
  have hE3 := hE.trans (ho.below (B := B) hE')
  have hz3 := ho.size
  clear ho v0 v1 f0 f1 hE
  generalize (w2.setCell ⟨C, 0, none⟩ (.bool nr)).setCell ⟨C, 1, none⟩ (.slice ro k cr) = w3 at *
  have v0 := hvx.c0
  have v1 := hvx.c1
  go_wp2_with fail
  refine (refInt_any _ _ _ _ _ _ (bn_bg_of hr (by decide))).mono ?_
  rintro e w4 ⟨rfl, hw4⟩
  rw [hfit.1, hfit.2]
  obtain ⟨hE4, _⟩ := bnext hE3 (by omega) hw4
  have HE := Lib.hid (show Ext w w4 by unfold Ext; rw [HBe.out]; exact hE4)
  clear hfit hr hvx v0 v1 hw4 hE4 hE3
  have hbor : bits BinOp.or IntKind.u64 4877398396442247168 0 = 4877398396442247168 := by decide
  go_wp2
  go_ret
  exact ⟨rfl, HE.out⟩

set_option maxRecDepth 100000 in
set_option maxHeartbeats 4000000 in
theorem refRound_60 (v : Value) (w : World) (hv : Dn w v (some (1, 60))) (hT : Table w) :
    Calls Tryz.prog 32 #[v, .int .i64 0] w fun e w' => e = .returned (.int .u64 4877398396442247168) ∧ Ext w w' := by
  obtain ⟨ub, un, uo, uk, uc, uf, rfl⟩ := hv.parts
  go_enter Tryz.func32, Tryz.ntmps32
  go_upto_region 1 with fail
  obtain ⟨W, hW, hB, hbx, hz⟩ := dbox_new w ub un uo uk uc uf
  rw [← hW]
  clear hW
  have hv := hv.ext hB
  have HT := Lib.hid (hT.below hB)
  generalize hBe : w.heap.size = B at *
  have HBe := Lib.hid hBe
  clear hBe hT
  have k0 := hbx.c0
  have k1 := hbx.c1
  have k2 := hbx.c2
  have k3 := hbx.c3
  go_wp2_with fail
  refine (refDNorm_any _ _ _ hv.dl HT.out).mono ?_
  rintro e w1 ⟨r, rfl, hr, hw1⟩
  obtain ⟨rb, rn, ro, rk, rc, re, rfl⟩ := hr.parts
  have hbx := hbx.below hw1
  obtain ⟨hE, hE'⟩ := bnext hB (by omega) hw1
  clear k0 k1 k2 k3 hv hB hz hw1 HT
  have k0 := hbx.c0
  have k1 := hbx.c1
  have k2 := hbx.c2
  have k3 := hbx.c3
  have f0 := hbx.f 0
  have f1 := hbx.f 1
  have f2 := hbx.f 2
  have f3 := hbx.f 3
  go_upto_region 2 with fail
  have ho := only_set4 w1 B (.bool rb) (.bool rn) (.slice ro rk rc) (.int .i64 re)
  have hr := hr.only_dbox hbx ho
  have bx := hbx.stored rb rn ro rk rc re
  have hE3 := hE.trans (ho.below (B := B) (Nat.le_refl _))
  have hz2 := ho.size
  clear f0 f1 f2 f3 k0 k1 k2 k3 hE ho hbx
  generalize (((w1.setCell ⟨B, 0, none⟩ (.bool rb)).setCell ⟨B, 1, none⟩ (.bool rn)).setCell ⟨B, 2, none⟩ (.slice ro rk rc)).setCell ⟨B, 3, none⟩ (.int .i64 re) = w3 at *
  obtain ⟨g1, g2, g3⟩ := hr.get
  obtain rfl : rb = false := g1
  obtain rfl : re = 60 := g2
  have g3 : Bn w3 rn ro rk rc 1 := g3
  obtain rfl : rn = false := g3.neg
  have hg := bn_bg_of g3 (by decide)
  have k0 := bx.c0
  have k1 := bx.c1
  have k2 := bx.c2
  have k3 := bx.c3
  have hs1 : (sgn3 1 0 == 0) = false := by decide
  go_wp2_with fail
  refine (refSign_any _ _ _ _ _ _ hg).mono ?_
  rintro e w4 ⟨rfl, hw4⟩
  have bx := bx.below hw4
  have hg := hg.below hw4
  obtain ⟨hE4, hE4'⟩ := bnext hE3 (by omega) hw4
  clear k0 k1 k2 k3 hw4 hE3 g3 hr
  have k0 := bx.c0
  have k1 := bx.c1
  have k2 := bx.c2
  have k3 := bx.c3
  have HC : ∀ wx, Ext w4 wx → wx.cell? ⟨B, 0, none⟩ = some (.bool false) ∧ wx.cell? ⟨B, 1, none⟩ = some (.bool false) ∧ wx.cell? ⟨B, 2, none⟩ = some (.slice ro rk rc) ∧ wx.cell? ⟨B, 3, none⟩ = some (.int .i64 60) := fun wx h => ⟨(bx.ext h).c0, (bx.ext h).c1, (bx.ext h).c2, (bx.ext h).c3⟩
  have HC := Lib.hid HC
  have hex : Ext w4 w4.drew := (Below.refl _ _).drew
  go_upto_region 6 with fail
  go_region_held3 (fun wx => wx.cell? ⟨B, 0, none⟩ = some (.bool false) ∧ wx.cell? ⟨B, 1, none⟩ = some (.bool false) ∧ wx.cell? ⟨B, 2, none⟩ = some (.slice ro rk rc) ∧ wx.cell? ⟨B, 3, none⟩ = some (.int .i64 60))
    (first | exact HC.out _ (by assumption))
    (first
      | (go_at_call 60; refine (refAbs_any _ _ _ _ _ _ (by exact hg.below hex)).mono ?_; rintro e w5 ⟨nr, ao, k, cr, rfl, ha, _, hw5⟩; have ex5 : Ext w4 w5 := Ext.trans hex hw5)
      | (go_at_call 59; refine (refRounded_60 _ _ _ _ _ (by exact bn_bg_of ha (by decide))).mono ?_; rintro e w6 ⟨rfl, hw6⟩; have ex6 : Ext w4 w6 := Ext.trans ex5 hw6))
  obtain ⟨hE6, _⟩ := bnext hE4 hE4' ex6
  have HE := Lib.hid (show Ext w w6 by unfold Ext; rw [HBe.out]; exact hE6)
  go_wp2
  go_ret
  exact ⟨rfl, HE.out⟩

set_option maxRecDepth 100000 in
set_option maxHeartbeats 4000000 in
theorem refFromInt_60 (w : World) (hT : Table w) :
    Calls Tryz.prog 14 #[.int .i64 1152921504606846976, .int .i64 0] w fun e w' => e = .returned (.int .u64 4877398396442247168) ∧ Ext w w' := by
  have C := Lib.hid (refDFromInt_any 1152921504606846976 w (by omega) (by omega) hT)
  rw [dmk_60] at C
  have HT := Lib.hid hT
  clear hT
  go_enter Tryz.func14, Tryz.ntmps14
  go_wp2_with fail
  refine C.out.mono ?_
  rintro e w1 ⟨v, rfl, hv, hw1⟩
  go_wp2_with fail
  refine (refRound_60 v w1 hv (HT.out.below hw1)).mono ?_
  rintro e w2 ⟨rfl, hw2⟩
  go_wp2
  go_ret
  exact ⟨rfl, Ext.trans hw1 hw2⟩
end Go.Proofs.YtapcecjbmcoliaaGreatDoor
