import Derived.Test.YtecaaklbhhjcjaaGreatDoorIRelU36
import Derived.Deep.RegionHeld3
import Derived.Test.YtecaaklbhhjcjaaGreatDoorIRelU27
import Derived.Test.YtecaaklbhhjcjaaGreatDoorIRelU22
import Derived.Test.YtecaaklbhhjcjaaGreatDoorIRelU34
import Derived.Test.YtecaaklbhhjcjaaGreatDoorIRelU19
import Derived.Test.YtecaaklbhhjcjaaGreatDoorIRelU32
import Derived.Test.YtecaaklbhhjcjaaGreatDoorIRelU29
namespace Go.Proofs.YtecaaklbhhjcjaaGreatDoor
open Go Go.RowKit

set_option maxRecDepth 100000 in
set_option maxHeartbeats 4000000 in
theorem refRound_any (u : Value) (d : Dy) (mode : Int) (w : World) (hu : Dl w u d) (hT : Table w) :
    Calls Tryz.prog 106 #[u, .int .i64 mode] w fun e w' => e = .returned (.int .u64 ((frdF d mode : Nat) : Int)) ∧ Ext w w' := by
  obtain ⟨R, hR⟩ : ∃ R, frdF d mode = R := ⟨_, rfl⟩
  rw [hR]
  have HR := Lib.hid hR
  clear hR
  have hu0 := hu
  obtain ⟨ub, un, uo, uk, uc, _, uf, rfl, -⟩ := hu0
  have HTw := Lib.hid hT
  go_enter Tryz.func106, Tryz.ntmps106
  go_upto_region 1 with fail
  obtain ⟨W, hW, hB, hbx, hz⟩ := dbox_new w ub un uo uk uc uf
  rw [← hW]
  clear hW
  have hu := hu.ext hB
  have HT := Lib.hid (hT.below hB)
  generalize hBe : w.heap.size = B at *
  have HBe := Lib.hid hBe; clear hBe hT
  have k0 := hbx.c0
  have k1 := hbx.c1
  have k2 := hbx.c2
  have k3 := hbx.c3
  go_wp2_with fail
  refine (refDNorm_any _ _ _ hu HT.out).mono ?_
  rintro e w1 ⟨r1, rfl, hr, hw1⟩
  have bx := hbx.below hw1
  obtain ⟨hB1, hB1'⟩ := bnext hB (by omega) hw1
  have hz1 := hw1.size
  obtain ⟨xb, xn, xo, xk, xc, xe, rfl⟩ := hr.parts
  clear k0 k1 k2 k3 hbx hB hw1 hu HT
  have k0 := bx.c0
  have k1 := bx.c1
  have k2 := bx.c2
  have k3 := bx.c3
  have f0 := bx.f 0
  have f1 := bx.f 1
  have f2 := bx.f 2
  have f3 := bx.f 3
  go_upto_region 2 with fail
  have ho := only_set4 w1 B (.bool xb) (.bool xn) (.slice xo xk xc) (.int .i64 xe)
  have hr := hr.only_dbox bx ho
  have bx := bx.stored xb xn xo xk xc xe
  have hB2 := hB1.trans (ho.below (B := B) (Nat.le_refl _))
  have hz2 := ho.size
  have hz3 : B + 1 ≤ ((((w1.setCell ⟨B, 0, none⟩ (.bool xb)).setCell ⟨B, 1, none⟩ (.bool xn)).setCell ⟨B, 2, none⟩ (.slice xo xk xc)).setCell ⟨B, 3, none⟩ (.int .i64 xe)).heap.size := by omega
  have hTf := HTw.out.below (w' := (((w1.setCell ⟨B, 0, none⟩ (.bool xb)).setCell ⟨B, 1, none⟩ (.bool xn)).setCell ⟨B, 2, none⟩ (.slice xo xk xc)).setCell ⟨B, 3, none⟩ (.int .i64 xe)) (by rw [HBe.out]; exact hB2)
  clear k0 k1 k2 k3 f0 f1 f2 f3 hB1 ho hz2
  generalize (((w1.setCell ⟨B, 0, none⟩ (.bool xb)).setCell ⟨B, 1, none⟩ (.bool xn)).setCell ⟨B, 2, none⟩ (.slice xo xk xc)).setCell ⟨B, 3, none⟩ (.int .i64 xe) = w2 at *
  have HT := Lib.hid hTf; clear hTf
  have hE2 : Ext w w2 := by show Below _ _ _; rw [HBe.out]; exact hB2
  have k0 := bx.c0
  have k1 := bx.c1
  have k2 := bx.c2
  have k3 := bx.c3
  cases d with
  | none =>
    obtain rfl := dn_none hr
    clear hr
    obtain rfl : R = 9221120237041090560 := HR.out.symm
    clear HR
    go_wp2
    go_ret
    exact ⟨rfl, hE2⟩
  | some p =>
    obtain ⟨m, f⟩ := p
    obtain ⟨rfl, rfl, hm⟩ := dn_some hr
    have HNEG := Lib.hid hm.neg
    have hnx := nd_blen hr.1
    simp only [dm, dx, Option.getD_some] at hnx
    obtain ⟨hnx, hx0, hx1⟩ := hnx
    have gm := bn_bg_of hm (by omega)
    clear hr hm
    go_wp2_with fail
    refine (refSign_any _ _ _ _ _ _ gm).mono ?_
    rintro e w3 ⟨rfl, hw3⟩
    have gm := gm.below hw3
    have bx := bx.below hw3
    have hE3 := Ext.trans hE2 hw3
    have HT3 := Lib.hid (fun W (hW : Ext w3 W) => (HT.out.below hw3).below hW)
    clear k0 k1 k2 k3 hB2 hE2
    have k0 := bx.c0
    have k1 := bx.c1
    have k2 := bx.c2
    have k3 := bx.c3
    by_cases h0 : m = 0
    · have hs0 : (sgn3 m 0 == 0) = true := by simp [sgn3, h0]
      have hV : R = 0 := by rw [← HR.out]; show rz m xe mode = 0; unfold rz; rw [if_pos h0]
      subst hV
      clear h0 HR
      go_wp2
      go_ret
      exact ⟨rfl, hE3⟩
    · have hs0 : (sgn3 m 0 == 0) = false := by
        have : sgn3 m 0 ≠ 0 := fun h => h0 (sgn3_zero h)
        simpa using this
      have HV : Hid (flr xn m.natAbs xe false mode = R) := Lib.hid (by
        rw [← HR.out]
        show _ = rz m xe mode
        unfold rz rnd
        rw [if_neg h0, HNEG.out])
      have HNA := Lib.hid (show m.natAbs ≠ 0 by omega)
      clear h0 HR
      have HC := Lib.hid (show ∀ wx, Ext w3 wx → (wx.cell? ⟨B, 0, none⟩ = some (.bool false) ∧ wx.cell? ⟨B, 1, none⟩ = some (.bool xn) ∧ wx.cell? ⟨B, 2, none⟩ = some (.slice xo xk xc) ∧ wx.cell? ⟨B, 3, none⟩ = some (.int .i64 xe)) from fun wx h => ⟨(bx.ext h).c0, (bx.ext h).c1, (bx.ext h).c2, (bx.ext h).c3⟩)
      have ex0 : Ext w3 w3.drew := (Below.refl _ _).drew
      go_upto_region 6 with fail
      go_region_held3 (fun wx => (wx.cell? ⟨B, 0, none⟩ = some (.bool false) ∧ wx.cell? ⟨B, 1, none⟩ = some (.bool xn) ∧ wx.cell? ⟨B, 2, none⟩ = some (.slice xo xk xc) ∧ wx.cell? ⟨B, 3, none⟩ = some (.int .i64 xe)))
        (first | exact HC.out _ (by assumption))
        (first
          | (go_at_call 65; refine (refAbs_any _ _ _ _ _ _ (by exact gm.drew)).mono ?_; rintro e w4 ⟨nr, ro, l, cr, rfl, hq, -, hw4⟩; have ex1 : Ext w3 w4 := ex0.trans hw4)
          | (go_at_call 181; refine (refRounded_any _ _ _ _ _ m.natAbs _ _ _ (bn_bg_of hq (by rw [Int.natAbs_natCast]; omega)) HNA.out (by omega) (by omega) (by omega) (HT3.out _ ex1)).mono ?_; rw [HV.out]; rintro e w5 ⟨rfl, hw5⟩; have ex2 : Ext w3 w5 := ex1.trans hw5))
      have HF := Lib.hid (Ext.trans hE3 ex2)
      go_wp2
      go_ret
      exact ⟨rfl, HF.out⟩
end Go.Proofs.YtecaaklbhhjcjaaGreatDoor

namespace Go.Proofs.YtecaaklbhhjcjaaGreatDoor
open Go.RowKit

set_option maxRecDepth 100000 in
theorem refPlus_any (f : Nat) (w : World) : Calls Tryz.prog 79 #[.int .u64 (f : Int)] w fun e w' => e = .returned (.int .u64 ((plainF f : Nat) : Int)) ∧ w = w' := by
  unfold plainF
  by_cases h : f = 9223372036854775808
  · rw [if_pos h, h]
    go_enter Tryz.func79, Tryz.ntmps79
    go_wp2
    go_ret
    exact ⟨rfl, rfl⟩
  · rw [if_neg h]
    have hb : ((f : Int) == 9223372036854775808) = false := by rw [beq_eq_false_iff_ne]; omega
    go_enter Tryz.func79, Tryz.ntmps79
    go_wp2
    go_ret
    exact ⟨rfl, rfl⟩

/-- the sign of a number -/
def sgN (i : Int) (d : Dy) : Int := if i ≠ 0 then i else sgn3 (dm d) 0
/-- a number rounded -/
def rnN (i : Int) (d : Dy) (mode : Int) : Nat := if i = 1 then 9218868437227405312 else if i = -1 then 18442240474082181120 else plainF (frdF d mode)

set_option maxRecDepth 100000 in
set_option maxHeartbeats 4000000 in
theorem refSgN_any (v : Value) (i : Int) (d : Dy) (s : Int) (hs : sgN i d = s) (w : World) (hv : NumV w v i d) (hT : Table w) :
    Calls Tryz.prog 92 #[v] w fun e w' => e = .returned (.int .i64 s) ∧ Ext w w' := by
  obtain ⟨vb, vn, vo, vk, vc, vf, rfl, hd⟩ := hv
  have HT := Lib.hid hT
  clear hT
  unfold sgN at hs
  go_enter Tryz.func92, Tryz.ntmps92
  go_upto_region 1 with fail
  obtain ⟨W, hW, hB, hx, -⟩ := nbx_new w i vb vn vo vk vc vf
  rw [← hW]
  clear hW
  have HB := Lib.hid hB
  have HT := Lib.hid (HT.out.below hB)
  have hd := hd.ext hB
  generalize w.heap.size = B at hx ⊢
  clear hB
  have x0 := hx.c0
  have x1 := hx.c1
  have x2 := hx.c2
  have x3 := hx.c3
  have x4 := hx.c4
  by_cases hi : i = 0
  · have bi : (i != 0) = false := by simp [hi]
    rw [if_neg (by simp [hi])] at hs
    have HS := Lib.hid hs
    clear hs hi
    go_wp2_with fail
    refine (refDSign_any _ d _ hd.dl HT.out).mono ?_
    rintro e w1 ⟨rfl, hE⟩
    rw [HS.out]
    have HF := Lib.hid (HB.out.trans hE)
    go_wp2
    go_ret
    exact ⟨rfl, HF.out⟩
  · have bi : (i != 0) = true := by simp [hi]
    rw [if_pos hi] at hs
    subst hs
    clear hi
    go_wp2
    go_ret
    exact ⟨rfl, HB.out⟩

set_option maxRecDepth 100000 in
set_option maxHeartbeats 4000000 in
theorem refRnN_any (v : Value) (i : Int) (d : Dy) (mode : Int) (w : World) (hv : NumV w v i d) (hT : Table w) :
    Calls Tryz.prog 153 #[v, .int .i64 mode] w fun e w' => e = .returned (.int .u64 ((rnN i d mode : Nat) : Int)) ∧ Ext w w' := by
  obtain ⟨vb, vn, vo, vk, vc, vf, rfl, hd⟩ := hv
  have HT := Lib.hid hT
  clear hT
  obtain ⟨Q, hQ⟩ : ∃ Q : Int, ((rnN i d mode : Nat) : Int) = Q := ⟨_, rfl⟩
  rw [hQ]
  unfold rnN at hQ
  have HQ := Lib.hid hQ
  clear hQ
  go_enter Tryz.func153, Tryz.ntmps153
  go_upto_region 1 with fail
  obtain ⟨W, hW, hB, hx, -⟩ := nbx_new w i vb vn vo vk vc vf
  rw [← hW]
  clear hW
  have HB := Lib.hid hB
  have HT := Lib.hid (HT.out.below hB)
  have hd := hd.ext hB
  generalize w.heap.size = B at hx ⊢
  clear hB
  have x0 := hx.c0
  have x1 := hx.c1
  have x2 := hx.c2
  have x3 := hx.c3
  have x4 := hx.c4
  by_cases h1 : i = 1
  · have b1 : (i == 1) = true := by simp [h1]
    obtain rfl : 9218868437227405312 = Q := by rw [← HQ.out, if_pos h1]; rfl
    clear h1 HQ
    go_wp2
    go_ret
    exact ⟨rfl, HB.out⟩
  · have b1 : (i == 1) = false := by simp [h1]
    by_cases h2 : i = -1
    · have b2 : (i == -1) = true := by simp [h2]
      obtain rfl : 18442240474082181120 = Q := by rw [← HQ.out, if_neg h1, if_pos h2]; rfl
      clear h1 h2 HQ
      go_wp2
      go_ret
      exact ⟨rfl, HB.out⟩
    · have b2 : (i == -1) = false := by simp [h2]
      have HR := Lib.hid (show ((plainF (frdF d mode) : Nat) : Int) = Q by rw [← HQ.out, if_neg h1, if_neg h2])
      clear h1 h2 HQ
      go_wp2_with fail
      refine (refRound_any _ d mode _ hd.dl HT.out).mono ?_
      rintro e w1 ⟨rfl, hE⟩
      have HF := Lib.hid (HB.out.trans hE)
      clear x0 x1 x2 x3 x4
      go_wp2_with fail
      refine (refPlus_any _ _).mono ?_
      rintro e w2 ⟨rfl, rfl⟩
      go_wp2
      go_ret
      exact ⟨by rw [← HR.out]; rfl, HF.out⟩

theorem nbx_oi (w : World) (i : Int) (bb nb : Bool) (ao : Option Addr) (n ca : Nat) (e : Int) (j : Int) (cb mb : Bool) (bo : Option Addr) (m cc : Nat) (f : Int) :
    ∃ W, W = ((w.alloc (.cells #[.int .i64 i, .bool bb, .bool nb, .slice ao n ca, .int .i64 e] 75)).alloc (.cells #[.int .i64 j, .bool cb, .bool mb, .slice bo m cc, .int .i64 f] 75)).alloc (.cells #[.int .u64 0, .int .u64 0] 40) ∧ Below w.heap.size w W ∧ NBx W w.heap.size i bb nb ao n ca e ∧ NBx W (w.heap.size + 1) j cb mb bo m cc f ∧ IBox W (w.heap.size + 1 + 1) 0 0 ∧ w.heap.size + 1 + 1 + 1 ≤ W.heap.size := by
  refine ⟨_, rfl, (((Below.refl _ w).alloc (Nat.le_refl _) _).alloc (by simp) _).alloc (by simp; omega) _, ?_, ?_, ?_, by simp⟩
  · exact ((NBx.new w i bb nb ao n ca e).below ((Below.refl _ _).alloc (Nat.le_refl _) _)).below ((Below.refl _ _).alloc (Nat.le_refl _) _)
  · have := (NBx.new (w.alloc (.cells #[.int .i64 i, .bool bb, .bool nb, .slice ao n ca, .int .i64 e] 75)) j cb mb bo m cc f).below ((Below.refl _ _).alloc (Nat.le_refl _) (.cells #[.int .u64 0, .int .u64 0] 40))
    simpa using this
  · have := IBox.new ((w.alloc (.cells #[.int .i64 i, .bool bb, .bool nb, .slice ao n ca, .int .i64 e] 75)).alloc (.cells #[.int .i64 j, .bool cb, .bool mb, .slice bo m cc, .int .i64 f] 75)) 0 0
    simpa using this

set_option maxRecDepth 100000 in
set_option maxHeartbeats 8000000 in
theorem refOutward_any (u v : Value) (i j : Int) (d d' : Dy) (w : World) (hu : NumV w u i d) (hv : NumV w v j d') (hT : Table w) :
    Calls Tryz.prog 83 #[u, v] w fun e w' => e = .returned (.agg #[.int .u64 ((rnN i d 1 : Nat) : Int), .int .u64 ((rnN j d' 2 : Nat) : Int)]) ∧ Ext w w' := by
  have CU := Lib.hid (fun wx (h : Ext w wx) => refRnN_any u i d 1 wx (hu.ext h) (hT.below h))
  have CV := Lib.hid (fun wx (h : Ext w wx) => refRnN_any v j d' 2 wx (hv.ext h) (hT.below h))
  obtain ⟨ub, un, uo, uk, uc, uf, rfl, -⟩ := hu
  obtain ⟨vb, vn, vo, vk, vc, vf, rfl, -⟩ := hv
  obtain ⟨x, hx⟩ : ∃ x : Int, ((rnN i d 1 : Nat) : Int) = x := ⟨_, rfl⟩
  obtain ⟨y, hy⟩ : ∃ y : Int, ((rnN j d' 2 : Nat) : Int) = y := ⟨_, rfl⟩
  rw [hx] at CU
  rw [hy] at CV
  rw [hx, hy]
  clear hx hy hT
  go_enter Tryz.func83, Tryz.ntmps83
  go_upto_region 1 with fail
  obtain ⟨W, hW, hB, hx, hy, hbx, hsz⟩ := nbx_oi w i ub un uo uk uc uf j vb vn vo vk vc vf
  rw [← hW]
  clear hW
  have HE := Lib.hid (show Ext w W from hB)
  generalize hBe : w.heap.size = B at *
  have HBe := Lib.hid hBe
  have HB : Hid (Below B w W) := Lib.hid hB
  clear hBe hB
  have HC := Lib.hid (show ∀ wx, Ext W wx → ((wx.cell? ⟨B, 0, none⟩ = some (.int .i64 i) ∧ wx.cell? ⟨B, 1, none⟩ = some (.bool ub) ∧ wx.cell? ⟨B, 2, none⟩ = some (.bool un) ∧ wx.cell? ⟨B, 3, none⟩ = some (.slice uo uk uc) ∧ wx.cell? ⟨B, 4, none⟩ = some (.int .i64 uf)) ∧ (wx.cell? ⟨(B + 1), 0, none⟩ = some (.int .i64 j) ∧ wx.cell? ⟨(B + 1), 1, none⟩ = some (.bool vb) ∧ wx.cell? ⟨(B + 1), 2, none⟩ = some (.bool vn) ∧ wx.cell? ⟨(B + 1), 3, none⟩ = some (.slice vo vk vc) ∧ wx.cell? ⟨(B + 1), 4, none⟩ = some (.int .i64 vf))) ∧ IBox wx (B + 1 + 1) 0 0 from fun wx h => ⟨⟨⟨(hx.below h).c0, (hx.below h).c1, (hx.below h).c2, (hx.below h).c3, (hx.below h).c4⟩, (hy.below h).c0, (hy.below h).c1, (hy.below h).c2, (hy.below h).c3, (hy.below h).c4⟩, hbx.below h⟩)
  obtain ⟨⟨⟨a0, a1, a2, a3, a4⟩, b0, b1, b2, b3, b4⟩, hz⟩ := HC.out W (Ext.refl _)
  clear hx hy hbx
  have z0 := hz.c0
  have z1 := hz.c1
  have z2 := hz.f 0
  have z3 := hz.f 1
  have st : Ext W W.drew := (Below.refl _ _).drew
  first | (go_region_with (first
      | (go_at_call 153; (with_reducible refine (CU.out _ (Ext.trans HE.out (by assumption))).mono ?_); rintro r wn ⟨rfl, hE⟩; have st : Ext W wn := Ext.trans (by assumption) hE; clear hE; obtain ⟨⟨⟨a0, a1, a2, a3, a4⟩, b0, b1, b2, b3, b4⟩, hz⟩ := HC.out wn st; have z0 := hz.c0; have z1 := hz.c1; have z2 := hz.f 0; have z3 := hz.f 1)
      | (go_at_call 153; (with_reducible refine (CV.out _ (Ext.trans HE.out (by assumption))).mono ?_); rintro r wk ⟨rfl, hE⟩; have stk : Ext W wk := Ext.trans (by assumption) hE; clear hE; obtain ⟨⟨⟨a0, a1, a2, a3, a4⟩, b0, b1, b2, b3, b4⟩, hz⟩ := HC.out wk stk; have z0 := hz.c0; have z1 := hz.c1; have z2 := hz.f 0; have z3 := hz.f 1))) | fail "no walk"
  all_goals
    have hst := hz.stored x y
    have y0 := hst.c0
    have y1 := hst.c1
    have HF := Lib.hid ((HB.out.trans (Below.mono stk (by omega))).trans ((only_iset2 wk (B + 1 + 1) (.int .u64 x) (.int .u64 y)).below (by omega)))
    clear hst
    go_wp2
    refine bodyPost_ret (v := .agg #[.int .u64 x, .int .u64 y]) (by simp [results, Tryz.results83, go_sem, y0, y1]) rfl ⟨rfl, ?_⟩
    show Below _ _ _
    rw [HBe.out]
    exact HF.out
end Go.Proofs.YtecaaklbhhjcjaaGreatDoor

namespace Go.Proofs.YtecaaklbhhjcjaaGreatDoor
open Go.RowKit

/-- a float's number against a dyad -/
theorem sc_fdy {f : Nat} (h : finB f = true) : sc (fdy f) = fs f 65536 := by
  rw [sc_is (fdy_is h) (by omega)]
  unfold fs fzs fu
  rw [fz_mag]
  generalize 65536 - 1074 = k
  have hc : ((fz f * 2 ^ k : Nat) : Int) = (fz f : Int) * 2 ^ k := by rw [Int.natCast_mul, Int.natCast_pow]; rfl
  rw [hc]
  cases fneg f
  · rfl
  · simp only [if_true]; rw [Int.neg_mul]
/-- what the statement compares -/
structure EnclIs (d : Dy) (lo hi near : Nat) (x : Int) (ok : Bool) (y : Int) (is : Bool) : Prop where
  cx : DcmpIs (fdy lo) d x ok
  cy : DcmpIs d (fdy hi) y is
  nlo : nanB lo = false
  nhi : nanB hi = false
  xle : x ≤ 0
  yle : y ≤ 0
  noLo : ok = false → lo = 18442240474082181120
  noHi : is = false → hi = 9218868437227405312
  same : (ok = true ∧ x = 0 ∨ is = true ∧ y = 0) → lo = hi ∧ near = lo
  next : ¬ (ok = true ∧ x = 0 ∨ is = true ∧ y = 0) → FcmpOut (fupF lo) hi 0 true ∧ (near = lo ∨ near = hi)

end Go.Proofs.YtecaaklbhhjcjaaGreatDoor

namespace Go.Proofs.YtecaaklbhhjcjaaGreatDoor
theorem fabs_rank {x : Nat} (h : nanB x = false) : frank (fabsF x) = (fabsF x : Int) ∧ fabsF x ≤ 9218868437227405312 := by
  have h1 := nanB_not h
  unfold fabsF
  rw [h]
  simp only [Bool.false_eq_true, if_false]
  have h2 := fmag_sgz false (f := fmag x) (by omega)
  rw [show sgz false + fmag x = fmag x from by unfold sgz; simp] at h2
  refine ⟨?_, by omega⟩
  unfold frank
  rw [h2.1, h2.2]
  simp
theorem mag_pick {a b : Nat} (na : nanB a = false) (nb : nanB b = false) : magF a b = if frank (fabsF a) < frank (fabsF b) then fabsF b else fabsF a := by
  obtain ⟨a1, a2⟩ := fabs_rank na
  obtain ⟨b1, b2⟩ := fabs_rank nb
  have n1 := (abs_rank na).1
  have n2 := (abs_rank nb).1
  unfold magF greatF
  simp only [List.foldl]
  have e : lessF 18442240474082181120 (fabsF a) = true := by
    rw [less_rank (by decide) n1]
    rw [show frank 18442240474082181120 = -9218868437227405312 by decide +kernel]
    exact decide_eq_true (by omega)
  rw [e, if_pos rfl, less_rank n1 n2]
  by_cases h : frank (fabsF a) < frank (fabsF b)
  · rw [if_pos h, decide_eq_true h, if_pos rfl]
  · rw [if_neg h, decide_eq_false h]; rfl
theorem mig_pick {a b : Nat} (na : nanB a = false) (nb : nanB b = false) : migF a b = if frank a ≤ 0 ∧ 0 ≤ frank b then 0 else if frank (fabsF a) < frank (fabsF b) then fabsF a else fabsF b := by
  obtain ⟨a1, a2⟩ := fabs_rank na
  obtain ⟨b1, b2⟩ := fabs_rank nb
  have n1 := (abs_rank na).1
  have n2 := (abs_rank nb).1
  have e0 : frank 0 = 0 := by decide
  have hc : containsF a b = decide (frank a ≤ 0 ∧ 0 ≤ frank b) := by
    unfold containsF
    rw [less_rank (by decide) na, less_rank nb (by decide), e0]
    by_cases h1 : frank a ≤ 0 <;> by_cases h2 : 0 ≤ frank b <;> simp [h1, h2] <;> omega
  unfold migF leastF
  rw [hc]
  simp only [List.foldl]
  by_cases h : frank a ≤ 0 ∧ 0 ≤ frank b
  · rw [if_pos h, decide_eq_true h, if_pos rfl]
  · rw [if_neg h, decide_eq_false h]
    simp only [Bool.false_eq_true, if_false]
    have et : frank 9218868437227405312 = 9218868437227405312 := by decide +kernel
    have e : (if lessF (fabsF a) 9218868437227405312 then fabsF a else 9218868437227405312) = fabsF a := by
      rw [less_rank n1 (by decide), et]
      by_cases h3 : frank (fabsF a) < 9218868437227405312
      · rw [decide_eq_true h3]; rfl
      · rw [decide_eq_false h3]; simp only [Bool.false_eq_true, if_false]; omega
    rw [e, less_rank n2 n1]
    by_cases h4 : frank (fabsF b) < frank (fabsF a)
    · rw [decide_eq_true h4, if_pos rfl, if_neg (by omega)]
    · rw [decide_eq_false h4]
      simp only [Bool.false_eq_true, if_false]
      by_cases h5 : frank (fabsF a) < frank (fabsF b)
      · rw [if_pos h5]
      · rw [if_neg h5]; omega
theorem plain_eq {x y : Nat} (lx : x < 18446744073709551616) (ly : y < 18446744073709551616) (h : frank x = frank y) : plainF x = plainF y := by
  unfold frank fneg fmag at h
  unfold plainF
  by_cases h1 : 9223372036854775808 ≤ x <;> by_cases h2 : 9223372036854775808 ≤ y <;> simp only [h1, h2, decide_true, decide_false, if_true, if_false, Bool.false_eq_true] at h <;> split <;> split <;> omega
theorem num_fin {f : Nat} (nf : nanB f = false) (h1 : f ≠ 9218868437227405312) (h2 : f ≠ 18442240474082181120) (lf : f < 18446744073709551616) : numI f = 0 ∧ numD f = fdy f ∧ finB f = true := by
  unfold numI numD
  rw [if_neg h1, if_neg h2, if_neg h1, if_neg h2]
  exact ⟨rfl, rfl, fin_of lf nf h1 h2⟩
theorem sgn_dm {f : Nat} (hf : finB f = true) : sgn3 (dm (fdy f)) 0 = sgn3 (frank f) 0 := by
  obtain ⟨m, e, h1, h2, h3, h4⟩ := fdy_is hf
  have hp : (0 : Int) < 2 ^ (e + (1074 : Nat)).toNat := Int.pow_pos (by omega)
  obtain ⟨s1, s2⟩ := fzs_sign (fin_nan hf)
  rw [h4] at s1 s2
  rw [h1]
  show sgn3 m 0 = _
  generalize (2 : Int) ^ (e + (1074 : Nat)).toNat = P at *
  have k1 : m < 0 → m * P < 0 := fun h => Int.mul_neg_of_neg_of_pos h hp
  have k2 : 0 < m → 0 < m * P := fun h => Int.mul_pos h hp
  have k3 : m = 0 → m * P = 0 := fun h => by rw [h, Int.zero_mul]
  generalize m * P = Q at *
  unfold sgn3
  split <;> split <;> (try split) <;> (try split) <;> omega
theorem sgN_num {f : Nat} (lf : f < 18446744073709551616) (nf : nanB f = false) : sgN (numI f) (numD f) = sgn3 (frank f) 0 := by
  by_cases h1 : f = 9218868437227405312
  · rw [h1]; decide +kernel
  · by_cases h2 : f = 18442240474082181120
    · rw [h2]; decide +kernel
    · obtain ⟨e1, e2, hf⟩ := num_fin nf h1 h2 lf
      unfold sgN
      rw [e1, e2, if_neg (by omega), sgn_dm hf]
theorem rnN_num {f : Nat} (lf : f < 18446744073709551616) (nf : nanB f = false) (mode : Int) : rnN (numI f) (numD f) mode = plainF f := by
  by_cases h1 : f = 9218868437227405312
  · rw [h1]; rfl
  · by_cases h2 : f = 18442240474082181120
    · rw [h2]; rfl
    · obtain ⟨e1, e2, hf⟩ := num_fin nf h1 h2 lf
      unfold rnN
      rw [e1, e2, if_neg (by omega), if_neg (by omega), frd_is (fdy_is hf)]
      exact plain_eq (rz_facts _ _ _).2 lf (rz_self hf lf mode)
theorem fs_vs (f : Nat) : fs f 65536 = vs (fzs f) (-1074) 65536 := by
  unfold fs fzs fu vs
  rw [fz_mag]
  rw [show (-1074 + ((65536 : Nat) : Int)).toNat = 65536 - 1074 from rfl]
  generalize 65536 - 1074 = k
  split <;> push_cast <;> simp [Int.neg_mul]
theorem vs_big (S : Int) : vs S (-((65536 : Nat) : Int)) 65536 = S := by unfold vs; simp
theorem galois {f : Nat} (hf : finB f = true) (lf : f < 18446744073709551616) (S : Int) :
    (fs f 65536 ≤ S ↔ frank f ≤ frank (rz S (-((65536 : Nat) : Int)) 1)) ∧ (S ≤ fs f 65536 ↔ frank (rz S (-((65536 : Nat) : Int)) 2) ≤ frank f) := by
  have nf := fin_nan hf
  have tf := fin_top hf
  have n0 : nanB 0 = false := by decide
  have f0 : frank 0 = 0 := by decide
  have s0 : fs 0 65536 = 0 := fs_zero (by decide)
  refine ⟨⟨fun h => ?_, fun h => ?_⟩, fun h => ?_, fun h => ?_⟩
  · have := rz_mono (S := fzs f) (S' := S) (e := -1074) (e' := -((65536 : Nat) : Int)) (T := 65536) (by omega) (by omega) (by omega) (by rw [← fs_vs, vs_big]; exact h) 1
    rwa [rz_self hf lf] at this
  · by_cases h0 : S = 0
    · subst h0
      have e : rz 0 (-((65536 : Nat) : Int)) 1 = 0 := rfl
      rw [e] at h
      have k1 := (fs_rank (a := 0) (b := f) (T := 65536) n0 nf).1
      rw [s0] at k1
      rcases Int.lt_or_le 0 (fs f 65536) with h2 | h2
      · have := k1.1 h2; omega
      · exact h2
    · have E := rnd_enc (S := S) (e := -((65536 : Nat) : Int)) (T := 65536) h0 (by omega) (by omega)
      have hr : rz S (-((65536 : Nat) : Int)) 1 = rnd S (-((65536 : Nat) : Int)) 1 := by unfold rz; rw [if_neg h0]
      rw [hr] at h
      have z := (rnd_facts S (-((65536 : Nat) : Int)) 1).1
      cases hb : finB (rnd S (-((65536 : Nat) : Int)) 1) with
      | true =>
        have h1 := E.fl hb
        rw [vs_big] at h1
        have k := fs_rank (T := 65536) z nf
        rcases Int.lt_or_le (fs (rnd S (-((65536 : Nat) : Int)) 1) 65536) (fs f 65536) with h2 | h2
        · have := k.1.1 h2; omega
        · omega
      | false =>
        have h1 := E.loi hb
        rw [h1, show frank 18442240474082181120 = -9218868437227405312 by decide +kernel] at h
        omega
  · have := rz_mono (S := S) (S' := fzs f) (e := -((65536 : Nat) : Int)) (e' := -1074) (T := 65536) (by omega) (by omega) (by omega) (by rw [← fs_vs, vs_big]; exact h) 2
    rwa [rz_self hf lf] at this
  · by_cases h0 : S = 0
    · subst h0
      have e : rz 0 (-((65536 : Nat) : Int)) 2 = 0 := rfl
      rw [e] at h
      have k1 := (fs_rank (a := f) (b := 0) (T := 65536) nf n0).1
      rw [s0] at k1
      rcases Int.lt_or_le (fs f 65536) 0 with h2 | h2
      · have := k1.1 h2; omega
      · exact h2
    · have E := rnd_enc (S := S) (e := -((65536 : Nat) : Int)) (T := 65536) h0 (by omega) (by omega)
      have hr : rz S (-((65536 : Nat) : Int)) 2 = rnd S (-((65536 : Nat) : Int)) 2 := by unfold rz; rw [if_neg h0]
      rw [hr] at h
      have z := (rnd_facts S (-((65536 : Nat) : Int)) 2).1
      cases hb : finB (rnd S (-((65536 : Nat) : Int)) 2) with
      | true =>
        have h1 := E.fh hb
        rw [vs_big] at h1
        have k := fs_rank (T := 65536) nf z
        rcases Int.lt_or_le (fs f 65536) (fs (rnd S (-((65536 : Nat) : Int)) 2) 65536) with h2 | h2
        · have := k.1.1 h2; omega
        · omega
      | false =>
        have h1 := E.hii hb
        rw [h1, show frank 9218868437227405312 = 9218868437227405312 by decide +kernel] at h
        omega
theorem contD_B {lo hi : Nat} (ll : lo < 18446744073709551616) (lh : hi < 18446744073709551616) {d : Dy} (hd : Nd d) : contD lo hi d = contB lo hi d := by
  cases hv : validF lo hi with
  | false => unfold contD contB subF; rw [hv]; simp
  | true =>
    have g := Good.of ll lh hv
    cases d with
    | none =>
      unfold contD contB
      have e : ∀ m, frdF none m = 9221120237041090560 := fun _ => rfl
      rw [e, e]
      unfold subF
      rw [show validF 9221120237041090560 9221120237041090560 = false by decide]
      simp
    | some p =>
      obtain ⟨m, e⟩ := p
      have hb := nd_blen hd
      have hI : Is (some (m, e)) 65536 (sc (some (m, e))) := ⟨m, e, rfl, hd, by have := hb.2.1; show 0 ≤ e + 65536; have h2 : dx (some (m, e)) = e := rfl; omega, rfl⟩
      have gp := frd_good hI
      have r1 := frd_is hI 1
      have r2 := frd_is hI 2
      generalize hS : sc (some (m, e)) = S at *
      have e1 : frank 9218868437227405312 = 9218868437227405312 := by decide +kernel
      have e2 : frank 18442240474082181120 = -9218868437227405312 := by decide +kernel
      have glo := g.lo
      have ghi := g.hi
      unfold contD contB
      rw [sub_rank gp.valid g.valid, hv]
      simp only [Bool.true_and, Option.isSome_some]
      have k1 : decide (frank lo ≤ frank (frdF (some (m, e)) 1)) = !lessN 0 (some (m, e)) (numI lo) (numD lo) := by
        by_cases h2 : lo = 18442240474082181120
        · rw [h2, e2]
          have := rank_le gp.n1
          rw [decide_eq_true (by omega)]
          rfl
        · have h1 : lo ≠ 9218868437227405312 := fun h => by rw [h, e1] at glo; omega
          obtain ⟨i1, i2, hf⟩ := num_fin g.n1 h1 h2 ll
          rw [i1, i2, r1]
          unfold lessN
          rw [if_neg (by simp), hS, sc_fdy hf]
          cases hn : fdy lo with
          | none => exact absurd hn (fdy_some hf)
          | some q =>
            simp only [Option.isSome_some, Bool.true_and]
            have G := (galois hf ll S).1
            by_cases h : fs lo 65536 ≤ S
            · rw [decide_eq_true (G.1 h), decide_eq_false (by omega)]; rfl
            · rw [decide_eq_false (fun h3 => h (G.2 h3)), decide_eq_true (by omega)]; rfl
      have k2 : decide (frank (frdF (some (m, e)) 2) ≤ frank hi) = !lessN (numI hi) (numD hi) 0 (some (m, e)) := by
        by_cases h1 : hi = 9218868437227405312
        · rw [h1, e1]
          have := rank_le gp.n2
          rw [decide_eq_true (by omega)]
          rfl
        · have h2 : hi ≠ 18442240474082181120 := fun h => by rw [h, e2] at ghi; omega
          obtain ⟨i1, i2, hf⟩ := num_fin g.n2 h1 h2 lh
          rw [i1, i2, r2]
          unfold lessN
          rw [if_neg (by simp), hS, sc_fdy hf]
          cases hn : fdy hi with
          | none => exact absurd hn (fdy_some hf)
          | some q =>
            simp only [Option.isSome_some, Bool.true_and]
            have G := (galois hf lh S).2
            by_cases h : S ≤ fs hi 65536
            · rw [decide_eq_true (G.1 h), decide_eq_false (by omega)]; rfl
            · rw [decide_eq_false (fun h3 => h (G.2 h3)), decide_eq_true (by omega)]; rfl
      rw [k1, k2]
theorem inter_B {a b c d : Nat} (h1 : validF a b = true) (h2 : validF c d = true) :
    interF a b c d = ((decide (c = 18442240474082181120) || lessF c a) && (decide (d = 9218868437227405312) || lessF b d)) := by
  unfold interF
  rw [h1, h2, Bool.true_and, Bool.true_and, Bool.or_comm (lessF c a), Bool.or_comm (lessF b d)]
theorem greatF_pick {a c : Nat} (na : nanB a = false) (nc : nanB c = false) (la : a < 18446744073709551616) (lc : c < 18446744073709551616) : plainF (greatF [a, c]) = plainF (if lessF a c then c else a) := by
  obtain ⟨h1, h2⟩ := great_two na nc
  refine plain_eq (greatF_lt (two_lt la lc)) (by split <;> assumption) ?_
  rw [h2, less_rank na nc]
  by_cases h : frank a < frank c
  · rw [decide_eq_true h, if_pos rfl]; omega
  · rw [decide_eq_false h, if_neg (by simp)]; omega
theorem leastF_pick {b d : Nat} (nb : nanB b = false) (nd : nanB d = false) (lb : b < 18446744073709551616) (ld : d < 18446744073709551616) : plainF (leastF [b, d]) = plainF (if lessF d b then d else b) := by
  obtain ⟨h1, h2⟩ := least_two nb nd
  refine plain_eq (leastF_lt (two_lt lb ld)) (by split <;> assumption) ?_
  rw [h2, less_rank nd nb]
  by_cases h : frank d < frank b
  · rw [decide_eq_true h, if_pos rfl]; omega
  · rw [decide_eq_false h, if_neg (by simp)]; omega
/-- what the reference's Meet says -/
theorem meet_B {a b c d : Nat} (la : a < 18446744073709551616) (lb : b < 18446744073709551616) (lc : c < 18446744073709551616) (ld : d < 18446744073709551616) (h1 : validF a b = true) (h2 : validF c d = true) :
    meetLo a c = plainF (if lessF a c then c else a) ∧ meetHi b d = plainF (if lessF d b then d else b) ∧ validF (meetLo a c) (meetHi b d) = !lessF (if lessF d b then d else b) (if lessF a c then c else a) := by
  have ga := Good.of la lb h1
  have gc := Good.of lc ld h2
  refine ⟨greatF_pick ga.n1 gc.n1 la lc, leastF_pick ga.n2 gc.n2 lb ld, ?_⟩
  have mv := meet_valid la lb lc ld h1 h2
  have n1 : nanB (if lessF d b then d else b) = false := by split; exact gc.n2; exact ga.n2
  have n2 : nanB (if lessF a c then c else a) = false := by split; exact gc.n1; exact ga.n1
  have r1 : frank (if lessF d b then d else b) = min (frank b) (frank d) := by
    rw [less_rank gc.n2 ga.n2]
    by_cases h : frank d < frank b
    · rw [decide_eq_true h, if_pos rfl]; omega
    · rw [decide_eq_false h, if_neg (by simp)]; omega
  have r2 : frank (if lessF a c then c else a) = max (frank a) (frank c) := by
    rw [less_rank ga.n1 gc.n1]
    by_cases h : frank a < frank c
    · rw [decide_eq_true h, if_pos rfl]; omega
    · rw [decide_eq_false h, if_neg (by simp)]; omega
  rw [less_rank n1 n2, r1, r2]
  cases hv : validF (meetLo a c) (meetHi b d) with
  | true =>
    have := mv.1 hv
    rw [decide_eq_false (by omega)]; rfl
  | false =>
    have : ¬ (max (frank a) (frank c) ≤ min (frank b) (frank d)) := fun h => by have := mv.2 h; rw [hv] at this; cases this
    rw [decide_eq_true (by omega)]; rfl
/-- what the reference's Rad says -/
theorem rad_inf {a b : Nat} (g : Good a b) (h : a = 18442240474082181120 ∨ b = 9218868437227405312) : radF a b = 9218868437227405312 := by
  have m := mid_in g
  have tm := fin_top m.f
  obtain ⟨s1, s2⟩ := rad_num g
  obtain ⟨g1, g2⟩ := great_two s1 s2
  obtain ⟨n1, n2, -⟩ := neg_rank g.l1 g.n1
  obtain ⟨k1, k2, -⟩ := neg_rank m.l m.n
  have hlo := g.lo
  have e1 : frank 9218868437227405312 = 9218868437227405312 := by decide +kernel
  have e2 : frank 18442240474082181120 = -9218868437227405312 := by decide +kernel
  have ls : greatF [faddF (midF a b) (fnegF a) 2, faddF b (fnegF (midF a b)) 2] < 18446744073709551616 := greatF_lt (two_lt (fadd_lt _ fnegF_lt) (fadd_lt _ fnegF_lt))
  have r1 := rank_le s1
  have r2 := rank_le s2
  have key : frank (greatF [faddF (midF a b) (fnegF a) 2, faddF b (fnegF (midF a b)) 2]) = 9218868437227405312 := by
    rcases h with h | h
    · rcases high_sum m.l fnegF_lt m.n n1 tm.1 (by omega) with c | ⟨-, c, -, -⟩
      · omega
      · have := fin_top c; rw [n2, h, e2] at this; omega
    · rcases high_sum g.l2 fnegF_lt g.n2 k1 g.hi (by omega) with c | ⟨c, -, -, -⟩
      · omega
      · have := fin_top c; rw [h, e1] at this; omega
  unfold radF
  have := plain_eq ls (show 9218868437227405312 < 18446744073709551616 by decide) (key.trans e1.symm)
  rw [this]; rfl
theorem rad_B {a b : Nat} (g : Good a b) (h1 : a ≠ 18442240474082181120) (h2 : b ≠ 9218868437227405312) :
    radF a b = plainF (frdF (if sgn3 (sc (dsub (fdy (midF a b)) (fdy a))) (sc (dsub (fdy b) (fdy (midF a b)))) < 0 then dsub (fdy b) (fdy (midF a b)) else dsub (fdy (midF a b)) (fdy a)) 2) ∧
    dsub (fdy (midF a b)) (fdy a) ≠ none ∧ dsub (fdy b) (fdy (midF a b)) ≠ none := by
  have m := mid_in g
  have e1 : frank 9218868437227405312 = 9218868437227405312 := by decide +kernel
  have e2 : frank 18442240474082181120 = -9218868437227405312 := by decide +kernel
  have ra := rank_is_ninf g.l1
  have rb := rank_is_inf g.l2
  have ra2 := rank_le g.n1
  have rb2 := rank_le g.n2
  have ha2 : frank a ≠ -9218868437227405312 := fun e => h1 (ra.1 e)
  have hb2 : frank b ≠ 9218868437227405312 := fun e => h2 (rb.1 e)
  have fa : finB a = true := fin_of_rank g.n1 (by omega) g.lo
  have fb : finB b = true := fin_of_rank g.n2 g.hi (by omega)
  have i1 := subs_is m.f fa
  have i2 := subs_is fb m.f
  obtain ⟨s1, s2⟩ := rad_num g
  obtain ⟨q1, q2⟩ := great_two s1 s2
  obtain ⟨na1, na2⟩ := fneg_fzs g.l1 fa
  obtain ⟨nm1, nm2⟩ := fneg_fzs m.l m.f
  have w1 := (add_fin_rank 2 m.f na2 fnegF_lt).2
  have w2 := (add_fin_rank 2 fb nm2 fnegF_lt).2
  rw [na1, ← Int.sub_eq_add_neg] at w1
  rw [nm1, ← Int.sub_eq_add_neg] at w2
  have ne1 : dsub (fdy (midF a b)) (fdy a) ≠ none := by obtain ⟨x, y, h, -⟩ := i1; rw [h]; simp
  have ne2 : dsub (fdy b) (fdy (midF a b)) ≠ none := by obtain ⟨x, y, h, -⟩ := i2; rw [h]; simp
  refine ⟨?_, ne1, ne2⟩
  rw [is_cmp i1 i2 (by omega)]
  have l12 := rz_le (S := fzs (midF a b) - fzs a) (S' := fzs b - fzs (midF a b)) (e := -1074)
  have l21 := rz_le (S := fzs b - fzs (midF a b)) (S' := fzs (midF a b) - fzs a) (e := -1074)
  have ls : greatF [faddF (midF a b) (fnegF a) 2, faddF b (fnegF (midF a b)) 2] < 18446744073709551616 := greatF_lt (two_lt (fadd_lt _ fnegF_lt) (fadd_lt _ fnegF_lt))
  unfold radF
  by_cases hc : fzs (midF a b) - fzs a < fzs b - fzs (midF a b)
  · have hs : sgn3 (fzs (midF a b) - fzs a) (fzs b - fzs (midF a b)) < 0 := by unfold sgn3; rw [if_pos hc]; omega
    rw [if_pos hs, frd_is i2]
    refine plain_eq ls (rz_facts _ _ _).2 ?_
    show _ = frank (rz _ (-1074) 2)
    have := l12 (by omega) 2
    omega
  · have hs : ¬ sgn3 (fzs (midF a b) - fzs a) (fzs b - fzs (midF a b)) < 0 := by unfold sgn3; rw [if_neg hc]; split <;> omega
    rw [if_neg hs, frd_is i1]
    refine plain_eq ls (rz_facts _ _ _).2 ?_
    show _ = frank (rz _ (-1074) 2)
    have := l21 (by omega) 2
    omega
end Go.Proofs.YtecaaklbhhjcjaaGreatDoor
