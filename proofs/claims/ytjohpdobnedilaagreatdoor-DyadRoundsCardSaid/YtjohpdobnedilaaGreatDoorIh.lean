/- What the reference's Neg and Abs of dyads do. -/
import Derived.Test.YtjohpdobnedilaaGreatDoorGk
import Derived.Test.YtjohpdobnedilaaGreatDoorGp
import Derived.Test.YtjohpdobnedilaaGreatDoorGr
import Derived.Test.YtjohpdobnedilaaGreatDoorGq
namespace Go.Proofs.YtjohpdobnedilaaGreatDoor
open Go.RowKit

set_option maxRecDepth 100000 in
set_option maxHeartbeats 4000000 in
theorem ref_dneg_any (u : Value) (d : Dy) (w : World) (hu : Dl w u d) (hT : Table w) :
    Calls Tryz.prog 143 #[u] w fun e w' => ∃ r, e = .returned r ∧ Dn w' r (dneg d) ∧ Ext w w' := by
  have hu0 := hu
  obtain ⟨ub, un, uo, uk, uc, _, uf, rfl, -⟩ := hu0
  have HTw := Lib.hid hT
  go_enter Tryz.func143, Tryz.ntmps143
  go_upto_region 1 with fail
  obtain ⟨W, hW, hB, hbx, hrx, hz⟩ := boxes_dd w ub un uo uk uc uf
  rw [← hW]
  clear hW
  have hu := hu.ext hB
  have HT := Lib.hid (hT.below hB)
  generalize hBe : w.heap.size = B at *
  have HBe := Lib.hid hBe; clear hBe hT
  have k0 := hbx.c0
  have k1 := hbx.c1
  have k2 := hbx.c2
  have k3 := hbx.c3
  go_wp2_with fail
  refine (refDNorm_any _ _ _ hu HT.out).mono ?_
  rintro e w1 ⟨r1, rfl, hr, hw1⟩
  have bx := hbx.below hw1
  have c1 := hrx.below hw1
  obtain ⟨hB1, hB1'⟩ := bnext hB (by omega) hw1
  have hz1 := hw1.size
  obtain ⟨xb, xn, xo, xk, xc, xe, rfl⟩ := hr.parts
  clear k0 k1 k2 k3 hbx hrx hB hw1 hu HT
  have k0 := bx.c0
  have k1 := bx.c1
  have k2 := bx.c2
  have k3 := bx.c3
  have f0 := bx.f 0
  have f1 := bx.f 1
  have f2 := bx.f 2
  have f3 := bx.f 3
  go_upto_region 2 with fail
  have ho := only_set4 w1 B (.bool xb) (.bool xn) (.slice xo xk xc) (.int .i64 xe)
  have hr := hr.only_dbox bx ho
  have bx := bx.stored xb xn xo xk xc xe
  have c1 := c1.only ho (by omega)
  have hB2 := hB1.trans (ho.below (B := B) (Nat.le_refl _))
  have hz2 := ho.size
  have hz3 : B + 2 ≤ ((((w1.setCell ⟨B, 0, none⟩ (.bool xb)).setCell ⟨B, 1, none⟩ (.bool xn)).setCell ⟨B, 2, none⟩ (.slice xo xk xc)).setCell ⟨B, 3, none⟩ (.int .i64 xe)).heap.size := by omega
  have hTf := HTw.out.below (w' := (((w1.setCell ⟨B, 0, none⟩ (.bool xb)).setCell ⟨B, 1, none⟩ (.bool xn)).setCell ⟨B, 2, none⟩ (.slice xo xk xc)).setCell ⟨B, 3, none⟩ (.int .i64 xe)) (by rw [HBe.out]; exact hB2)
  clear k0 k1 k2 k3 f0 f1 f2 f3 hB1 ho hz2
  generalize (((w1.setCell ⟨B, 0, none⟩ (.bool xb)).setCell ⟨B, 1, none⟩ (.bool xn)).setCell ⟨B, 2, none⟩ (.slice xo xk xc)).setCell ⟨B, 3, none⟩ (.int .i64 xe) = w2 at *
  have HT := Lib.hid hTf; clear hTf
  cases d with
  | none =>
    obtain rfl := dn_none hr
    clear HT
    have k0 := bx.c0
    have k1 := bx.c1
    have k2 := bx.c2
    have k3 := bx.c3
    have q0 := c1.c0
    have q1 := c1.c1
    have q2 := c1.c2
    have q3 := c1.c3
    have f0 := c1.f 0
    have f1 := c1.f 1
    have f2 := c1.f 2
    have f3 := c1.f 3
    have hres := dn_stored c1 hr w hB2 (by omega)
    have z3 := c1.stored true xn xo xk xc xe
    have z0 := z3.c0
    have z1 := z3.c1
    have z2 := z3.c2
    have z4 := z3.c3
    have HRES := Lib.hid hres; clear hres z3
    go_wp2
    refine bodyPost_ret (v := .agg #[.bool true, .bool xn, .slice xo xk xc, .int .i64 xe]) (by simp [results, Tryz.results143, go_sem, z0, z1, z2, z4]) rfl ⟨_, rfl, ?_, ?_⟩
    · exact HRES.out.1
    · show Below _ _ _; rw [HBe.out]; exact HRES.out.2
  | some p =>
    obtain ⟨m, f⟩ := p
    obtain ⟨rfl, rfl, hm⟩ := dn_some hr
    have hnx := nd_blen hr.1
    have hspec : dmk (-m) xe = dneg (some (m, xe)) := dmk_norm (dneg_nd hr.1)
    have HSP := Lib.hid hspec
    simp only [dm, dx, Option.getD_some] at hnx
    obtain ⟨hnx, hx0, hx1⟩ := hnx
    have gm := bn_bg_of hm (by omega)
    have HBL := Lib.hid (show blen (-m).natAbs ≤ 1000000 by rw [Int.natAbs_neg]; omega)
    clear hm hr hspec
    have HC := Lib.hid (show ∀ wx, Ext w2 wx → (wx.cell? ⟨B, 0, none⟩ = some (.bool false) ∧ wx.cell? ⟨B, 1, none⟩ = some (.bool xn) ∧ wx.cell? ⟨B, 2, none⟩ = some (.slice xo xk xc) ∧ wx.cell? ⟨B, 3, none⟩ = some (.int .i64 xe)) from fun wx h => ⟨(bx.ext h).c0, (bx.ext h).c1, (bx.ext h).c2, (bx.ext h).c3⟩)
    have ex0 : Ext w2 w2.drew := (Below.refl _ _).drew
    obtain ⟨k0, k1, k2, k3⟩ := HC.out w2 (Ext.refl _)
    go_wp2_with fail
    go_region_held3 (fun wx => (wx.cell? ⟨B, 0, none⟩ = some (.bool false) ∧ wx.cell? ⟨B, 1, none⟩ = some (.bool xn) ∧ wx.cell? ⟨B, 2, none⟩ = some (.slice xo xk xc) ∧ wx.cell? ⟨B, 3, none⟩ = some (.int .i64 xe)))
      (first | exact HC.out _ (by assumption) | (refine ⟨?_, ?_, ?_, ?_⟩ <;> go_simp))
      (first
        | (go_at_call 178; refine (refNeg_any _ _ _ _ _ _ (by exact gm.drew)).mono ?_; rintro e w3 ⟨nr, ro, l, cr, rfl, hq, -, hw3⟩; have ex1 : Ext w2 w3 := ex0.trans hw3)
        | (go_at_call 81; refine (refMake_any _ _ _ _ _ _ _ (bn_bg_of hq HBL.out) HBL.out (by omega) (by omega) (HT.out.below ex1)).mono ?_; rintro e w4 ⟨r, rfl, hr2, hw4⟩; have ex2 : Ext w2 w4 := ex1.trans hw4; rw [HSP.out] at hr2; obtain ⟨rb, rn, ro2, rk, rc, re, rfl⟩ := hr2.parts; have c2 := c1.ext ex2; have q0 := c2.c0; have q1 := c2.c1; have q2 := c2.c2; have q3 := c2.c3; have f0 := c2.f 0; have f1 := c2.f 1; have f2 := c2.f 2; have f3 := c2.f 3; obtain ⟨b0, b1, b2, b3⟩ := HC.out _ ex2))
    have hB3 : Below B w w4 := (bnext hB2 (by omega) ex2).1
    have hres := dn_stored c2 hr2 w hB3 (Nat.le_succ B)
    have z3 := c2.stored rb rn ro2 rk rc re
    have z0 := z3.c0
    have z1 := z3.c1
    have z2 := z3.c2
    have z4 := z3.c3
    have HRES := Lib.hid hres; clear hres z3
    go_wp2
    refine bodyPost_ret (v := .agg #[.bool rb, .bool rn, .slice ro2 rk rc, .int .i64 re]) (by simp [results, Tryz.results143, go_sem, z0, z1, z2, z4]) rfl ⟨_, rfl, ?_, ?_⟩
    · exact HRES.out.1
    · show Below _ _ _; rw [HBe.out]; exact HRES.out.2

end Go.Proofs.YtjohpdobnedilaaGreatDoor

/- What the reference's Shift down does for a number of any sign: it rounds down. -/
namespace Go.Proofs.YtjohpdobnedilaaGreatDoor
open Go.RowKit

theorem neg_floor {x : Int} (h : x < 0) (e : Nat) : x / 2 ^ e = -((x.natAbs / 2 ^ e : Nat) : Int) - (if x.natAbs % 2 ^ e ≠ 0 then 1 else 0) := by
  obtain ⟨a, ha⟩ : ∃ a : Nat, x.natAbs = a := ⟨_, rfl⟩
  have hx : x = -(a : Int) := by omega
  rw [ha, hx]
  have hp : 0 < 2 ^ e := Nat.pow_pos (by omega)
  have hd := Nat.div_add_mod a (2 ^ e)
  have hm := Nat.mod_lt a hp
  have hc : ((2 : Int) ^ e) = ((2 ^ e : Nat) : Int) := by rw [Int.natCast_pow]; rfl
  rw [hc]
  generalize a / 2 ^ e = q at *
  generalize a % 2 ^ e = r at *
  generalize 2 ^ e = p at *
  subst hd
  by_cases hr : r = 0
  · subst hr
    rw [if_neg (by simp)]
    rw [show -((p * q + 0 : Nat) : Int) = (-(q : Int)) * (p : Int) by push_cast; rw [Int.neg_mul, Int.mul_comm]; omega, Int.mul_ediv_cancel _ (by omega)]
    omega
  · rw [if_pos hr]
    have e1 : -((p * q + r : Nat) : Int) = ((p : Int) - r) + (-(q : Int) - 1) * (p : Int) := by
      push_cast; rw [Int.sub_mul, Int.neg_mul, Int.mul_comm (q : Int)]; omega
    rw [e1, Int.add_mul_ediv_right _ _ (by omega), Int.ediv_eq_zero_of_lt (by omega) (by omega)]
    omega

set_option maxRecDepth 100000 in
set_option maxHeartbeats 4000000 in
/-- a negative number shifted down by at least a bit -/
theorem refShift_downN (nb : Bool) (ao : Option Addr) (n cap : Nat) (x : Int) (e : Nat) (w : World) (h : Bg w nb ao n cap x) (hsb : blen x.natAbs ≤ 1000000) (h0 : x < 0) (he0 : 0 < e) (he : e ≤ 1048576) :
    Calls Tryz.prog 53 #[.agg #[.bool nb, .slice ao n cap], .int .i64 (-(e : Int))] w fun r w' => ∃ nr ro k cr, r = .returned (.agg #[.bool nr, .slice ro k cr]) ∧ Bn w' nr ro k cr (x / 2 ^ e) ∧ Ext w w' := by
  obtain ⟨ei, hei⟩ : ∃ ei : Int, (e : Int) = ei := ⟨_, rfl⟩
  have hei0 : 0 < ei := by omega
  have hei1 : ei ≤ 1048576 := by omega
  rw [hei]
  have HEI := Lib.hid hei; clear hei
  have hsm := h.small
  go_enter Tryz.func53, Tryz.ntmps53
  go_upto_region 1 with fail
  obtain ⟨W, hW, hB, hbx, hrx, hz⟩ := boxes1 w nb ao n cap
  rw [← hW]
  clear hW
  have h1 := h.below hB
  generalize hBe : w.heap.size = B at *
  have HBe := Lib.hid hBe; clear hBe
  have k0 := hbx.c0
  have k1 := hbx.c1
  go_wp2_with fail
  refine (refNorm_any nb ao n cap x W h1).mono ?_
  rintro r w1 ⟨nr, ro, k, rc, rfl, hs1, hk, hw1⟩
  have a1 := hbx.below hw1
  have b1 := hrx.below hw1
  have hB1 := bnext hB (by omega) hw1
  have ho := only_set2 w1 B (.bool nr) (.slice ro k rc)
  have a2 := a1.stored nr ro k rc
  have b2 := b1.only ho (by omega)
  have hn2 : Bn ((w1.setCell ⟨B, 0, none⟩ (.bool nr)).setCell ⟨B, 1, none⟩ (.slice ro k rc)) nr ro k rc x := ⟨hs1.neg, hs1.sl.only_box a1 ho⟩
  have hB2 := hB1.1.trans (ho.below (Nat.le_refl B))
  have hz2 : B + 2 ≤ ((w1.setCell ⟨B, 0, none⟩ (.bool nr)).setCell ⟨B, 1, none⟩ (.slice ro k rc)).heap.size := by rw [ho.size]; have := hw1.size; omega
  have k0 := a1.c0
  have k1 := a1.c1
  have k2 := a1.f 0
  have k3 := a1.f 1
  go_upto_region 2 with fail
  clear k0 k1 k2 k3 a1 b1 ho hw1 hbx hrx hs1
  generalize (w1.setCell ⟨B, 0, none⟩ (.bool nr)).setCell ⟨B, 1, none⟩ (.slice ro k rc) = V at *
  have hneg : nr = true := by rw [hn2.neg]; simp; omega
  subst hneg
  have HFL := Lib.hid (neg_floor h0 e)
  have HBQ := Lib.hid (show blen (x.natAbs / 2 ^ e) ≤ 1000000 from Nat.le_trans (blen_le_of_lt (Nat.lt_of_le_of_lt (Nat.div_le_self _ _) (blen_lt x.natAbs))) hsb)
  have k0 := a2.c0
  have k1 := a2.c1
  have hsl := hn2.sl
  clear hn2
  have hcall := refShr_num x.natAbs e ro k rc V hsl (by omega) (by omega)
  rw [HEI.out] at hcall
  have HC := Lib.hid hcall; clear hcall hsl
  go_wp2_with fail
  refine HC.out.mono ?_
  rintro r w3 ⟨so, l, sc, L, rfl, hL, hnum, hl, hw3⟩
  have b3 := b2.below hw3
  have a3 := a2.below hw3
  have hB3 := bnext hB2 (by omega) hw3
  have k0 := a3.c0
  have k1 := a3.c1
  have HNUM := Lib.hid hnum; clear hnum
  obtain ⟨lost, hlost⟩ : ∃ b, decide (x.natAbs % 2 ^ e ≠ 0) = b := ⟨_, rfl⟩
  rw [hlost]
  have HLO := Lib.hid hlost; clear hlost
  go_wp2_with fail
  refine (make1_any true so l sc L w3 hL).mono ?_
  rintro r w4 ⟨mr, mo, j, mc, rfl, hm4, hj, hw4⟩
  have b4 := b3.below hw4
  have a4 := a3.below hw4
  have hB4 := bnext hB3.1 hB3.2 hw4
  have hm4 : Bn w4 mr mo j mc (-((x.natAbs / 2 ^ e : Nat) : Int)) := bn_num (nb := true) (a := x.natAbs / 2 ^ e) hm4 HNUM.out (by rw [if_pos rfl])
  clear k0 k1 HC a2 a3 b2 b3 hL
  go_upto_region 6 with fail
  obtain ⟨Z, hZ, hZB, c5, hz5⟩ := box_new w4 mr mo j mc
  rw [← hZ]
  clear hZ
  have b5 := b4.below hZB
  have a5 := a4.below hZB
  have hm5 := hm4.below hZB
  obtain ⟨hB5, hB5'⟩ := bnext hB4.1 hB4.2 hZB
  have hz4 := hB4.2
  have hDB : B + 2 ≤ w4.heap.size := by have := hw4.size; have := hw3.size; omega
  generalize w4.heap.size = D at *
  have k0 := a5.c0
  have k1 := a5.c1
  have l0 := c5.c0
  have l1 := c5.c1
  cases lost with
  | false =>
    have q0 := b5.c0
    have q1 := b5.c1
    have q2 := b5.f 0
    have q3 := b5.f 1
    have z3 := b5.stored mr mo j mc
    have z0 := z3.c0
    have z1 := z3.c1
    have hres : Bn ((Z.setCell ⟨B + 1, 0, none⟩ (.bool mr)).setCell ⟨B + 1, 1, none⟩ (.slice mo j mc)) mr mo j mc (x / 2 ^ e) := by
      rw [HFL.out, if_neg (of_decide_eq_false HLO.out), Int.sub_zero]
      exact ⟨hm5.neg, hm5.sl.only_box b5 (only_set2 _ _ _ _)⟩
    have hbl := hB5.trans ((only_set2 Z (B + 1) (.bool mr) (.slice mo j mc)).below (Nat.le_succ B))
    have HRES := Lib.hid hres; clear hres
    go_wp2
    refine bodyPost_ret (v := .agg #[.bool mr, .slice mo j mc]) (by simp [results, Tryz.results53, go_sem, z0, z1]) rfl ⟨_, mo, j, mc, rfl, HRES.out, ?_⟩
    show Below _ _ _
    rw [HBe.out]; exact hbl
  | true =>
    have HSUM : Hid (-((x.natAbs / 2 ^ e : Nat) : Int) - 1 = x / 2 ^ e) := Lib.hid (by rw [HFL.out, if_pos (of_decide_eq_true HLO.out)])
    have gm := bn_bg_of hm5 (by rw [Int.natAbs_neg, Int.natAbs_natCast]; exact HBQ.out)
    have hb1 : blen (1 : Int).natAbs ≤ 1000000 := by rw [show blen (1 : Int).natAbs = 1 by decide]; decide
    have HONE : Hid (∀ (w' : World) (nr : Bool) (ro : Option Addr) (k rc : Nat), Bn w' nr ro k rc 1 → Bg w' nr ro k rc 1) := Lib.hid (fun w' nr ro k rc h => bn_bg_of h hb1)
    clear hb1
    clear hm5 hm4
    go_upto_region 7 with fail
    go_cut [] from 36 (fun wx => ∃ sn so sk sc', Box wx D sn so sk sc' ∧ Bn wx sn so sk sc' (x / 2 ^ e) ∧ Box wx (B + 1) false none 0 0 ∧ Below B w wx)
    case first =>
      go_region_with (first
        | (go_at_call 130; refine (refFromInt_any 1 _ (by omega) (by omega)).mono ?_; rintro e w10 ⟨on, oo, ok, oc, rfl, ho, hw10⟩; have ex1 : Ext Z w10 := Ext.trans (by first | exact (Below.refl _ _).drew | exact Ext.refl _) hw10; have c2 := c5.below ex1; have k0 := c2.c0; have k1 := c2.c1)
        | (go_at_call 129; refine (refSub_any _ _ _ _ _ _ _ _ _ _ _ (by exact gm.below ex1) (by exact HONE.out _ _ _ _ _ ho)).mono ?_; rintro e w11 ⟨sn, so, sk, sc', rfl, hs, hw11⟩; have ex2 : Ext Z w11 := ex1.trans hw11; clear k0 k1; have c2 := c5.below ex2; have q0 := c2.c0; have q1 := c2.c1; have f0 := c2.f 0; have f1 := c2.f 1))
      all_goals
        go_wp2
        go_meet
      all_goals
        have o1 := only_set2 w11 D (.bool sn) (.slice so sk sc')
        have hBw := (bnext hB5 hB5' ex2).1.trans (o1.below (B := B) (by omega))
        rw [HSUM.out] at hs
        exact ⟨sn, so, sk, sc', c2.stored sn so sk sc', ⟨hs.neg, hs.sl.only_box c2 o1⟩, (b5.below ex2).only o1 (by omega), hBw⟩
    case rest =>
      obtain ⟨sn, so, sk, sc', c6, hm6, b6, hB6⟩ := hcut
      have k0 := c6.c0
      have k1 := c6.c1
      have q0 := b6.c0
      have q1 := b6.c1
      have q2 := b6.f 0
      have q3 := b6.f 1
      have z3 := b6.stored sn so sk sc'
      have z0 := z3.c0
      have z1 := z3.c1
      have hres : Bn ((wc.setCell ⟨B + 1, 0, none⟩ (.bool sn)).setCell ⟨B + 1, 1, none⟩ (.slice so sk sc')) sn so sk sc' (x / 2 ^ e) :=
        ⟨hm6.neg, hm6.sl.only_box b6 (only_set2 _ _ _ _)⟩
      have hbl := hB6.trans ((only_set2 wc (B + 1) (.bool sn) (.slice so sk sc')).below (Nat.le_succ B))
      have HRES := Lib.hid hres; clear hres
      go_wp2
      refine bodyPost_ret (v := .agg #[.bool sn, .slice so sk sc']) (by simp [results, Tryz.results53, go_sem, z0, z1]) rfl ⟨_, so, sk, sc', rfl, HRES.out, ?_⟩
      show Below _ _ _
      rw [HBe.out]; exact hbl

/-- a shift down by any number of bits -/
theorem refShift_dn (nb : Bool) (ao : Option Addr) (n cap : Nat) (x : Int) (e : Nat) (w : World) (h : Bg w nb ao n cap x) (hsb : blen x.natAbs ≤ 1000000) (he : e ≤ 1048576) :
    Calls Tryz.prog 53 #[.agg #[.bool nb, .slice ao n cap], .int .i64 (-(e : Int))] w fun r w' => ∃ nr ro k cr, r = .returned (.agg #[.bool nr, .slice ro k cr]) ∧ Bn w' nr ro k cr (x / 2 ^ e) ∧ Ext w w' := by
  rcases Int.lt_or_le x 0 with h0 | h0
  · rcases Nat.eq_zero_or_pos e with rfl | he0
    · have := refShift_up nb ao n cap x 0 w h (by omega)
      rw [show (-((0 : Nat) : Int)) = ((0 : Nat) : Int) from rfl]
      exact this.mono fun r w' ⟨nr, ro, k, cr, hr, hb, _, hw⟩ => ⟨nr, ro, k, cr, hr, by simpa using hb, hw⟩
    · exact refShift_downN nb ao n cap x e w h hsb h0 he0 he
  · exact refShift_dn0 nb ao n cap x e w h h0 he
end Go.Proofs.YtjohpdobnedilaaGreatDoor
