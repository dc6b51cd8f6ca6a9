/- What the reference's Round does. -/
import Derived.Test.YtjohpdobnedilaaGreatDoorCRefRnd
import Derived.Test.YtjohpdobnedilaaGreatDoorIh
import Derived.Deep.RegionHeld3
namespace Go.Proofs.YtjohpdobnedilaaGreatDoor
open Go Go.RowKit

set_option maxRecDepth 100000 in
set_option maxHeartbeats 4000000 in
theorem refRound_any (u : Value) (d : Dy) (mode : Int) (w : World) (hu : Dl w u d) (hT : Table w) :
    Calls Tryz.prog 86 #[u, .int .i64 mode] w fun e w' => e = .returned (.int .u64 ((frdF d mode : Nat) : Int)) ∧ Ext w w' := by
  obtain ⟨R, hR⟩ : ∃ R, frdF d mode = R := ⟨_, rfl⟩
  rw [hR]
  have HR := Lib.hid hR
  clear hR
  have hu0 := hu
  obtain ⟨ub, un, uo, uk, uc, _, uf, rfl, -⟩ := hu0
  have HTw := Lib.hid hT
  go_enter Tryz.func86, Tryz.ntmps86
  go_upto_region 1 with fail
  obtain ⟨W, hW, hB, hbx, hz⟩ := dbox_new w ub un uo uk uc uf
  rw [← hW]
  clear hW
  have hu := hu.ext hB
  have HT := Lib.hid (hT.below hB)
  generalize hBe : w.heap.size = B at *
  have HBe := Lib.hid hBe; clear hBe hT
  have k0 := hbx.c0
  have k1 := hbx.c1
  have k2 := hbx.c2
  have k3 := hbx.c3
  go_wp2_with fail
  refine (refDNorm_any _ _ _ hu HT.out).mono ?_
  rintro e w1 ⟨r1, rfl, hr, hw1⟩
  have bx := hbx.below hw1
  obtain ⟨hB1, hB1'⟩ := bnext hB (by omega) hw1
  have hz1 := hw1.size
  obtain ⟨xb, xn, xo, xk, xc, xe, rfl⟩ := hr.parts
  clear k0 k1 k2 k3 hbx hB hw1 hu HT
  have k0 := bx.c0
  have k1 := bx.c1
  have k2 := bx.c2
  have k3 := bx.c3
  have f0 := bx.f 0
  have f1 := bx.f 1
  have f2 := bx.f 2
  have f3 := bx.f 3
  go_upto_region 2 with fail
  have ho := only_set4 w1 B (.bool xb) (.bool xn) (.slice xo xk xc) (.int .i64 xe)
  have hr := hr.only_dbox bx ho
  have bx := bx.stored xb xn xo xk xc xe
  have hB2 := hB1.trans (ho.below (B := B) (Nat.le_refl _))
  have hz2 := ho.size
  have hz3 : B + 1 ≤ ((((w1.setCell ⟨B, 0, none⟩ (.bool xb)).setCell ⟨B, 1, none⟩ (.bool xn)).setCell ⟨B, 2, none⟩ (.slice xo xk xc)).setCell ⟨B, 3, none⟩ (.int .i64 xe)).heap.size := by omega
  have hTf := HTw.out.below (w' := (((w1.setCell ⟨B, 0, none⟩ (.bool xb)).setCell ⟨B, 1, none⟩ (.bool xn)).setCell ⟨B, 2, none⟩ (.slice xo xk xc)).setCell ⟨B, 3, none⟩ (.int .i64 xe)) (by rw [HBe.out]; exact hB2)
  clear k0 k1 k2 k3 f0 f1 f2 f3 hB1 ho hz2
  generalize (((w1.setCell ⟨B, 0, none⟩ (.bool xb)).setCell ⟨B, 1, none⟩ (.bool xn)).setCell ⟨B, 2, none⟩ (.slice xo xk xc)).setCell ⟨B, 3, none⟩ (.int .i64 xe) = w2 at *
  have HT := Lib.hid hTf; clear hTf
  have hE2 : Ext w w2 := by show Below _ _ _; rw [HBe.out]; exact hB2
  have k0 := bx.c0
  have k1 := bx.c1
  have k2 := bx.c2
  have k3 := bx.c3
  cases d with
  | none =>
    obtain rfl := dn_none hr
    clear hr
    obtain rfl : R = 9221120237041090560 := HR.out.symm
    clear HR
    go_wp2
    go_ret
    exact ⟨rfl, hE2⟩
  | some p =>
    obtain ⟨m, f⟩ := p
    obtain ⟨rfl, rfl, hm⟩ := dn_some hr
    have HNEG := Lib.hid hm.neg
    have hnx := nd_blen hr.1
    simp only [dm, dx, Option.getD_some] at hnx
    obtain ⟨hnx, hx0, hx1⟩ := hnx
    have gm := bn_bg_of hm (by omega)
    clear hr hm
    go_wp2_with fail
    refine (refSign_any _ _ _ _ _ _ gm).mono ?_
    rintro e w3 ⟨rfl, hw3⟩
    have gm := gm.below hw3
    have bx := bx.below hw3
    have hE3 := Ext.trans hE2 hw3
    have HT3 := Lib.hid (fun W (hW : Ext w3 W) => (HT.out.below hw3).below hW)
    clear k0 k1 k2 k3 hB2 hE2
    have k0 := bx.c0
    have k1 := bx.c1
    have k2 := bx.c2
    have k3 := bx.c3
    by_cases h0 : m = 0
    · have hs0 : (sgn3 m 0 == 0) = true := by simp [sgn3, h0]
      have hV : R = 0 := by rw [← HR.out]; show rz m xe mode = 0; unfold rz; rw [if_pos h0]
      subst hV
      clear h0 HR
      go_wp2
      go_ret
      exact ⟨rfl, hE3⟩
    · have hs0 : (sgn3 m 0 == 0) = false := by
        have : sgn3 m 0 ≠ 0 := fun h => h0 (sgn3_zero h)
        simpa using this
      have HV : Hid (flr xn m.natAbs xe false mode = R) := Lib.hid (by
        rw [← HR.out]
        show _ = rz m xe mode
        unfold rz rnd
        rw [if_neg h0, HNEG.out])
      have HNA := Lib.hid (show m.natAbs ≠ 0 by omega)
      clear h0 HR
      have HC := Lib.hid (show ∀ wx, Ext w3 wx → (wx.cell? ⟨B, 0, none⟩ = some (.bool false) ∧ wx.cell? ⟨B, 1, none⟩ = some (.bool xn) ∧ wx.cell? ⟨B, 2, none⟩ = some (.slice xo xk xc) ∧ wx.cell? ⟨B, 3, none⟩ = some (.int .i64 xe)) from fun wx h => ⟨(bx.ext h).c0, (bx.ext h).c1, (bx.ext h).c2, (bx.ext h).c3⟩)
      have ex0 : Ext w3 w3.drew := (Below.refl _ _).drew
      go_upto_region 6 with fail
      go_region_held3 (fun wx => (wx.cell? ⟨B, 0, none⟩ = some (.bool false) ∧ wx.cell? ⟨B, 1, none⟩ = some (.bool xn) ∧ wx.cell? ⟨B, 2, none⟩ = some (.slice xo xk xc) ∧ wx.cell? ⟨B, 3, none⟩ = some (.int .i64 xe)))
        (first | exact HC.out _ (by assumption))
        (first
          | (go_at_call 103; refine (refAbs_any _ _ _ _ _ _ (by exact gm.drew)).mono ?_; rintro e w4 ⟨nr, ro, l, cr, rfl, hq, -, hw4⟩; have ex1 : Ext w3 w4 := ex0.trans hw4)
          | (go_at_call 155; refine (refRounded_any _ _ _ _ _ m.natAbs _ _ _ (bn_bg_of hq (by rw [Int.natAbs_natCast]; omega)) HNA.out (by omega) (by omega) (by omega) (HT3.out _ ex1)).mono ?_; rw [HV.out]; rintro e w5 ⟨rfl, hw5⟩; have ex2 : Ext w3 w5 := ex1.trans hw5))
      have HF := Lib.hid (Ext.trans hE3 ex2)
      go_wp2
      go_ret
      exact ⟨rfl, HF.out⟩
end Go.Proofs.YtjohpdobnedilaaGreatDoor
