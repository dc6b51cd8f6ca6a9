/- What the reference's Round of dyads does. -/
import Derived.Test.YtjohpdobnedilaaGreatDoorCRefDRd
namespace Go.Proofs.YtjohpdobnedilaaGreatDoor
open Go Go.RowKit

/-- a number is rounded as its sign and magnitude say -/
theorem round_rd {m e : Int} {p : Nat} {mode : Int} : rdV (decide (m < 0)) m.natAbs e false p mode = drd m e p mode := by
  by_cases h : m = 0
  · subst h
    unfold rdV drd
    have hb : blen (0 : Int).natAbs = 0 := by simp [blen]
    rw [hb]
    have hc : cutV (decide ((0 : Int) < 0)) (0 : Int).natAbs (0 - p) false mode = 0 := by
      rw [cut_none _ _ (by simp)]; simp
    rw [hc, if_pos (Nat.zero_le _)]
    simp [dmk_zero]
  · exact (drd_rd h).symm
theorem dround_bad {d : Dy} {p mode : Int} (h : p < 1 ∨ 4096 < p) : dround d p mode = none := by
  cases d with
  | none => rfl
  | some q => obtain ⟨m, e⟩ := q; show (if 1 ≤ p ∧ p ≤ 4096 then _ else none) = none; rw [if_neg (by omega)]
theorem dround_rd {m e : Int} {P : Nat} {mode : Int} (h : 1 ≤ P ∧ P ≤ 4096) : rdV (decide (m < 0)) m.natAbs e false P mode = dround (some (m, e)) (P : Int) mode := by
  show _ = (if 1 ≤ (P : Int) ∧ (P : Int) ≤ 4096 then drd m e (P : Int).toNat mode else none)
  rw [if_pos (by omega), Int.toNat_natCast, round_rd]

set_option maxRecDepth 100000 in
set_option maxHeartbeats 4000000 in
theorem ref_dround_any (u : Value) (d : Dy) (p mode : Int) (w : World) (hu : Dl w u d) (hT : Table w) :
    Calls Tryz.prog 39 #[u, .int .i64 p, .int .i64 mode] w fun e w' => ∃ r, e = .returned r ∧ Dn w' r (dround d p mode) ∧ Ext w w' := by
  have hu0 := hu
  obtain ⟨ub, un, uo, uk, uc, _, uf, rfl, -⟩ := hu0
  have HTw := Lib.hid hT
  go_enter Tryz.func39, Tryz.ntmps39
  go_upto_region 1 with fail
  obtain ⟨W, hW, hB, hbx, hrx, hz⟩ := boxes_dd w ub un uo uk uc uf
  rw [← hW]
  clear hW
  have hu := hu.ext hB
  have HT := Lib.hid (hT.below hB)
  generalize hBe : w.heap.size = B at *
  have HBe := Lib.hid hBe; clear hBe hT
  have k0 := hbx.c0
  have k1 := hbx.c1
  have k2 := hbx.c2
  have k3 := hbx.c3
  go_wp2_with fail
  refine (refDNorm_any _ _ _ hu HT.out).mono ?_
  rintro e w1 ⟨r1, rfl, hr, hw1⟩
  have bx := hbx.below hw1
  have c1 := hrx.below hw1
  obtain ⟨hB1, hB1'⟩ := bnext hB (by omega) hw1
  have hz1 := hw1.size
  obtain ⟨xb, xn, xo, xk, xc, xe, rfl⟩ := hr.parts
  clear k0 k1 k2 k3 hbx hrx hB hw1 hu HT
  have k0 := bx.c0
  have k1 := bx.c1
  have k2 := bx.c2
  have k3 := bx.c3
  have f0 := bx.f 0
  have f1 := bx.f 1
  have f2 := bx.f 2
  have f3 := bx.f 3
  go_upto_region 2 with fail
  have ho := only_set4 w1 B (.bool xb) (.bool xn) (.slice xo xk xc) (.int .i64 xe)
  have hr := hr.only_dbox bx ho
  have bx := bx.stored xb xn xo xk xc xe
  have c1 := c1.only ho (by omega)
  have hB2 := hB1.trans (ho.below (B := B) (Nat.le_refl _))
  have hz2 := ho.size
  have hz3 : B + 2 ≤ ((((w1.setCell ⟨B, 0, none⟩ (.bool xb)).setCell ⟨B, 1, none⟩ (.bool xn)).setCell ⟨B, 2, none⟩ (.slice xo xk xc)).setCell ⟨B, 3, none⟩ (.int .i64 xe)).heap.size := by omega
  have hTf := HTw.out.below (w' := (((w1.setCell ⟨B, 0, none⟩ (.bool xb)).setCell ⟨B, 1, none⟩ (.bool xn)).setCell ⟨B, 2, none⟩ (.slice xo xk xc)).setCell ⟨B, 3, none⟩ (.int .i64 xe)) (by rw [HBe.out]; exact hB2)
  clear k0 k1 k2 k3 f0 f1 f2 f3 hB1 ho hz2
  generalize (((w1.setCell ⟨B, 0, none⟩ (.bool xb)).setCell ⟨B, 1, none⟩ (.bool xn)).setCell ⟨B, 2, none⟩ (.slice xo xk xc)).setCell ⟨B, 3, none⟩ (.int .i64 xe) = w2 at *
  have HT := Lib.hid hTf; clear hTf
  cases d with
  | none =>
    obtain rfl := dn_none hr
    clear HT
    have k0 := bx.c0
    have k1 := bx.c1
    have k2 := bx.c2
    have k3 := bx.c3
    have HV := Lib.hid (show dround none p mode = none from rfl)
    go_wp2_with fail
    refine (refBad_any _).mono ?_
    rintro e wb ⟨rfl, hwb⟩
    have cb := c1.below hwb
    obtain ⟨hBb, hBb'⟩ := bnext hB2 (by omega) hwb
    have q0 := cb.c0
    have q1 := cb.c1
    have q2 := cb.c2
    have q3 := cb.c3
    have f0 := cb.f 0
    have f1 := cb.f 1
    have f2 := cb.f 2
    have f3 := cb.f 3
    have hres := dn_stored cb (dn_bad wb) w hBb (by omega)
    have z3 := cb.stored true false none 0 0 0
    have z0 := z3.c0
    have z1 := z3.c1
    have z2 := z3.c2
    have z4 := z3.c3
    have HRES := Lib.hid hres; clear hres z3
    go_wp2
    refine bodyPost_ret (v := .agg #[.bool true, .bool false, .slice none 0 0, .int .i64 0]) (by simp [results, Tryz.results39, go_sem, z0, z1, z2, z4]) rfl ⟨_, rfl, ?_, ?_⟩
    · first | exact HRES.out.1 | (rw [HV.out]; exact HRES.out.1)
    · show Below _ _ _; rw [HBe.out]; exact HRES.out.2
  | some q =>
    obtain ⟨m, f⟩ := q
    obtain ⟨rfl, rfl, hm⟩ := dn_some hr
    have hnx := nd_blen hr.1
    simp only [dm, dx, Option.getD_some] at hnx
    obtain ⟨hnx, hx0, hx1⟩ := hnx
    have HNEG := Lib.hid hm.neg
    have gm := bn_bg_of hm (by omega)
    clear hm hr
    have HC := Lib.hid (show ∀ wx, Ext w2 wx → (wx.cell? ⟨B, 0, none⟩ = some (.bool false) ∧ wx.cell? ⟨B, 1, none⟩ = some (.bool xn) ∧ wx.cell? ⟨B, 2, none⟩ = some (.slice xo xk xc) ∧ wx.cell? ⟨B, 3, none⟩ = some (.int .i64 xe)) from fun wx h => ⟨(bx.ext h).c0, (bx.ext h).c1, (bx.ext h).c2, (bx.ext h).c3⟩)
    have ex0 : Ext w2 w2.drew := (Below.refl _ _).drew
    obtain ⟨k0, k1, k2, k3⟩ := HC.out w2 (Ext.refl _)
    by_cases h1 : p < 1
    · have HV := Lib.hid (dround_bad (d := some (m, xe)) (mode := mode) (Or.inl h1))
      go_wp2_with fail
      refine (refBad_any _).mono ?_
      rintro e wb ⟨rfl, hwb⟩
      have cb := c1.below hwb
      obtain ⟨hBb, hBb'⟩ := bnext hB2 (by omega) hwb
      have q0 := cb.c0
      have q1 := cb.c1
      have q2 := cb.c2
      have q3 := cb.c3
      have f0 := cb.f 0
      have f1 := cb.f 1
      have f2 := cb.f 2
      have f3 := cb.f 3
      have hres := dn_stored cb (dn_bad wb) w hBb (by omega)
      have z3 := cb.stored true false none 0 0 0
      have z0 := z3.c0
      have z1 := z3.c1
      have z2 := z3.c2
      have z4 := z3.c3
      have HRES := Lib.hid hres; clear hres z3
      go_wp2
      refine bodyPost_ret (v := .agg #[.bool true, .bool false, .slice none 0 0, .int .i64 0]) (by simp [results, Tryz.results39, go_sem, z0, z1, z2, z4]) rfl ⟨_, rfl, ?_, ?_⟩
      · first | exact HRES.out.1 | (rw [HV.out]; exact HRES.out.1)
      · show Below _ _ _; rw [HBe.out]; exact HRES.out.2
    · by_cases h2 : p > 4096
      · have HV := Lib.hid (dround_bad (d := some (m, xe)) (mode := mode) (Or.inr h2))
        go_wp2_with fail
        refine (refBad_any _).mono ?_
        rintro e wb ⟨rfl, hwb⟩
        have cb := c1.below hwb
        obtain ⟨hBb, hBb'⟩ := bnext hB2 (by omega) hwb
        have q0 := cb.c0
        have q1 := cb.c1
        have q2 := cb.c2
        have q3 := cb.c3
        have f0 := cb.f 0
        have f1 := cb.f 1
        have f2 := cb.f 2
        have f3 := cb.f 3
        have hres := dn_stored cb (dn_bad wb) w hBb (by omega)
        have z3 := cb.stored true false none 0 0 0
        have z0 := z3.c0
        have z1 := z3.c1
        have z2 := z3.c2
        have z4 := z3.c3
        have HRES := Lib.hid hres; clear hres z3
        go_wp2
        refine bodyPost_ret (v := .agg #[.bool true, .bool false, .slice none 0 0, .int .i64 0]) (by simp [results, Tryz.results39, go_sem, z0, z1, z2, z4]) rfl ⟨_, rfl, ?_, ?_⟩
        · first | exact HRES.out.1 | (rw [HV.out]; exact HRES.out.1)
        · show Below _ _ _; rw [HBe.out]; exact HRES.out.2
      · obtain ⟨P, rfl⟩ : ∃ P : Nat, p = (P : Int) := ⟨p.toNat, by omega⟩
        have HV := Lib.hid (dround_rd (m := m) (e := xe) (P := P) (mode := mode) (by omega))
        rw [← HNEG.out] at HV
        have HNX := Lib.hid hnx
        have HP := Lib.hid (show P ≤ 4096 by omega)
        go_upto_region 4 with fail
        go_region_held3 (fun wx => (wx.cell? ⟨B, 0, none⟩ = some (.bool false) ∧ wx.cell? ⟨B, 1, none⟩ = some (.bool xn) ∧ wx.cell? ⟨B, 2, none⟩ = some (.slice xo xk xc) ∧ wx.cell? ⟨B, 3, none⟩ = some (.int .i64 xe)))
          (first | exact HC.out _ (by assumption) | (refine ⟨?_, ?_, ?_, ?_⟩ <;> go_simp))
          (first
            | (go_at_call 103; refine (refAbs_any _ _ _ _ _ _ (by exact gm.drew)).mono ?_; rintro e w3 ⟨nr, ro, l, cr, rfl, hq, -, hw3⟩; have ex1 : Ext w2 w3 := ex0.trans hw3)
            | (go_at_call 102; refine (refDRounded_any xn nr ro l cr m.natAbs xe false P mode w3 (bn_bg_of hq (by rw [Int.natAbs_natCast]; have := HNX.out; omega)) (by have := HNX.out; omega) (by omega) HP.out (HT.out.below ex1)).mono ?_; rintro e w4 ⟨r, rfl, hr2, hw4⟩; have ex2 : Ext w2 w4 := ex1.trans hw4; rw [HV.out] at hr2; obtain ⟨rb, rn, ro2, rk, rc, re, rfl⟩ := hr2.parts; have c2 := c1.ext ex2; have q0 := c2.c0; have q1 := c2.c1; have q2 := c2.c2; have q3 := c2.c3; have f0 := c2.f 0; have f1 := c2.f 1; have f2 := c2.f 2; have f3 := c2.f 3; obtain ⟨b0, b1, b2, b3⟩ := HC.out _ ex2))
        have hB3 : Below B w w4 := (bnext hB2 (by omega) ex2).1
        have hres := dn_stored c2 hr2 w hB3 (Nat.le_succ B)
        have z3 := c2.stored rb rn ro2 rk rc re
        have z0 := z3.c0
        have z1 := z3.c1
        have z2 := z3.c2
        have z4 := z3.c3
        have HRES := Lib.hid hres; clear hres z3
        go_wp2
        refine bodyPost_ret (v := .agg #[.bool rb, .bool rn, .slice ro2 rk rc, .int .i64 re]) (by simp [results, Tryz.results39, go_sem, z0, z1, z2, z4]) rfl ⟨_, rfl, ?_, ?_⟩
        · exact HRES.out.1
        · show Below _ _ _; rw [HBe.out]; exact HRES.out.2
end Go.Proofs.YtjohpdobnedilaaGreatDoor
