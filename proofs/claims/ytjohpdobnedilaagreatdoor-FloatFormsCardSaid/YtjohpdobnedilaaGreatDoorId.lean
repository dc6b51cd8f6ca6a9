/- What the reference's Scale, Floor, Log2 and FromBig of dyads do. -/
import Derived.Test.YtjohpdobnedilaaGreatDoorGl
import Derived.Test.YtjohpdobnedilaaGreatDoorIh
import Derived.Test.YtjohpdobnedilaaGreatDoorIe
import Derived.Test.YtjohpdobnedilaaGreatDoorIa
namespace Go.Proofs.YtjohpdobnedilaaGreatDoor
open Go.RowKit

theorem dscale_zero (e i : Int) (h : Nd (some (0, e))) : dscale (some (0, e)) i = some (0, e) := by
  rcases h with ⟨_, rfl⟩ | ⟨h1, _⟩
  · exact dmk_zero _
  · simp at h1
theorem dscale_far {m e i : Int} (h : Nd (some (m, e))) (h0 : m ≠ 0) (hi : 262144 < i ∨ i < -262144) : dscale (some (m, e)) i = none := by
  rcases h with ⟨h1, _⟩ | ⟨h1, h2, h3⟩
  · exact absurd h1 h0
  · have hb : 0 < blen m.natAbs := by
      have := blen_lt m.natAbs
      rcases Nat.eq_zero_or_pos (blen m.natAbs) with hz | hp
      · rw [hz] at this; omega
      · exact hp
    show dmk m _ = none
    unfold dmk
    rw [if_neg h0, tzf_odd h1, if_pos (by omega)]
theorem dscale_near {m e i : Int} (h : Nd (some (m, e))) (h0 : m ≠ 0) : dmk m (e + i) = dscale (some (m, e)) i := by
  rcases h with ⟨h1, _⟩ | ⟨h1, h2, h3⟩
  · exact absurd h1 h0
  · have hb : 0 < blen m.natAbs := by
      have := blen_lt m.natAbs
      rcases Nat.eq_zero_or_pos (blen m.natAbs) with hz | hp
      · rw [hz] at this; omega
      · exact hp
    show _ = dmk m _
    by_cases hc : -131072 ≤ i ∧ i ≤ 131072
    · rw [show max (-131072) (min i 131072) = i by omega]
    · unfold dmk
      rw [if_neg h0, if_neg h0, tzf_odd h1, if_pos (by omega), if_pos (by omega)]

set_option maxRecDepth 100000 in
set_option maxHeartbeats 4000000 in
theorem ref_dscale_any (u : Value) (d : Dy) (i : Int) (w : World) (hu : Dl w u d) (hi0 : -9223372036854775808 ≤ i) (hi1 : i ≤ 9223372036854775807) (hT : Table w) :
    Calls Tryz.prog 91 #[u, .int .i64 i] w fun e w' => ∃ r, e = .returned r ∧ Dn w' r (dscale d i) ∧ Ext w w' := by
  have hu0 := hu
  obtain ⟨ub, un, uo, uk, uc, _, uf, rfl, -⟩ := hu0
  have HTw := Lib.hid hT
  go_enter Tryz.func91, Tryz.ntmps91
  go_upto_region 1 with fail
  obtain ⟨W, hW, hB, hbx, hrx, hz⟩ := boxes_dd w ub un uo uk uc uf
  rw [← hW]
  clear hW
  have hu := hu.ext hB
  have HT := Lib.hid (hT.below hB)
  generalize hBe : w.heap.size = B at *
  have HBe := Lib.hid hBe; clear hBe hT
  have k0 := hbx.c0
  have k1 := hbx.c1
  have k2 := hbx.c2
  have k3 := hbx.c3
  go_wp2_with fail
  refine (refDNorm_any _ _ _ hu HT.out).mono ?_
  rintro e w1 ⟨r1, rfl, hr, hw1⟩
  have bx := hbx.below hw1
  have c1 := hrx.below hw1
  obtain ⟨hB1, hB1'⟩ := bnext hB (by omega) hw1
  have hz1 := hw1.size
  obtain ⟨xb, xn, xo, xk, xc, xe, rfl⟩ := hr.parts
  clear k0 k1 k2 k3 hbx hrx hB hw1 hu HT
  have k0 := bx.c0
  have k1 := bx.c1
  have k2 := bx.c2
  have k3 := bx.c3
  have f0 := bx.f 0
  have f1 := bx.f 1
  have f2 := bx.f 2
  have f3 := bx.f 3
  go_upto_region 2 with fail
  have ho := only_set4 w1 B (.bool xb) (.bool xn) (.slice xo xk xc) (.int .i64 xe)
  have hr := hr.only_dbox bx ho
  have bx := bx.stored xb xn xo xk xc xe
  have c1 := c1.only ho (by omega)
  have hB2 := hB1.trans (ho.below (B := B) (Nat.le_refl _))
  have hz2 := ho.size
  have hz3 : B + 2 ≤ ((((w1.setCell ⟨B, 0, none⟩ (.bool xb)).setCell ⟨B, 1, none⟩ (.bool xn)).setCell ⟨B, 2, none⟩ (.slice xo xk xc)).setCell ⟨B, 3, none⟩ (.int .i64 xe)).heap.size := by omega
  have hTf := HTw.out.below (w' := (((w1.setCell ⟨B, 0, none⟩ (.bool xb)).setCell ⟨B, 1, none⟩ (.bool xn)).setCell ⟨B, 2, none⟩ (.slice xo xk xc)).setCell ⟨B, 3, none⟩ (.int .i64 xe)) (by rw [HBe.out]; exact hB2)
  clear k0 k1 k2 k3 f0 f1 f2 f3 hB1 ho hz2
  generalize (((w1.setCell ⟨B, 0, none⟩ (.bool xb)).setCell ⟨B, 1, none⟩ (.bool xn)).setCell ⟨B, 2, none⟩ (.slice xo xk xc)).setCell ⟨B, 3, none⟩ (.int .i64 xe) = w2 at *
  have HT := Lib.hid hTf; clear hTf
  cases d with
  | none =>
    obtain rfl := dn_none hr
    clear HT
    have k0 := bx.c0
    have k1 := bx.c1
    have k2 := bx.c2
    have k3 := bx.c3
    have q0 := c1.c0
    have q1 := c1.c1
    have q2 := c1.c2
    have q3 := c1.c3
    have f0 := c1.f 0
    have f1 := c1.f 1
    have f2 := c1.f 2
    have f3 := c1.f 3
    have hres := dn_stored c1 hr w hB2 (by omega)
    have z3 := c1.stored true xn xo xk xc xe
    have z0 := z3.c0
    have z1 := z3.c1
    have z2 := z3.c2
    have z4 := z3.c3
    have HRES := Lib.hid hres; clear hres z3
    go_wp2
    refine bodyPost_ret (v := .agg #[.bool true, .bool xn, .slice xo xk xc, .int .i64 xe]) (by simp [results, Tryz.results91, go_sem, z0, z1, z2, z4]) rfl ⟨_, rfl, ?_, ?_⟩
    · exact HRES.out.1
    · show Below _ _ _; rw [HBe.out]; exact HRES.out.2
  | some p =>
    obtain ⟨m, f⟩ := p
    obtain ⟨rfl, rfl, hm⟩ := dn_some hr
    have hnd := hr.1
    have hnx := nd_blen hr.1
    simp only [dm, dx, Option.getD_some] at hnx
    obtain ⟨hnx, hx0, hx1⟩ := hnx
    have gm := bn_bg_of hm (by omega)
    have HND := Lib.hid hnd; clear hnd hm
    have HDN := Lib.hid hr; clear hr
    have HBL := Lib.hid (show blen m.natAbs ≤ 1000000 by omega)
    have k0 := bx.c0
    have k1 := bx.c1
    have k2 := bx.c2
    have k3 := bx.c3
    go_wp2_with fail
    refine (refSign_any _ _ _ _ _ _ gm).mono ?_
    rintro e w3 ⟨rfl, hw3⟩
    have gm := gm.below hw3
    have bx := bx.below hw3
    have c1 := c1.below hw3
    have hdn3 := HDN.out.ext hw3
    have HT := Lib.hid (HT.out.below hw3)
    obtain ⟨hB3, hB3'⟩ := bnext hB2 (by omega) hw3
    have hz4 := hw3.size
    clear k0 k1 k2 k3 HDN
    have k0 := bx.c0
    have k1 := bx.c1
    have k2 := bx.c2
    have k3 := bx.c3
    by_cases h0 : m = 0
    · have hs0 : (sgn3 m 0 == 0) = true := by simp [sgn3, h0]
      subst h0
      have HSP := Lib.hid (dscale_zero xe i HND.out)
      have q0 := c1.c0
      have q1 := c1.c1
      have q2 := c1.c2
      have q3 := c1.c3
      have f0 := c1.f 0
      have f1 := c1.f 1
      have f2 := c1.f 2
      have f3 := c1.f 3
      have hres := dn_stored c1 hdn3 w hB3 (by omega)
      have z3 := c1.stored false xn xo xk xc xe
      have z0 := z3.c0
      have z1 := z3.c1
      have z2 := z3.c2
      have z4 := z3.c3
      have HRES := Lib.hid hres; clear hres z3
      go_wp2
      refine bodyPost_ret (v := .agg #[.bool false, .bool xn, .slice xo xk xc, .int .i64 xe]) (by simp [results, Tryz.results91, go_sem, z0, z1, z2, z4]) rfl ⟨_, rfl, ?_, ?_⟩
      · rw [HSP.out]; exact HRES.out.1
      · show Below _ _ _; rw [HBe.out]; exact HRES.out.2
    · have hs0 : (sgn3 m 0 == 0) = false := by
        have : sgn3 m 0 ≠ 0 := fun h => h0 (sgn3_zero h)
        simpa using this
      have H0 := Lib.hid h0; clear h0
      clear hdn3
      by_cases hfar : 262144 < i ∨ i < -262144
      · have HSP := Lib.hid (dscale_far HND.out H0.out hfar)
        have hgo : ∀ {P : Prop}, (i > 262144 → P) → (i < -262144 → ¬ i > 262144 → P) → P := by
          intro P a b
          by_cases h : i > 262144
          · exact a h
          · exact b (by omega) h
        refine hgo ?_ ?_
        · intro hg1
          clear hgo hfar
          go_wp2_with fail
          refine (refBad_any _).mono ?_
          rintro e w4 ⟨rfl, hw4⟩
          have c1 := c1.below hw4
          obtain ⟨hB4, hB4'⟩ := bnext hB3 (by omega) hw4
          clear k0 k1 k2 k3
          have q0 := c1.c0
          have q1 := c1.c1
          have q2 := c1.c2
          have q3 := c1.c3
          have f0 := c1.f 0
          have f1 := c1.f 1
          have f2 := c1.f 2
          have f3 := c1.f 3
          have hres := dn_stored c1 (dn_bad w4) w hB4 (by omega)
          have z3 := c1.stored true false none 0 0 0
          have z0 := z3.c0
          have z1 := z3.c1
          have z2 := z3.c2
          have z4 := z3.c3
          have HRES := Lib.hid hres; clear hres z3
          go_wp2
          refine bodyPost_ret (v := .agg #[.bool true, .bool false, .slice none 0 0, .int .i64 0]) (by simp [results, Tryz.results91, go_sem, z0, z1, z2, z4]) rfl ⟨_, rfl, ?_, ?_⟩
          · rw [HSP.out]; exact HRES.out.1
          · show Below _ _ _; rw [HBe.out]; exact HRES.out.2
        · intro hg1 hg2
          clear hgo hfar
          go_wp2_with fail
          refine (refBad_any _).mono ?_
          rintro e w4 ⟨rfl, hw4⟩
          have c1 := c1.below hw4
          obtain ⟨hB4, hB4'⟩ := bnext hB3 (by omega) hw4
          clear k0 k1 k2 k3
          have q0 := c1.c0
          have q1 := c1.c1
          have q2 := c1.c2
          have q3 := c1.c3
          have f0 := c1.f 0
          have f1 := c1.f 1
          have f2 := c1.f 2
          have f3 := c1.f 3
          have hres := dn_stored c1 (dn_bad w4) w hB4 (by omega)
          have z3 := c1.stored true false none 0 0 0
          have z0 := z3.c0
          have z1 := z3.c1
          have z2 := z3.c2
          have z4 := z3.c3
          have HRES := Lib.hid hres; clear hres z3
          go_wp2
          refine bodyPost_ret (v := .agg #[.bool true, .bool false, .slice none 0 0, .int .i64 0]) (by simp [results, Tryz.results91, go_sem, z0, z1, z2, z4]) rfl ⟨_, rfl, ?_, ?_⟩
          · rw [HSP.out]; exact HRES.out.1
          · show Below _ _ _; rw [HBe.out]; exact HRES.out.2
      · have hg1 : ¬ i > 262144 := by omega
        have hg2 : ¬ i < -262144 := by omega
        have HSP := Lib.hid (dscale_near (i := i) HND.out H0.out)
        have hj0 : -262144 ≤ i := by omega
        have hj1 : i ≤ 262144 := by omega
        clear hfar
        go_wp2_with fail
        refine (refMake_any _ _ _ _ _ _ _ gm HBL.out (by omega) (by omega) HT.out).mono ?_
        rintro e w4 ⟨r, rfl, hr4, hw4⟩
        rw [HSP.out] at hr4
        have c1 := c1.below hw4
        obtain ⟨hB4, hB4'⟩ := bnext hB3 (by omega) hw4
        obtain ⟨rb, rn, ro2, rk, rc, re, rfl⟩ := hr4.parts
        clear k0 k1 k2 k3
        have q0 := c1.c0
        have q1 := c1.c1
        have q2 := c1.c2
        have q3 := c1.c3
        have f0 := c1.f 0
        have f1 := c1.f 1
        have f2 := c1.f 2
        have f3 := c1.f 3
        have hres := dn_stored c1 hr4 w hB4 (by omega)
        have z3 := c1.stored rb rn ro2 rk rc re
        have z0 := z3.c0
        have z1 := z3.c1
        have z2 := z3.c2
        have z4 := z3.c3
        have HRES := Lib.hid hres; clear hres z3
        go_wp2
        refine bodyPost_ret (v := .agg #[.bool rb, .bool rn, .slice ro2 rk rc, .int .i64 re]) (by simp [results, Tryz.results91, go_sem, z0, z1, z2, z4]) rfl ⟨_, rfl, ?_, ?_⟩
        · exact HRES.out.1
        · show Below _ _ _; rw [HBe.out]; exact HRES.out.2

set_option maxRecDepth 100000 in
set_option maxHeartbeats 4000000 in
theorem ref_dlog_any (u : Value) (d : Dy) (w : World) (hu : Dl w u d) (hT : Table w) :
    Calls Tryz.prog 76 #[u] w fun e w' => LogOut d e ∧ Ext w w' := by
  have hu0 := hu
  obtain ⟨ub, un, uo, uk, uc, _, uf, rfl, -⟩ := hu0
  have HTw := Lib.hid hT
  go_enter Tryz.func76, Tryz.ntmps76
  go_upto_region 1 with fail
  obtain ⟨W, hW, hB, hbx, hz⟩ := dbox_new w ub un uo uk uc uf
  rw [← hW]
  clear hW
  have hu := hu.ext hB
  have HT := Lib.hid (hT.below hB)
  generalize hBe : w.heap.size = B at *
  have HBe := Lib.hid hBe; clear hBe hT
  have k0 := hbx.c0
  have k1 := hbx.c1
  have k2 := hbx.c2
  have k3 := hbx.c3
  go_wp2_with fail
  refine (refDNorm_any _ _ _ hu HT.out).mono ?_
  rintro e w1 ⟨r1, rfl, hr, hw1⟩
  have bx := hbx.below hw1
  obtain ⟨hB1, hB1'⟩ := bnext hB (by omega) hw1
  have hz1 := hw1.size
  obtain ⟨xb, xn, xo, xk, xc, xe, rfl⟩ := hr.parts
  clear k0 k1 k2 k3 hbx hB hw1 hu HT
  have k0 := bx.c0
  have k1 := bx.c1
  have k2 := bx.c2
  have k3 := bx.c3
  have f0 := bx.f 0
  have f1 := bx.f 1
  have f2 := bx.f 2
  have f3 := bx.f 3
  go_upto_region 2 with fail
  have ho := only_set4 w1 B (.bool xb) (.bool xn) (.slice xo xk xc) (.int .i64 xe)
  have hr := hr.only_dbox bx ho
  have bx := bx.stored xb xn xo xk xc xe
  have hB2 := hB1.trans (ho.below (B := B) (Nat.le_refl _))
  have hz2 := ho.size
  have hz3 : B + 1 ≤ ((((w1.setCell ⟨B, 0, none⟩ (.bool xb)).setCell ⟨B, 1, none⟩ (.bool xn)).setCell ⟨B, 2, none⟩ (.slice xo xk xc)).setCell ⟨B, 3, none⟩ (.int .i64 xe)).heap.size := by omega
  have hTf := HTw.out.below (w' := (((w1.setCell ⟨B, 0, none⟩ (.bool xb)).setCell ⟨B, 1, none⟩ (.bool xn)).setCell ⟨B, 2, none⟩ (.slice xo xk xc)).setCell ⟨B, 3, none⟩ (.int .i64 xe)) (by rw [HBe.out]; exact hB2)
  clear k0 k1 k2 k3 f0 f1 f2 f3 hB1 ho hz2
  generalize (((w1.setCell ⟨B, 0, none⟩ (.bool xb)).setCell ⟨B, 1, none⟩ (.bool xn)).setCell ⟨B, 2, none⟩ (.slice xo xk xc)).setCell ⟨B, 3, none⟩ (.int .i64 xe) = w2 at *
  have HT := Lib.hid hTf; clear hTf
  have k0 := bx.c0
  have k1 := bx.c1
  have k2 := bx.c2
  have k3 := bx.c3
  obtain ⟨g1, g2, hm⟩ := hr.get
  obtain ⟨hnx, hx0, hx1⟩ := nd_blen hr.1
  have gm := bn_bg_of hm (by omega)
  have htop : dtop d = dx d + blen (dm d).natAbs := rfl
  rw [← g2] at htop hx0 hx1
  have hd0 : xb = true → dm d = 0 := by rw [g1]; cases d with | none => intro _; rfl | some p => intro h; cases h
  generalize hdm : dm d = m at *
  generalize htd : dtop d = tp at *
  have HTD := Lib.hid htd; clear htd
  generalize hbl : blen m.natAbs = bl at *
  have HBL := Lib.hid hbl; clear hbl
  have HDM := Lib.hid hdm; clear hdm
  have HTP := Lib.hid htop; clear htop
  clear hm hr g1 g2 HT
  cases xb with
  | true =>
    have H0 := Lib.hid (hd0 rfl); clear hd0
    go_wp2
    go_ret2
    refine ⟨Or.inl ⟨by rw [HDM.out]; exact H0.out, rfl⟩, ?_⟩
    show Below _ _ _; rw [HBe.out]; exact hB2
  | false =>
    clear hd0
    go_wp2_with fail
    refine (refSign_any _ _ _ _ _ _ gm).mono ?_
    rintro e w3 ⟨rfl, hw3⟩
    have gm := gm.below hw3
    have bx := bx.below hw3
    obtain ⟨hB3, hB3'⟩ := bnext hB2 (by omega) hw3
    have hz4 := hw3.size
    clear k0 k1 k2 k3
    by_cases h0 : m = 0
    · have hs0 : (sgn3 m 0 == 0) = true := by simp [sgn3, h0]
      have H0 := Lib.hid h0; clear h0
      go_wp2
      go_ret2
      refine ⟨Or.inl ⟨by rw [HDM.out]; exact H0.out, rfl⟩, ?_⟩
      show Below _ _ _; rw [HBe.out]; exact hB3
    · have hs0 : (sgn3 m 0 == 0) = false := by
        have : sgn3 m 0 ≠ 0 := fun h => h0 (sgn3_zero h)
        simpa using this
      have H0 := Lib.hid h0; clear h0
      have HC := Lib.hid (show ∀ wx, Ext w3 wx → (wx.cell? ⟨B, 0, none⟩ = some (.bool false) ∧ wx.cell? ⟨B, 1, none⟩ = some (.bool xn) ∧ wx.cell? ⟨B, 2, none⟩ = some (.slice xo xk xc) ∧ wx.cell? ⟨B, 3, none⟩ = some (.int .i64 xe)) from fun wx h => ⟨(bx.ext h).c0, (bx.ext h).c1, (bx.ext h).c2, (bx.ext h).c3⟩)
      have ex0 : Ext w3 w3.drew := (Below.refl _ _).drew
      obtain ⟨k0, k1, k2, k3⟩ := HC.out w3 (Ext.refl _)
      have hbl0 : bl ≤ 131072 := hnx
      have hwr : IntKind.i64.wrap (xe + (bl : Int)) = xe + (bl : Int) := IntWalk.i64_in _ ⟨by omega, by omega⟩
      have hwr2 : IntKind.i64.wrap (xe + (bl : Int) - 1) = xe + (bl : Int) - 1 := IntWalk.i64_in _ ⟨by omega, by omega⟩
      go_wp2_with fail
      go_region_held3 (fun wx => (wx.cell? ⟨B, 0, none⟩ = some (.bool false) ∧ wx.cell? ⟨B, 1, none⟩ = some (.bool xn) ∧ wx.cell? ⟨B, 2, none⟩ = some (.slice xo xk xc) ∧ wx.cell? ⟨B, 3, none⟩ = some (.int .i64 xe)))
        (first | exact HC.out _ (by assumption))
        (first
          | (go_at_call 49; refine (refBitLen_any _ _ _ _ _ _ (by exact gm.drew)).mono ?_; rintro e w4 ⟨rfl, hw4⟩; have ex1 : Ext w3 w4 := ex0.trans hw4; rw [HBL.out]))
      go_wp2
      go_ret2
      refine ⟨Or.inr ⟨by rw [HDM.out]; exact H0.out, by show Ending.returned (.tuple #[.int .i64 (xe + (bl : Int) - 1), .bool true]) = _; rw [HTD.out, HTP.out]⟩, ?_⟩
      show Below _ _ _; rw [HBe.out]; exact (bnext hB3 hB3' ex1).1

end Go.Proofs.YtjohpdobnedilaaGreatDoor

/- The dyads that a statement has at hand, of at most a million bits: what the program's and the reference's functions add to them. -/
namespace Go.Proofs.YtjohpdobnedilaaGreatDoor
open Go.RowKit

structure QEnt where
  v : Value
  d : Dy
  c : Bool
def QEnt.Ok (w : World) (p : QEnt) : Prop := Dl w p.v p.d ∧ (p.c = true → Dn w p.v p.d)
theorem QEnt.Ok.ext {w w' : World} {p : QEnt} (h : p.Ok w) (he : Ext w w') : p.Ok w' := ⟨h.1.ext he, fun e => (h.2 e).ext he⟩
theorem qok_dn {w : World} {v : Value} {d : Dy} (h : Dn w v d) : QEnt.Ok w ⟨v, d, true⟩ := ⟨h.dl, fun _ => h⟩
theorem qok_dl {w : World} {v : Value} {d : Dy} (h : Dl w v d) : QEnt.Ok w ⟨v, d, false⟩ := ⟨h, fun e => by cases e⟩
structure QSt (W w : World) (L : List QEnt) : Prop where
  ext : Ext W w
  tab : Table w
  bag : ∀ p ∈ L, p.Ok w
theorem QSt.step {W w w' : World} {L : List QEnt} (h : QSt W w L) (he : Ext w w') : QSt W w' L := ⟨h.ext.trans he, h.tab.below he, fun p hp => (h.bag p hp).ext he⟩
theorem QSt.push {W w w' : World} {L : List QEnt} (h : QSt W w L) (he : Ext w w') {p : QEnt} (hp : p.Ok w') : QSt W w' (p :: L) :=
  ⟨h.ext.trans he, h.tab.below he, fun q hq => by
    rcases List.mem_cons.1 hq with rfl | hq
    · exact hp
    · exact (h.bag q hq).ext he⟩
theorem QSt.drew {W w : World} {L : List QEnt} (h : QSt W w L) : QSt W w.drew L := h.step (Below.refl _ _).drew
theorem QSt.alloc {W w : World} {L : List QEnt} (h : QSt W w L) (o : Obj) : QSt W (w.alloc o) L := h.step ((Below.refl _ w).alloc (Nat.le_refl _) o)
theorem QSt.self {W w : World} {L : List QEnt} (h : QSt W w L) : QSt w w L := ⟨Ext.refl w, h.tab, h.bag⟩
theorem QSt.dn {W w : World} {L : List QEnt} {v : Value} {d : Dy} (h : QSt W w L) (h1 : ⟨v, d, true⟩ ∈ L) : Dn w v d := (h.bag _ h1).2 rfl
theorem QSt.dl {W w : World} {L : List QEnt} {v : Value} {d : Dy} {c : Bool} (h : QSt W w L) (h1 : ⟨v, d, c⟩ ∈ L) : Dl w v d := (h.bag _ h1).1
theorem QSt.dg {W w : World} {L : List QEnt} {v : Value} {d : Dy} {c : Bool} (h : QSt W w L) (h1 : ⟨v, d, c⟩ ∈ L) : Dg w v d := (h.dl h1).dg

/-- what comparing gives, and Log2 -/
def cmpV (d d' : Dy) : Int × Bool := if d = none ∨ d' = none then (0, false) else (sgn3 (sc d) (sc d'), true)
theorem cmpV_out {d d' : Dy} {e : Ending} (h : CmpOut d d' e) : e = .returned (.tuple #[.int .i64 (cmpV d d').1, .bool (cmpV d d').2]) := by
  unfold cmpV
  rcases h with ⟨h0, he⟩ | ⟨h1, h2, he⟩
  · rw [if_pos h0]; exact he
  · rw [if_neg (by rintro (h | h); exact h1 h; exact h2 h)]; exact he
def logV (d : Dy) : Int × Bool := if dm d = 0 then (0, false) else (dtop d - 1, true)
theorem logV_out {d : Dy} {e : Ending} (h : LogOut d e) : e = .returned (.tuple #[.int .i64 (logV d).1, .bool (logV d).2]) := by
  unfold logV
  rcases h with ⟨h0, he⟩ | ⟨h1, he⟩
  · rw [if_pos h0]; exact he
  · rw [if_neg h1]; exact he

section
variable {W w : World} {L : List QEnt} {u v : Value} {d d' : Dy} {c c' : Bool}
theorem qnorm_bag (h : QSt W w L) (h1 : ⟨u, d, c⟩ ∈ L) :
    Calls Tryz.prog 152 #[u] w fun e w' => ∃ r, e = .returned r ∧ QSt W w' (⟨r, d, true⟩ :: L) :=
  (dnorm_any u d w (h.dg h1) h.tab).mono fun _ _ ⟨r, he, hr, hw⟩ => ⟨r, he, h.push hw (qok_dn hr)⟩
theorem rnorm_bag (h : QSt W w L) (h1 : ⟨u, d, c⟩ ∈ L) :
    Calls Tryz.prog 101 #[u] w fun e w' => ∃ r, e = .returned r ∧ QSt W w' (⟨r, d, true⟩ :: L) :=
  (refDNorm_any u d w (h.dl h1) h.tab).mono fun _ _ ⟨r, he, hr, hw⟩ => ⟨r, he, h.push hw (qok_dn hr)⟩
theorem rneg_bag (h : QSt W w L) (h1 : ⟨u, d, c⟩ ∈ L) :
    Calls Tryz.prog 143 #[u] w fun e w' => ∃ r, e = .returned r ∧ QSt W w' (⟨r, dneg d, true⟩ :: L) :=
  (ref_dneg_any u d w (h.dl h1) h.tab).mono fun _ _ ⟨r, he, hr, hw⟩ => ⟨r, he, h.push hw (qok_dn hr)⟩
theorem qadd_bag (h : QSt W w L) (h1 : ⟨u, d, c⟩ ∈ L) (h2 : ⟨v, d', c'⟩ ∈ L) :
    Calls Tryz.prog 58 #[u, v] w fun e w' => ∃ r, e = .returned r ∧ QSt W w' (⟨r, dadd d d', true⟩ :: L) :=
  (dadd_any u v d d' w (h.dg h1) (h.dg h2) h.tab).mono fun _ _ ⟨r, he, hr, hw⟩ => ⟨r, he, h.push hw (qok_dn hr)⟩
theorem radd_bag (h : QSt W w L) (h1 : ⟨u, d, c⟩ ∈ L) (h2 : ⟨v, d', c'⟩ ∈ L) :
    Calls Tryz.prog 62 #[u, v] w fun e w' => ∃ r, e = .returned r ∧ QSt W w' (⟨r, dadd d d', true⟩ :: L) :=
  (ref_dadd_any u v d d' w (h.dl h1) (h.dl h2) h.tab).mono fun _ _ ⟨r, he, hr, hw⟩ => ⟨r, he, h.push hw (qok_dn hr)⟩
theorem qsub_bag (h : QSt W w L) (h1 : ⟨u, d, c⟩ ∈ L) (h2 : ⟨v, d', c'⟩ ∈ L) :
    Calls Tryz.prog 134 #[u, v] w fun e w' => ∃ r, e = .returned r ∧ QSt W w' (⟨r, dsub d d', true⟩ :: L) :=
  (dsub_any u v d d' w (h.dg h1) (h.dg h2) h.tab).mono fun _ _ ⟨r, he, hr, hw⟩ => ⟨r, he, h.push hw (qok_dn hr)⟩
theorem rsub_bag (h : QSt W w L) (h1 : ⟨u, d, c⟩ ∈ L) (h2 : ⟨v, d', c'⟩ ∈ L) :
    Calls Tryz.prog 61 #[u, v] w fun e w' => ∃ r, e = .returned r ∧ QSt W w' (⟨r, dsub d d', true⟩ :: L) :=
  (ref_dsub_any u v d d' w (h.dl h1) (h.dl h2) h.tab).mono fun _ _ ⟨r, he, hr, hw⟩ => ⟨r, he, h.push hw (qok_dn hr)⟩
theorem qmul_bag (h : QSt W w L) (h1 : ⟨u, d, c⟩ ∈ L) (h2 : ⟨v, d', c'⟩ ∈ L) (hs : blen (dm d).natAbs ≤ 3100 ∨ blen (dm d').natAbs ≤ 3100) :
    Calls Tryz.prog 64 #[u, v] w fun e w' => ∃ r, e = .returned r ∧ QSt W w' (⟨r, dmul d d', true⟩ :: L) :=
  (dmul_any u v d d' w (h.dg h1) (h.dg h2) h.tab hs).mono fun _ _ ⟨r, he, hr, hw⟩ => ⟨r, he, h.push hw (qok_dn hr)⟩
theorem rmul_bag (h : QSt W w L) (h1 : ⟨u, d, c⟩ ∈ L) (h2 : ⟨v, d', c'⟩ ∈ L) :
    Calls Tryz.prog 66 #[u, v] w fun e w' => ∃ r, e = .returned r ∧ QSt W w' (⟨r, dmul d d', true⟩ :: L) :=
  (ref_dmul_any u v d d' w (h.dl h1) (h.dl h2) h.tab).mono fun _ _ ⟨r, he, hr, hw⟩ => ⟨r, he, h.push hw (qok_dn hr)⟩
theorem rsign_bag (h : QSt W w L) (h1 : ⟨u, d, c⟩ ∈ L) (s : Int) (hs : sgn3 (dm d) 0 = s) :
    Calls Tryz.prog 140 #[u] w fun e w' => e = .returned (.int .i64 s) ∧ QSt W w' L :=
  (refDSign_any u d w (h.dl h1) h.tab).mono fun _ _ ⟨he, hw⟩ => ⟨by rw [he, hs], h.step hw⟩
theorem qvalid_bag (h : QSt W w L) (h1 : ⟨u, d, c⟩ ∈ L) (s : Bool) (hs : d.isSome = s) :
    Calls Tryz.prog 96 #[u] w fun e w' => e = .returned (.bool s) ∧ QSt W w' L :=
  (dvalid_any u d w (h.dg h1) h.tab).mono fun _ _ ⟨he, hw⟩ => ⟨by rw [he, hs], h.step hw⟩
theorem qcmp_bag (h : QSt W w L) (h1 : ⟨u, d, c⟩ ∈ L) (h2 : ⟨v, d', c'⟩ ∈ L) (s : Int) (b : Bool) (hs : cmpV d d' = (s, b)) :
    Calls Tryz.prog 95 #[u, v] w fun e w' => e = .returned (.tuple #[.int .i64 s, .bool b]) ∧ QSt W w' L :=
  (dcmp_any u v d d' w (h.dg h1) (h.dg h2) h.tab).mono fun _ _ ⟨he, hw⟩ => ⟨by rw [cmpV_out he, hs], h.step hw⟩
theorem rcmp_bag (h : QSt W w L) (h1 : ⟨u, d, c⟩ ∈ L) (h2 : ⟨v, d', c'⟩ ∈ L) (s : Int) (b : Bool) (hs : cmpV d d' = (s, b)) :
    Calls Tryz.prog 142 #[u, v] w fun e w' => e = .returned (.tuple #[.int .i64 s, .bool b]) ∧ QSt W w' L :=
  (refDCmp_any u v d d' w (h.dl h1) (h.dl h2) h.tab).mono fun _ _ ⟨he, hw⟩ => ⟨by rw [cmpV_out he, hs], h.step hw⟩
theorem rlog_bag (h : QSt W w L) (h1 : ⟨u, d, c⟩ ∈ L) (s : Int) (b : Bool) (hs : logV d = (s, b)) :
    Calls Tryz.prog 76 #[u] w fun e w' => e = .returned (.tuple #[.int .i64 s, .bool b]) ∧ QSt W w' L :=
  (ref_dlog_any u d w (h.dl h1) h.tab).mono fun _ _ ⟨he, hw⟩ => ⟨by rw [logV_out he, hs], h.step hw⟩
theorem rscale_bag (h : QSt W w L) (h1 : ⟨u, d, c⟩ ∈ L) (i : Int) (hi : -9223372036854775808 ≤ i ∧ i ≤ 9223372036854775807) :
    Calls Tryz.prog 91 #[u, .int .i64 i] w fun e w' => ∃ r, e = .returned r ∧ QSt W w' (⟨r, dscale d i, true⟩ :: L) :=
  (ref_dscale_any u d i w (h.dl h1) hi.1 hi.2 h.tab).mono fun _ _ ⟨r, he, hr, hw⟩ => ⟨r, he, h.push hw (qok_dn hr)⟩
theorem qfromInt_bag (h : QSt W w L) (i : Int) (hi : -9223372036854775808 ≤ i ∧ i ≤ 9223372036854775807) :
    Calls Tryz.prog 85 #[.int .i64 i] w fun e w' => ∃ r, e = .returned r ∧ QSt W w' (⟨r, dmk i 0, true⟩ :: L) :=
  (dfromInt_any i w hi.1 hi.2 h.tab).mono fun _ _ ⟨r, he, hr, hw⟩ => ⟨r, he, h.push hw (qok_dn hr)⟩
theorem rfromInt_bag (h : QSt W w L) (i : Int) (hi : -9223372036854775808 ≤ i ∧ i ≤ 9223372036854775807) :
    Calls Tryz.prog 87 #[.int .i64 i] w fun e w' => ∃ r, e = .returned r ∧ QSt W w' (⟨r, dmk i 0, true⟩ :: L) :=
  (refDFromInt_any i w hi.1 hi.2 h.tab).mono fun _ _ ⟨r, he, hr, hw⟩ => ⟨r, he, h.push hw (qok_dn hr)⟩
theorem qmake_bag (h : QSt W w L) (nb : Bool) (ao : Option Addr) (n ca : Nat) (x i : Int) (hx : Bg w nb ao n ca x) (hi : -9223372036854775808 ≤ i ∧ i ≤ 9223372036854775807) :
    Calls Tryz.prog 94 #[.agg #[.bool nb, .slice ao n ca], .int .i64 i] w fun e w' => ∃ r, e = .returned r ∧ QSt W w' (⟨r, dmk x i, true⟩ :: L) :=
  (dmake_any nb ao n ca x i w hx hi.1 hi.2 h.tab).mono fun _ _ ⟨r, he, hr, hw⟩ => ⟨r, he, h.push hw (qok_dn hr)⟩
theorem rmake_bag (h : QSt W w L) (nb : Bool) (ao : Option Addr) (n ca : Nat) (x i : Int) (hx : Bg w nb ao n ca x) (hb : blen x.natAbs ≤ 1000000) (hi : -9223372036854775808 ≤ i ∧ i ≤ 9223372036854775807) :
    Calls Tryz.prog 81 #[.agg #[.bool nb, .slice ao n ca], .int .i64 i] w fun e w' => ∃ r, e = .returned r ∧ QSt W w' (⟨r, dmk x i, true⟩ :: L) :=
  (refMake_any nb ao n ca x i w hx hb hi.1 hi.2 h.tab).mono fun _ _ ⟨r, he, hr, hw⟩ => ⟨r, he, h.push hw (qok_dn hr)⟩
theorem qkit_bag (h : QSt W w L) (h1 : ⟨u, d, true⟩ ∈ L) (h2 : ⟨v, d', true⟩ ∈ L) (hd : d = d') :
    Calls Tryz.prog 24 #[u, v] w fun e w' => e = .returned (.bool true) ∧ QSt W w' L := by
  subst hd
  exact (kitDyad_same u v d w (h.dn h1) (h.dn h2)).mono fun _ _ ⟨he, hw⟩ => ⟨he, h.step hw⟩
end
end Go.Proofs.YtjohpdobnedilaaGreatDoor
