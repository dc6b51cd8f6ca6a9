import Derived.Test.YtecaaklbhhjcjaaGreatDoorDividesU5
import Derived.Test.YtecaaklbhhjcjaaGreatDoorDividesU21
import Derived.Test.YtecaaklbhhjcjaaGreatDoorDividesU35
import Derived.Test.YtecaaklbhhjcjaaGreatDoorDividesU41
import Derived.Test.YtecaaklbhhjcjaaGreatDoorDividesU42
namespace Go.Proofs.YtecaaklbhhjcjaaGreatDoor
open Go Go.RowKit

set_option maxRecDepth 100000 in
set_option maxHeartbeats 16000000 in
theorem divides_rest (an bn : Bool) (ao bo : Option Addr) (ak ac bk bc : Nat) (x y : Int) (w : World) (ha : Bg w an ao ak ac x) (hb : Bg w bn bo bk bc y) (hn : ak ≤ 40) (hm : bk ≤ 40) (hxl : x.natAbs < 4294967296 ^ 100000000) (hyl : y.natAbs < 4294967296 ^ 100000000) (hy : y ≠ 0) (hr : x % y ≠ 0) (haw : AwakeSays w) :
    Calls Tryz.prog 3 #[.agg #[.bool an, .slice ao ak ac], .agg #[.bool bn, .slice bo bk bc]] w fun e w' => e = .returned (.bool true) ∧ Ext w w' := by
  have hnr : x.natAbs % y.natAbs ≠ 0 := fun h => hr (Int.emod_eq_zero_of_dvd (Int.natAbs_dvd_natAbs.1 (Nat.dvd_of_mod_eq_zero h)))
  have CDM := Lib.hid (fun W (h : Ext w W) => divMod_any an bn ao ak ac bo bk bc x y W (ha.below h) (hb.below h) hy (by omega) (div_says _ _ (by omega)))
  have CQU := Lib.hid (fun W (h : Ext w W) => quo_inexact an bn ao ak ac bo bk bc x y W (ha.below h) (hb.below h) hy (by omega) (div_says _ _ (by omega)) hnr)
  have CG := Lib.hid (fun W (h : Ext w W) => gcd_any an bn ao ak ac bo bk bc x y W (ha.below h) (hb.below h) (by omega) (by omega))
  have CRG := Lib.hid (fun W (h : Ext w W) => refGcd_any an bn ao bo ak bk ac bc x y W (ha.below h) (hb.below h) hxl hyl)
  have CS := Lib.hid (fun W (h : Ext w W) => refSign_any bn bo bk bc y W (hb.below h))
  have CRD := Lib.hid (fun W (h : Ext w W) => refDivMod_any an bn ao ak ac bo bk bc x y W (ha.below h) (hb.below h) hy (by omega))
  have SLA := Lib.hid (fun W => slim_yes an ao ak ac 40 W hn)
  have SLB := Lib.hid (fun W => slim_yes bn bo bk bc 40 W hm)
  have AW := Lib.hid haw
  obtain ⟨s, hs⟩ : ∃ s, sgn3 y 0 = s := ⟨_, rfl⟩
  have hs0 : (s == 0) = false := beq_eq_false_iff_ne.2 (fun e => hy (sgn3_zero (hs.trans e)))
  rw [hs] at CS
  obtain ⟨u, hu⟩ : ∃ u, sgn3 (x % y) 0 = u := ⟨_, rfl⟩
  have hu0 : (u != 0) = true := by
    simp only [bne_iff_ne, ne_eq]; exact fun e => hr (sgn3_zero (hu.trans e))
  have hrem : (x % y).natAbs < 4294967296 ^ 100000000 := by
    have h3 : (x % y).natAbs < y.natAbs := by
      clear hxl hyl CRG
      have h1 := Int.emod_nonneg x hy
      have h2 := Int.emod_lt x hy
      omega
    exact Nat.lt_trans h3 hyl
  have CS2 := Lib.hid (fun (nb : Bool) (ao : Option Addr) (n ca : Nat) W (h : Bn W nb ao n ca (x % y)) => refSign_any nb ao n ca (x % y) W (h.bg (by
    have h1 := (limbs_len_le _ 100000000).2 hrem
    rw [h.sl.len] at h1
    exact Nat.le_trans h1 (by decide))))
  rw [hu] at CS2
  have d0 : ((0 : Int) == 0) = true := rfl
  clear ha hb hn hm hxl hyl haw hs hu hrem hnr hr
  go_enter Tryz.func3, Tryz.ntmps3
  go_upto_region 1 with fail
  obtain ⟨W, hW, hB, hx, hy1⟩ := box_pair w an ao ak ac bn bo bk bc
  rw [← hW]
  clear hW
  have HB := Lib.hid (show Ext w W from hB)
  generalize w.heap.size = B at hx hy1 ⊢
  clear hB
  have HC1 := Lib.hid (show ∀ wx, Ext W wx → (wx.cell? ⟨B, 0, none⟩ = some (.bool an) ∧ wx.cell? ⟨B, 1, none⟩ = some (.slice ao ak ac)) ∧ (wx.cell? ⟨(B + 1), 0, none⟩ = some (.bool bn) ∧ wx.cell? ⟨(B + 1), 1, none⟩ = some (.slice bo bk bc)) from fun wx h => ⟨⟨(hx.below h).c0, (hx.below h).c1⟩, (hy1.below h).c0, (hy1.below h).c1⟩)
  clear hx hy1
  have st : Ext W W := Ext.refl W
  obtain ⟨⟨a0, a1⟩, b0, b1⟩ := HC1.out _ st
  go_wp2_with fail
  refine (SLA.out _).mono ?_
  rintro e w1 ⟨rfl, hE⟩
  have st : Ext W w1 := Ext.trans st hE
  clear hE
  clear a0 a1 b0 b1
  obtain ⟨⟨a0, a1⟩, b0, b1⟩ := HC1.out _ st
  go_wp2_with fail
  refine (SLB.out _).mono ?_
  rintro e w2 ⟨rfl, hE⟩
  have st : Ext W w2 := Ext.trans st hE
  clear hE
  clear a0 a1 b0 b1
  obtain ⟨⟨a0, a1⟩, b0, b1⟩ := HC1.out _ st
  go_wp2_with fail
  refine (CDM.out _ (Ext.trans HB.out st)).mono ?_
  rintro e w3 ⟨qn, qo, qk, qc, rn, ro, rk, rc, rfl, hq, hr1, hE⟩
  have st := Ext.trans st hE
  clear hE
  clear a0 a1 b0 b1
  go_upto_region 4 with fail
  obtain ⟨V4, hV4, hE, hbq, hbr⟩ := box_pair w3 qn qo qk qc rn ro rk rc
  rw [← hV4]
  clear hV4
  have hq := hq.below hE
  have hr1 := hr1.below hE
  have st := Ext.trans st hE
  generalize w3.heap.size = D at *
  clear hE
  obtain ⟨⟨a0, a1⟩, b0, b1⟩ := HC1.out _ st
  go_wp2_with fail
  refine (CQU.out _ (Ext.trans HB.out st)).mono ?_
  rintro e w5 ⟨xn, xo, xk, xc, rfl, hxx, hE⟩
  have hq := hq.below hE
  have hr1 := hr1.below hE
  have hbq := hbq.below hE
  have hbr := hbr.below hE
  have st := Ext.trans st hE
  clear hE
  clear a0 a1 b0 b1
  go_upto_region 5 with fail
  obtain ⟨V, hV, hE, hbx, -⟩ := box_new w5 xn xo xk xc
  rw [← hV]
  clear hV
  have hq := hq.below hE
  have hr1 := hr1.below hE
  have hxx := hxx.below hE
  have hbq := hbq.below hE
  have hbr := hbr.below hE
  have hWV := Ext.trans st hE
  have HB2 := Lib.hid (Ext.trans HB.out hWV)
  generalize w5.heap.size = E at *
  have HC := Lib.hid (show ∀ wx, Ext V wx → ((wx.cell? ⟨B, 0, none⟩ = some (.bool an) ∧ wx.cell? ⟨B, 1, none⟩ = some (.slice ao ak ac)) ∧ (wx.cell? ⟨(B + 1), 0, none⟩ = some (.bool bn) ∧ wx.cell? ⟨(B + 1), 1, none⟩ = some (.slice bo bk bc))) ∧ ((wx.cell? ⟨D, 0, none⟩ = some (.bool qn) ∧ wx.cell? ⟨D, 1, none⟩ = some (.slice qo qk qc)) ∧ (wx.cell? ⟨(D + 1), 0, none⟩ = some (.bool rn) ∧ wx.cell? ⟨(D + 1), 1, none⟩ = some (.slice ro rk rc))) ∧ (wx.cell? ⟨E, 0, none⟩ = some (.bool xn) ∧ wx.cell? ⟨E, 1, none⟩ = some (.slice xo xk xc)) from fun wx h => ⟨HC1.out wx (Ext.trans hWV h), ⟨⟨(hbq.below h).c0, (hbq.below h).c1⟩, (hbr.below h).c0, (hbr.below h).c1⟩, (hbx.below h).c0, (hbx.below h).c1⟩)
  have HQ := Lib.hid (fun wx (h : Ext V wx) => hq.below h)
  have HR := Lib.hid (fun wx (h : Ext V wx) => hr1.below h)
  have HX := Lib.hid (fun wx (h : Ext V wx) => hxx.below h)
  have HAW : Hid (AwakeSays V) := Lib.hid (fun w' h => AW.out w' (Ext.trans HB2.out h))
  clear st hE hbx hbq hbr hq hr1 hxx hWV HC1 AW
  have st : Ext V V := Ext.refl V
  obtain ⟨⟨⟨a0, a1⟩, b0, b1⟩, ⟨⟨q0, q1⟩, r0, r1⟩, x0, x1⟩ := HC.out _ st
  have st : Ext V V.drew := (Below.refl _ _).drew
  go_region_held3 (fun wx => ((wx.cell? ⟨B, 0, none⟩ = some (.bool an) ∧ wx.cell? ⟨B, 1, none⟩ = some (.slice ao ak ac)) ∧ (wx.cell? ⟨(B + 1), 0, none⟩ = some (.bool bn) ∧ wx.cell? ⟨(B + 1), 1, none⟩ = some (.slice bo bk bc))) ∧ ((wx.cell? ⟨D, 0, none⟩ = some (.bool qn) ∧ wx.cell? ⟨D, 1, none⟩ = some (.slice qo qk qc)) ∧ (wx.cell? ⟨(D + 1), 0, none⟩ = some (.bool rn) ∧ wx.cell? ⟨(D + 1), 1, none⟩ = some (.slice ro rk rc))) ∧ (wx.cell? ⟨E, 0, none⟩ = some (.bool xn) ∧ wx.cell? ⟨E, 1, none⟩ = some (.slice xo xk xc)))
    (first | exact HC.out _ (by assumption))
    (first
      | (go_at_call 11; (with_reducible refine (CG.out _ (Ext.trans HB2.out (by assumption))).mono ?_); rintro e w6 ⟨gn, go, gk, gc, rfl, hg, hE⟩; have st : Ext V w6 := Ext.trans (by assumption) hE; clear hE)
      | (go_at_call 12; (with_reducible refine (CRG.out _ (Ext.trans HB2.out (by assumption))).mono ?_); rintro e w7 ⟨hn, ho, hk, hc, rfl, hh, hE⟩; have st : Ext V w7 := Ext.trans (by assumption) hE; have hg := hg.below hE; clear hE)
      | (go_at_call 10; refine (big_eq _ _ _ _ _ _ _ _ _ _ _ (by exact hg) (by exact hh) rfl).mono ?_; rintro e w8 ⟨rfl, hE⟩; have st : Ext V w8 := Ext.trans (by assumption) hE; clear hE hg hh))
  clear a0 a1 b0 b1 q0 q1 r0 r1 x0 x1
  obtain ⟨⟨⟨a0, a1⟩, b0, b1⟩, ⟨⟨q0, q1⟩, r0, r1⟩, x0, x1⟩ := HC.out _ st
  go_wp2_with fail
  refine (CS.out _ (Ext.trans HB2.out st)).mono ?_
  rintro e w9 ⟨rfl, hE⟩
  have st : Ext V w9 := Ext.trans st hE
  clear hE
  clear a0 a1 b0 b1 q0 q1 r0 r1 x0 x1
  obtain ⟨⟨⟨a0, a1⟩, b0, b1⟩, ⟨⟨q0, q1⟩, r0, r1⟩, x0, x1⟩ := HC.out _ st
  go_wp2_with fail
  refine (CRD.out _ (Ext.trans HB2.out st)).mono ?_
  rintro e w10 ⟨pn, po, pk, pc, sn, so, sk, sc, rfl, hp, hs1, hE⟩
  have st := Ext.trans st hE
  clear hE
  clear a0 a1 b0 b1 q0 q1 r0 r1 x0 x1
  go_upto_region 10 with fail
  obtain ⟨V2, hV2, hE, hbp, hbs⟩ := box_pair w10 pn po pk pc sn so sk sc
  rw [← hV2]
  clear hV2
  have hp := hp.below hE
  have hs1 := hs1.below hE
  have hVV := Ext.trans st hE
  have HB3 := Lib.hid (Ext.trans HB2.out hVV)
  generalize w10.heap.size = H at *
  have HC2 := Lib.hid (show ∀ wx, Ext V2 wx → ((wx.cell? ⟨B, 0, none⟩ = some (.bool an) ∧ wx.cell? ⟨B, 1, none⟩ = some (.slice ao ak ac)) ∧ (wx.cell? ⟨(B + 1), 0, none⟩ = some (.bool bn) ∧ wx.cell? ⟨(B + 1), 1, none⟩ = some (.slice bo bk bc))) ∧ ((wx.cell? ⟨D, 0, none⟩ = some (.bool qn) ∧ wx.cell? ⟨D, 1, none⟩ = some (.slice qo qk qc)) ∧ (wx.cell? ⟨(D + 1), 0, none⟩ = some (.bool rn) ∧ wx.cell? ⟨(D + 1), 1, none⟩ = some (.slice ro rk rc))) ∧ (wx.cell? ⟨E, 0, none⟩ = some (.bool xn) ∧ wx.cell? ⟨E, 1, none⟩ = some (.slice xo xk xc)) ∧ (wx.cell? ⟨H, 0, none⟩ = some (.bool pn) ∧ wx.cell? ⟨H, 1, none⟩ = some (.slice po pk pc)) ∧ (wx.cell? ⟨(H + 1), 0, none⟩ = some (.bool sn) ∧ wx.cell? ⟨(H + 1), 1, none⟩ = some (.slice so sk sc)) from fun wx h => ⟨(HC.out wx (Ext.trans hVV h)).1, (HC.out wx (Ext.trans hVV h)).2.1, (HC.out wx (Ext.trans hVV h)).2.2, ⟨(hbp.below h).c0, (hbp.below h).c1⟩, (hbs.below h).c0, (hbs.below h).c1⟩)
  have HP := Lib.hid (fun wx (h : Ext V2 wx) => hp.below h)
  have HS := Lib.hid (fun wx (h : Ext V2 wx) => hs1.below h)
  have HQ2 := Lib.hid (fun wx (h : Ext V2 wx) => HQ.out wx (Ext.trans hVV h))
  have HR2 := Lib.hid (fun wx (h : Ext V2 wx) => HR.out wx (Ext.trans hVV h))
  have HX2 := Lib.hid (fun wx (h : Ext V2 wx) => HX.out wx (Ext.trans hVV h))
  have HAW2 : Hid (AwakeSays V2) := Lib.hid (fun w' h => HAW.out w' (Ext.trans hVV h))
  clear st hE hbp hbs hp hs1 hVV HC HQ HR HX HAW
  have st : Ext V2 V2 := Ext.refl V2
  obtain ⟨⟨⟨a0, a1⟩, b0, b1⟩, ⟨⟨q0, q1⟩, r0, r1⟩, ⟨x0, x1⟩, ⟨p0, p1⟩, s0, s1⟩ := HC2.out _ st
  go_wp2_with fail
  refine (big_eq _ _ _ _ _ _ _ _ _ _ _ (HQ2.out _ st) (HP.out _ st) rfl).mono ?_
  rintro e w11 ⟨rfl, hE⟩
  have st : Ext V2 w11 := Ext.trans st hE
  clear hE
  clear a0 a1 b0 b1 q0 q1 r0 r1 x0 x1 p0 p1 s0 s1
  obtain ⟨⟨⟨a0, a1⟩, b0, b1⟩, ⟨⟨q0, q1⟩, r0, r1⟩, ⟨x0, x1⟩, ⟨p0, p1⟩, s0, s1⟩ := HC2.out _ st
  go_wp2_with fail
  refine (big_eq _ _ _ _ _ _ _ _ _ _ _ (HR2.out _ st) (HS.out _ st) rfl).mono ?_
  rintro e w12 ⟨rfl, hE⟩
  have st : Ext V2 w12 := Ext.trans st hE
  clear hE
  clear a0 a1 b0 b1 q0 q1 r0 r1 x0 x1 p0 p1 s0 s1
  obtain ⟨⟨⟨a0, a1⟩, b0, b1⟩, ⟨⟨q0, q1⟩, r0, r1⟩, ⟨x0, x1⟩, ⟨p0, p1⟩, s0, s1⟩ := HC2.out _ st
  go_wp2_with fail
  refine (CS2.out _ _ _ _ _ (HS.out _ st)).mono ?_
  rintro e w13 ⟨rfl, hE⟩
  have st : Ext V2 w13 := Ext.trans st hE
  clear hE
  clear a0 a1 b0 b1 q0 q1 r0 r1 x0 x1 p0 p1 s0 s1
  obtain ⟨⟨⟨a0, a1⟩, b0, b1⟩, ⟨⟨q0, q1⟩, r0, r1⟩, ⟨x0, x1⟩, ⟨p0, p1⟩, s0, s1⟩ := HC2.out _ st
  go_wp2_with fail
  refine (zero_bigD _ _ _ _ _ (HX2.out _ st)).mono ?_
  rintro e w14 ⟨rfl, hE⟩
  have st : Ext V2 w14 := Ext.trans st hE
  clear hE
  clear a0 a1 b0 b1 q0 q1 r0 r1 x0 x1 p0 p1 s0 s1
  obtain ⟨⟨⟨a0, a1⟩, b0, b1⟩, ⟨⟨q0, q1⟩, r0, r1⟩, ⟨x0, x1⟩, ⟨p0, p1⟩, s0, s1⟩ := HC2.out _ st
  go_wp2_with fail
  refine (HAW2.out _ st).mono ?_
  rintro e w30 ⟨rfl, hE⟩
  have HF := Lib.hid (Ext.trans HB3.out (Ext.trans st hE))
  go_wp2
  go_ret
  exact ⟨rfl, HF.out⟩
end Go.Proofs.YtecaaklbhhjcjaaGreatDoor
