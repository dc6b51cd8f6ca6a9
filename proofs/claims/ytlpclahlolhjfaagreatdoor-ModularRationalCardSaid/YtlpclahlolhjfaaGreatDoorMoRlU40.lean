import Derived.Test.YtlpclahlolhjfaaGreatDoorMoRlU39
import Derived.Test.YtlpclahlolhjfaaGreatDoorMoRlU13
namespace Go.Proofs.YtlpclahlolhjfaaGreatDoor
open Go Go.RowKit

set_option maxRecDepth 100000 in
set_option maxHeartbeats 8000000 in
theorem firstWithin_any (bn xn mn : Bool) (bo xo mo : Option Addr) (bk bc xk xc mk mc : Nat) (S X M R1 R2 : Int) (w : World) (hS : Bg w bn bo bk bc S) (hX : Bg w xn xo xk xc X) (hM : Bg w mn mo mk mc M) (hxk : xk ≤ 100) (hmk : mk ≤ 100)
    (hM0 : 0 < M) (hMl : M.natAbs < 4294967296 ^ 20) (hS0 : 0 ≤ S) (hS1 : S * S ≤ M / 2) (hS2 : M / 2 < (S + 1) * (S + 1)) (hR : eu (M.toNat + 1) M M (X % M) 0 1 = (R1, R2)) :
    Calls Tryz.prog 43 #[.agg #[.bool bn, .slice bo bk bc], .agg #[.bool xn, .slice xo xk xc], .agg #[.bool mn, .slice mo mk mc]] w fun e w' => ∃ rn ro rk rc vn vo vk vc, e = .returned (.tuple #[.agg #[.bool rn, .slice ro rk rc], .agg #[.bool vn, .slice vo vk vc]]) ∧
      Bn w' rn ro rk rc R1 ∧ Bn w' vn vo vk vc R2 ∧ Ext w w' := by
  have HBD := Lib.hid (fun c (h : 0 ≤ c) => root_bound (c := c) hS0 hS1 hS2 h)
  have HML := Lib.hid hMl
  have HR := Lib.hid hR
  have HS := Lib.hid hS
  have HST := Lib.hid (EA.start (x := X) hM0)
  have HM0 := Lib.hid hM0
  have HXM := Lib.hid (show 0 ≤ X % M ∧ X % M < M from ⟨Int.emod_nonneg _ (by omega), Int.emod_lt_of_pos _ hM0⟩)
  have HS0 := Lib.hid hS
  clear hS hS0 hS1 hS2 hMl hR
  go_enter Tryz.func43, Tryz.ntmps43
  go_upto_region 1 with fail
  obtain ⟨W, hW, hE0, h3, h4, h5, h6, h7, hz⟩ := boxes_five w bn xn mn bo xo mo bk bc xk xc mk mc
  rw [← hW]
  clear hW
  have hX1 := hX.below hE0
  have hM1 := hM.below hE0
  generalize hBe : w.heap.size = B at *
  have HBE := Lib.hid hBe
  have HB0 := Lib.hid (show Below B w W from hBe ▸ hE0)
  have HSW := Lib.hid (HS.out.below hE0)
  clear hBe hX hM hE0 HS
  have k0 := h4.c0
  have k1 := h4.c1
  have l0 := h5.c0
  have l1 := h5.c1
  go_wp2_with fail
  refine (divMod_any xn mn xo xk xc mo mk mc X M W hX1 hM1 (by omega) (by omega) (div_says _ _ (by omega))).mono ?_
  rintro e w1 ⟨qn, qo, qk, qc, rn, ro, rk, rc, rfl, -, hr, hE1⟩
  have h3 := h3.below hE1
  have h5 := h5.below hE1
  have h6 := h6.below hE1
  have h7 := h7.below hE1
  have hM1 := hM1.below hE1
  have HB1 := Lib.hid (Below.trans HB0.out (Below.mono hE1 (by omega)))
  have HSW := Lib.hid (HSW.out.below hE1)
  have hz1 := Below.size hE1
  obtain ⟨c, hc⟩ : ∃ c, X % M = c := ⟨_, rfl⟩
  rw [hc] at hr HR HST HXM
  clear k0 k1 l0 l1 h4 hX1 hE1 hc
  have k0 := h6.c0
  have k1 := h6.c1
  have k2 := h6.f 0
  have k3 := h6.f 1
  obtain ⟨z1, z2, z3, z4⟩ := one_set (xn := rn) (xo := ro) (xk := rk) (xc := rc) h6
  have h3b := z4 _ _ _ _ _ h3 (by omega)
  have h5b := z4 _ _ _ _ _ h5 (by omega)
  have h7b := z4 _ _ _ _ _ h7 (by omega)
  have hrb := bn_tr z3 hr
  have hM1b := bg_tr z3 hM1
  have HSW := Lib.hid (bg_tr z3 HSW.out)
  have HB1 := Lib.hid (Below.trans HB1.out (z2 B (by omega)))
  have H3 := Lib.hid h3b
  have H5 := Lib.hid h5b
  have H6 := Lib.hid z1
  have H7 := Lib.hid h7b
  have HRB := Lib.hid hrb
  have HMB := Lib.hid hM1b
  clear z1 z2 z3 z4 h3b h5b h7b hrb hM1b h3 h5 h6 h7 hr hM1
  go_wp2_with fail
  clear k0 k1 k2 k3
  generalize ((w1.setCell ⟨B + 3, 0, none⟩ (.bool rn)).setCell ⟨B + 3, 1, none⟩ (.slice ro rk rc)) = u1 at *
  have hzu := Below.size HB1.out
  rw [HBE.out] at hzu
  refine (fromInt_any 1 u1 (by omega) (by omega)).mono ?_
  rintro e w2 ⟨vn, vo, vk, vc, rfl, ht, hE2⟩
  have h3 := H3.out.below hE2
  have h5 := H5.out.below hE2
  have h6 := H6.out.below hE2
  have h7 := H7.out.below hE2
  have hr := HRB.out.below hE2
  have hM1 := HMB.out.below hE2
  have HSW := Lib.hid (HSW.out.below hE2)
  have HB2 := Lib.hid (Below.trans HB1.out (Below.mono hE2 hzu))
  clear H3 H5 H6 H7 HRB HMB HB1 hE2
  have k0 := h7.c0
  have k1 := h7.c1
  have k2 := h7.f 0
  have k3 := h7.f 1
  obtain ⟨z1, z2, z3, z4⟩ := one_set (xn := vn) (xo := vo) (xk := vk) (xc := vc) h7
  have H3 := Lib.hid (z4 _ _ _ _ _ h3 (by omega))
  have H5 := Lib.hid (z4 _ _ _ _ _ h5 (by omega))
  have H6 := Lib.hid (z4 _ _ _ _ _ h6 (by omega))
  have H7 := Lib.hid z1
  have HRB := Lib.hid (bn_tr z3 hr)
  have HTB := Lib.hid (bn_tr z3 ht)
  have HMB := Lib.hid (bg_tr z3 hM1)
  have HSW := Lib.hid (bg_tr z3 HSW.out)
  have HB2 := Lib.hid (Below.trans HB2.out (z2 B (by omega)))
  have hl7 := z1.lt
  have hsz7 := (only_set2 w2 (B + 4) (.bool vn) (.slice vo vk vc)).size
  clear z1 z2 z3 z4 h3 h5 h6 h7 hr ht hM1
  go_upto_region 3 with fail
  clear k0 k1 k2 k3
  generalize ((w2.setCell ⟨B + 4, 0, none⟩ (.bool vn)).setCell ⟨B + 4, 1, none⟩ (.slice vo vk vc)) = V at *
  have hcells : ∀ wx, Ext V wx → wx.cell? ⟨B + 2, 0, none⟩ = some (.bool mn) ∧ wx.cell? ⟨B + 2, 1, none⟩ = some (.slice mo mk mc) := fun wx h => ⟨(H5.out.below h).c0, (H5.out.below h).c1⟩
  have HC := Lib.hid hcells
  clear hcells
  obtain ⟨k0, k1⟩ := HC.out V (Ext.refl V)
  have hst : RSt V V [] := ⟨Ext.refl V, fun p hp => by cases hp⟩
  have std := hst.drew
  clear hsz7
  go_cut [8, 9] from 21 (fun p q wx => ∃ g h yn yo yk yc, p = .pointer (some ⟨g, 0, none⟩) ∧ q = .pointer (some ⟨h, 0, none⟩) ∧ Box wx g mn mo mk mc ∧ Box wx h yn yo yk yc ∧ RSt V wx [bent (.agg #[.bool yn, .slice yo yk yc]) 0] ∧ V.heap.size ≤ g ∧ V.heap.size ≤ h ∧ g ≠ h)
  case first =>
    go_region_held3 (fun wx => wx.cell? ⟨B + 2, 0, none⟩ = some (.bool mn) ∧ wx.cell? ⟨B + 2, 1, none⟩ = some (.slice mo mk mc))
      ((first | ((repeat (first | with_reducible refine bcells_drew ?_ | with_reducible refine bcells_alloc ?_ | with_reducible refine bcells_stored (by omega) ?_)); exact (HC.out _ (by first | with_reducible exact Ext.refl _ | with_reducible exact RSt.ext (W := V) (by with_reducible assumption))))))
      (first
        | (go_at_call 21; refine (fromInt_ent 0 (by first | with_reducible assumption | with_reducible exact RSt.drew (by with_reducible assumption) | with_reducible exact RSt.alloc (by with_reducible assumption) _ | with_reducible exact RSt.alloc (RSt.alloc (by with_reducible assumption) _) _ | with_reducible exact RSt.drew (RSt.alloc (by with_reducible assumption) _) | with_reducible exact RSt.drew (RSt.alloc (RSt.alloc (by with_reducible assumption) _) _)) (by omega)).mono ?_; rintro e wm ⟨yn, yo, yk, yc, rfl, hE1, stm⟩; have sz1 := sizeB stm.ext; (first | (have y12 := bbox_in2d (w := V) (wn := wm) (by with_reducible assumption); have y1 : Box wm V.heap.size false none 0 0 := y12.1; have y2 : Box wm (V.heap.size + 1) false none 0 0 := y12.2; clear y12; have yl1 := y1.lt; have yl2 := y2.lt; have u0 := y1.c0; have u1 := y1.c1; have u2 := y1.f 0; have u3 := y1.f 1; have v0 := y2.c0; have v1 := y2.c1; have v2 := y2.f 0; have v3 := y2.f 1) | (have y12 := bbox_in2 (w := V) (wn := wm) (by with_reducible assumption); have y1 : Box wm V.heap.size false none 0 0 := y12.1; have y2 : Box wm (V.heap.size + 1) false none 0 0 := y12.2; clear y12; have yl1 := y1.lt; have yl2 := y2.lt; have u0 := y1.c0; have u1 := y1.c1; have u2 := y1.f 0; have u3 := y1.f 1; have v0 := y2.c0; have v1 := y2.c1; have v2 := y2.f 0; have v3 := y2.f 1) | (have y12 := bbox_in1d (w := V) (wn := wm) (by with_reducible assumption); have y1 : Box wm V.heap.size false none 0 0 := y12; clear y12; have yl1 := y1.lt; have u0 := y1.c0; have u1 := y1.c1; have u2 := y1.f 0; have u3 := y1.f 1) | (have y12 := bbox_in1 (w := V) (wn := wm) (by with_reducible assumption); have y1 : Box wm V.heap.size false none 0 0 := y12; clear y12; have yl1 := y1.lt; have u0 := y1.c0; have u1 := y1.c1; have u2 := y1.f 0; have u3 := y1.f 1) | skip)))
    all_goals
      try clear u0 u1 u2 u3
      try clear v0 v1 v2 v3
      go_wp2
      go_meet
    all_goals
      refine ⟨_, _, yn, yo, yk, yc, rfl, rfl, ?_⟩
      first
        | (have _t := y2; first | (have F := bpair_stored (xn := mn) (xo := mo) (xk := mk) (xc := mc) (yn := yn) (yo := yo) (yk := yk) (yc := yc) y1 y2 (by omega) stm (by omega) (by omega); with_reducible exact ⟨F.1, F.2.1, F.2.2, by omega, by omega, by omega⟩) | (have F := bpair_stored (xn := mn) (xo := mo) (xk := mk) (xc := mc) (yn := yn) (yo := yo) (yk := yk) (yc := yc) y2 y1 (by omega) stm (by omega) (by omega); with_reducible exact ⟨F.1, F.2.1, F.2.2, by omega, by omega, by omega⟩))
        | (have _t := y1; first | (have F := bfin_mix (xn := mn) (xo := mo) (xk := mk) (xc := mc) (yn := yn) (yo := yo) (yk := yk) (yc := yc) stm y1 (by omega); with_reducible exact ⟨F.1, F.2.1, F.2.2, by omega, by omega, by omega⟩) | (have F := bfin_mix (xn := yn) (xo := yo) (xk := yk) (xc := yc) (yn := mn) (yo := mo) (yk := mk) (yc := mc) stm y1 (by omega); with_reducible exact ⟨F.2.1, F.1, F.2.2, by omega, by omega, by omega⟩))
        | (have F := bfin_new (xn := mn) (xo := mo) (xk := mk) (xc := mc) (yn := yn) (yo := yo) (yk := yk) (yc := yc) stm; with_reducible exact ⟨F.1, F.2.1, F.2.2, by omega, by omega, by omega⟩)
        | (have F := bfin_new (xn := yn) (xo := yo) (xk := yk) (xc := yc) (yn := mn) (yo := mo) (yk := mk) (yc := mc) stm; with_reducible exact ⟨F.2.1, F.1, F.2.2, by omega, by omega, by omega⟩)
  case rest =>
    obtain ⟨g, h, yn, yo, yk, yc, rfl, rfl, hg, hh, hst2, hg1, hh1, hgh⟩ := hcut
    obtain ⟨V2, hV2⟩ : ∃ V2, V2 = wc := ⟨wc, rfl⟩
    subst hV2
    have hE3 := hst2.ext
    have b0 := bent_bn (hst2.bag _ (List.Mem.head _))
    have H3 := Lib.hid (H3.out.below hE3)
    have H6 := Lib.hid (H6.out.below hE3)
    have H7 := Lib.hid (H7.out.below hE3)
    have HRB := Lib.hid (HRB.out.below hE3)
    have HTB := Lib.hid (HTB.out.below hE3)
    have HMB := Lib.hid (HMB.out.below hE3)
    have HSW := Lib.hid (HSW.out.below hE3)
    have HB3 := Lib.hid (Below.trans HB2.out (hE3.mono (by omega)))
    have hgB : B + 5 ≤ g := by omega
    have hhB : B + 5 ≤ h := by omega
    have HGB := Lib.hid (show GA V2 g M from ⟨_, _, _, _, hg, HMB.out, hmk⟩)
    have HHB := Lib.hid (show NA V2 h 0 from ⟨_, _, _, _, hh, b0⟩)
    have HN2 := Lib.hid (show Below V2.heap.size V2 V2 from Ext.refl V2)
    clear hst std hst2 hE3 b0 hg hh HC k0 k1 HB2 hg1 hh1 hl7 hz hz1 hzu
    go_wp2
    go_loopw [10, 11, 12] (fun _ _ _ wr => ∃ (f b : Nat) (a s t : Int), GA wr g a ∧ NA wr h s ∧ NA wr (B + 3) (b : Int) ∧ NA wr (B + 4) t ∧ Box wr B bn bo bk bc ∧ Hid (EA X M a (b : Int) s t ∧ (b : Int) < (f : Int) ∧ eu f M a (b : Int) s t = (R1, R2)) ∧ Below B w wr)
      (fun _ _ _ wr => numAt wr (B + 3))
    case atStart =>
      obtain ⟨b, hb⟩ := Int.eq_ofNat_of_zero_le HXM.out.1
      exact ⟨M.toNat + 1, b, M, 0, 1, HGB.out, HHB.out, ⟨_, _, _, _, H6.out, hb ▸ HRB.out⟩, ⟨_, _, _, _, H7.out, HTB.out⟩, H3.out, Lib.hid (by rw [← hb]; exact ⟨HST.out, by have := HXM.out; omega, HR.out⟩), HB3.out⟩
    case round =>
      clear HGB HHB H3 H6 H7 HRB HTB HMB HB3 HN2
      obtain ⟨f, b, a, s, t, ⟨an, ao, ak, ac, hxa, hA, hak⟩, ⟨sn, so, sk, sc, hxs, hSn⟩, ⟨rn, ro, rk, rc, hxr, hRn⟩, ⟨vn, vo, vk, vc, hxt, hTn⟩, hbx, HI, hB⟩ := hrel
      have HNUM := Lib.hid (numAt_is (w := wr) (g := B + 3) (x := b) ⟨rn, ro, rk, rc, hxr, hRn⟩)
      have hrl := within_limbs hRn HML.out (by have := HI.out.1.b0; have := HI.out.1.ba; have := HI.out.1.am; omega)
      have htl := within_limbs hTn HML.out HI.out.1.tm
      have hsl := within_limbs hSn HML.out HI.out.1.sm
      have HBel := Lib.hid hB
      have HBz := Lib.hid (show B ≤ wr.heap.size from by rw [← HBE.out]; exact Below.size hB)
      obtain ⟨c, hc⟩ : ∃ c, sgn3 (b : Int) S = c := ⟨_, rfl⟩
      have hEw : Ext w wr := by unfold Ext; rw [HBE.out]; exact hB
      have CC := Lib.hid (cmp_any rn bn ro rk rc bo bk bc (b : Int) S wr (hRn.bg (by omega)) (HS0.out.below hEw))
      rw [hc] at CC
      clear hB hEw
      have k0 := hxr.c0
      have k1 := hxr.c1
      have l0 := hbx.c0
      have l1 := hbx.c1
      go_wp2_with fail
      refine CC.out.mono ?_
      rintro e w3 ⟨rfl, hE⟩
      have HBel := Lib.hid (HBel.out.trans (Below.mono hE HBz.out))
      have HBz := Lib.hid (Nat.le_trans HBz.out (Below.size hE))
      have hxa := hxa.below hE
      have hxs := hxs.below hE
      have hxr := hxr.below hE
      have hxt := hxt.below hE
      have hbx := hbx.below hE
      have hA := hA.below hE
      have hSn := hSn.below hE
      have hRn := hRn.below hE
      have hTn := hTn.below hE
      clear k0 k1 l0 l1 CC hE
      by_cases hgo : M < 2 * ((b : Int) * (b : Int))
      · have hSb := (HBD.out (b : Int) (by omega)).2 hgo
        obtain rfl : 1 = c := by rw [← hc]; unfold sgn3; rw [if_neg (by omega), if_pos hSb]
        clear hc hSb
        have hEA := HI.out.1
        have hEAS := HI.out.1.step hgo
        have htm := hEA.tm
        have hsm := hEA.sm
        have hpos := hEA.pos hgo
        have ham := hEA.am
        have haz : 0 ≤ a := by have := hEA.b0; have := hEA.ba; omega
        have hqw := quo_within haz hpos ham
        obtain ⟨b', hb'⟩ := Int.eq_ofNat_of_zero_le hEAS.b0
        have hbb : (b' : Int) < (b : Int) := by have := hEAS.ba; omega
        have hel := hEA.ba
        obtain ⟨f2, rfl⟩ : ∃ f2, f = f2 + 1 := ⟨f - 1, by have := HI.out.2.1; omega⟩
        have HI2 := Lib.hid (show EA X M (b : Int) (b' : Int) t (s - a / (b : Int) * t) ∧ (b' : Int) < (f2 : Int) ∧ eu f2 M (b : Int) (b' : Int) t (s - a / (b : Int) * t) = (R1, R2) from by
          have h1 := HI.out.2.2
          rw [eu_go hgo, hb'] at h1
          rw [hb'] at hEAS
          exact ⟨hEAS, by have := HI.out.2.1; omega, h1⟩)
        obtain ⟨qv, hqv⟩ : ∃ qv, a / (b : Int) = qv := ⟨_, rfl⟩
        rw [hqv] at hqw HI2
        obtain ⟨nv, hnv⟩ : ∃ nv, s - qv * t = nv := ⟨_, rfl⟩
        rw [hnv] at HI2
        have HNV := Lib.hid hnv
        have hbz : (b : Int) ≠ 0 := by omega
        have g0 := hxa.c0
        have g1 := hxa.c1
        have k0 := hxr.c0
        have k1 := hxr.c1
        clear hEA hEAS hsm ham haz hel hgo hnv
        go_wp2_with fail
        refine (divMod_any an rn ao ak ac ro rk rc a b w3 hA (hRn.bg (by omega)) hbz (by omega) (div_says _ _ (by omega))).mono ?_
        rw [hqv, hb']
        rintro e w4 ⟨qn, qo, qk, qc, un, uo, uk, uc, rfl, hq, hu, hE4⟩
        have HBel := Lib.hid (HBel.out.trans (Below.mono hE4 HBz.out))
        have HBz := Lib.hid (Nat.le_trans HBz.out (Below.size hE4))
        have hxa := hxa.below hE4
        have hxs := hxs.below hE4
        have hxr := hxr.below hE4
        have hxt := hxt.below hE4
        have hbx := hbx.below hE4
        have hA := hA.below hE4
        have hSn := hSn.below hE4
        have hRn := hRn.below hE4
        have hTn := hTn.below hE4
        clear g0 g1 k0 k1 hE4 hqv hb' hbz
        go_upto_region 6 with fail
        obtain ⟨W5, hW5, hE5, hxq, hxu⟩ := box_pair w4 qn qo qk qc un uo uk uc
        rw [← hW5]
        clear hW5
        have la := hxa.lt
        have ls := hxs.lt
        have lr := hxr.lt
        have lt' := hxt.lt
        have lb := hbx.lt
        have hxa := hxa.below hE5
        have hxs := hxs.below hE5
        have hxr := hxr.below hE5
        have hxt := hxt.below hE5
        have hbx := hbx.below hE5
        have hA := hA.below hE5
        have hSn := hSn.below hE5
        have hRn := hRn.below hE5
        have hTn := hTn.below hE5
        have hq := hq.below hE5
        have hu := hu.below hE5
        have HBel := Lib.hid (HBel.out.trans (Below.mono hE5 HBz.out))
        generalize w4.heap.size = D at *
        have hlq := within_limbs hq HML.out hqw
        clear hE5
        obtain ⟨y1, y2, y3, y4, y5⟩ := two_setd (xn := rn) (xo := ro) (xk := rk) (xc := rc) (yn := un) (yo := uo) (yk := uk) (yc := uc) hxa hxr (by omega)
        have HY := Lib.hid (And.intro y1 (And.intro y2 (And.intro y3 (And.intro y4 y5))))
        clear y1 y2 y3 y4 y5
        have k0 := hxr.c0
        have k1 := hxr.c1
        have k2 := hxr.f 0
        have k3 := hxr.f 1
        have l0 := hxa.c0
        have l1 := hxa.c1
        have l2 := hxa.f 0
        have l3 := hxa.f 1
        have t0 := hxu.c0
        have t1 := hxu.c1
        have n1 : ¬ B + 3 = g := by omega
        have n2 : ¬ g = B + 3 := (by omega)
        have n3 : ¬ g = D + 1 := by omega
        have n4 : ¬ D + 1 = g := by omega
        have n5 : ¬ B + 3 = D + 1 := by omega
        have n6 : ¬ D + 1 = B + 3 := by omega
        first | go_region | fail "r6"
        have z3 := Below.trans HBel.out (HY.out.2.2.1 B (by omega) (by omega))
        have HBel := Lib.hid z3
        have z1 := HY.out.1
        have z2 := HY.out.2.1
        have z4 := HY.out.2.2.2.1
        have z5 := HY.out.2.2.2.2
        have HXA := Lib.hid z1
        have HXR := Lib.hid z2
        have HXS := Lib.hid (z5 _ _ _ _ _ hxs (by omega) (by omega))
        have HXT := Lib.hid (z5 _ _ _ _ _ hxt (by omega) (by omega))
        have HXQ := Lib.hid (z5 _ _ _ _ _ hxq (by omega) (by omega))
        have HHBX := Lib.hid (z5 _ _ _ _ _ hbx (by omega) (by omega))
        have HRn := Lib.hid (bn_tr z4 hRn)
        have HSn := Lib.hid (bn_tr z4 hSn)
        have HTn := Lib.hid (bn_tr z4 hTn)
        have HU := Lib.hid (bn_tr z4 hu)
        have HQ := Lib.hid (bn_tr z4 hq)
        clear z1 z2 z3 z4 z5 hxa hxr hxs hxt hxq hxu hbx hRn hSn hTn hu hq hA HY k0 k1 k2 k3 l0 l1 l2 l3 t0 t1 n1 n2 n3 n4 n5 n6
        go_upto_region 7 with fail
        generalize ((((W5.setCell ⟨g, 0, none⟩ (.bool rn)).setCell ⟨g, 1, none⟩ (.slice ro rk rc)).setCell ⟨B + 3, 0, none⟩ (.bool un)).setCell ⟨B + 3, 1, none⟩ (.slice uo uk uc)).drew = V6 at *
        have HBz6 := Lib.hid (show B ≤ V6.heap.size by have := Below.size HBel.out; have := HBE.out; omega)
        have hxq := HXQ.out
        have hxs := HXS.out
        have hxt := HXT.out
        have q0 := hxq.c0
        have q1 := hxq.c1
        have j0 := hxs.c0
        have j1 := hxs.c1
        have i0 := hxt.c0
        have i1 := hxt.c1
        go_region_with (first
          | (go_at_call 20; refine (mul_any _ _ _ _ _ _ _ _ qv t _ (by exact (HQ.out.bg (by omega)).below (by first | exact (Below.refl _ _).drew | exact Ext.refl _)) (by exact (HTn.out.bg (by omega)).below (by first | exact (Below.refl _ _).drew | exact Ext.refl _)) (Or.inl (by omega))).mono ?_; rintro e w5 ⟨mn', mo', mk', mc', rfl, hm, hw5⟩; have ex1 : Ext V6 w5 := Ext.trans (by first | exact (Below.refl _ _).drew | exact Ext.refl _) hw5; clear q0 q1 j0 j1 i0 i1; have c1 := HXS.out.below ex1; have j0 := c1.c0; have j1 := c1.c1; have c2 := HXT.out.below ex1; have i0 := c2.c0; have i1 := c2.c1)
          | (go_at_call 30; refine (sub_any _ _ _ _ _ _ _ _ s (qv * t) _ (by exact (HSn.out.bg (by omega)).below ex1) (by exact hm.bg (Nat.le_trans (within_prod hm HML.out hqw htm) (by omega)))).mono ?_; rintro e w6 ⟨zn, zo, zk, zc, rfl, hz, hw6⟩; have ex2 : Ext V6 w6 := ex1.trans hw6; clear j0 j1 i0 i1; have c3 := HXS.out.below ex2; have j0 := c3.c0; have j1 := c3.c1; have j2 := c3.f 0; have j3 := c3.f 1; have c4 := HXT.out.below ex2; have i0 := c4.c0; have i1 := c4.c1; have i2 := c4.f 0; have i3 := c4.f 1))
        all_goals
          obtain ⟨y1, y2, y3, y4, y5⟩ := two_set (xn := vn) (xo := vo) (xk := vk) (xc := vc) (yn := zn) (yo := zo) (yk := zk) (yc := zc) c3 c4 (by omega)
          rw [HNV.out] at hz
          have hxr9 := y5 _ _ _ _ _ (HXR.out.below ex2) (by omega) (by omega)
          have hU9 := bn_tr y4 (HU.out.below ex2)
          have HALL := Lib.hid (show GA _ (g) (b : Int) ∧ NA _ (h) t ∧ NA _ (B + 3) (b' : Int) ∧ NA _ (B + 4) nv ∧ Box _ B bn bo bk bc ∧ Below B w _ from ⟨⟨_, _, _, _, y5 _ _ _ _ _ (HXA.out.below ex2) (by omega) (by omega), (bn_tr y4 (HRn.out.below ex2)).bg (by omega), by omega⟩, ⟨_, _, _, _, y1, bn_tr y4 (HTn.out.below ex2)⟩, ⟨_, _, _, _, hxr9, hU9⟩, ⟨_, _, _, _, y2, bn_tr y4 hz⟩, y5 _ _ _ _ _ (HHBX.out.below ex2) (by omega) (by omega), Below.trans (Below.trans HBel.out (ex2.mono HBz6.out)) (y3 B (by omega) (by omega))⟩)
          have HV2 := Lib.hid (numAt_is (g := B + 3) (x := b') ⟨_, _, _, _, hxr9, hU9⟩)
          clear y1 y2 y3 y4 y5 hz hxr9 hU9 c1 c2 c3 c4 ex1 ex2 hm hw5 hw6 j0 j1 j2 j3 i0 i1 i2 i3 hxq hxs hxt
          go_wp2
          go_roundw
        any_goals (rw [HNUM.out, HV2.out]; omega)
        all_goals exact ⟨f2, b', (b : Int), t, nv, HALL.out.1, HALL.out.2.1, HALL.out.2.2.1, HALL.out.2.2.2.1, HALL.out.2.2.2.2.1, HI2, HALL.out.2.2.2.2.2⟩
      · have hSb : ¬ S < (b : Int) := fun h => hgo ((HBD.out (b : Int) (by omega)).1 h)
        have hc0 : ¬ 0 < c := by rw [← hc]; unfold sgn3; split <;> (try split) <;> omega
        have hRR : ((b : Int), t) = (R1, R2) := by
          have h1 := HI.out.2.2
          obtain ⟨f2, rfl⟩ : ∃ f2, f = f2 + 1 := ⟨f - 1, by have := HI.out.2.1; omega⟩
          rwa [eu_stop hgo] at h1
        have hR1 : (b : Int) = R1 := congrArg Prod.fst hRR
        have hR2 : t = R2 := congrArg Prod.snd hRR
        obtain ⟨y1, y2, y3, y4, y5⟩ := two_setd (xn := rn) (xo := ro) (xk := rk) (xc := rc) (yn := vn) (yo := vo) (yk := vk) (yc := vc) hxr hxt (by omega)
        have z0 := y1.c0
        have z1 := y1.c1
        have z2 := y2.c0
        have z3 := y2.c1
        have HF := Lib.hid (show Bn _ rn ro rk rc R1 ∧ Bn _ vn vo vk vc R2 ∧ Below B w _ from ⟨hR1 ▸ bn_tr y4 hRn, hR2 ▸ bn_tr y4 hTn, Below.trans HBel.out (y3 B (by omega) (by omega))⟩)
        have k0 := hxr.c0
        have k1 := hxr.c1
        have k2 := hxr.f 0
        have k3 := hxr.f 1
        have l0 := hxt.c0
        have l1 := hxt.c1
        have l2 := hxt.f 0
        have l3 := hxt.f 1
        clear y1 y2 y3 y4 y5 hc hSb hRR hR1 hR2 hgo hxa hxs hxr hxt hbx hA hSn hRn hTn HI
        go_upto_region 8 with fail
        first | go_region | fail "r8"
        all_goals
          go_wp2
          refine bodyPost_ret (v := .tuple #[.agg #[.bool rn, .slice ro rk rc], .agg #[.bool vn, .slice vo vk vc]]) (by simp [results, Tryz.results43, go_sem, z0, z1, z2, z3]) rfl ⟨_, _, _, _, _, _, _, _, rfl, HF.out.1, HF.out.2.1, by show Below _ _ _; rw [HBE.out]; exact HF.out.2.2⟩
end Go.Proofs.YtlpclahlolhjfaaGreatDoor
