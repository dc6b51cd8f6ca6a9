/- AccumExact returns true, from what its callees do. -/
import Derived.Test.YtilmighjcjgccaaGreatDoorCRefASum
import Derived.Test.YtilmighjcjgccaaGreatDoorCARR
import Derived.Test.YtilmighjcjgccaaGreatDoorCTwinFs
import Derived.Test.YtilmighjcjgccaaGreatDoorHh
namespace Go.Proofs.YtilmighjcjgccaaGreatDoor
open Go Go.RowKit

set_option maxRecDepth 100000 in
set_option maxHeartbeats 16000000 in
theorem aexact_yes (f : Nat) (hf : f < 18446744073709551616) (ao bo : Option Addr) (n m cap cb : Nat) (x y : List Nat) (w : World) (hx : Fs w ao n cap x) (hy : Fs w bo m cb y) (hT : Table w) (hT6 : Table64 w) (hn : n ≤ 10) (hm : m ≤ 10) :
    Calls Tryz.prog 5 #[.slice ao n cap, .slice bo m cb, .int .u64 (f : Int)] w fun e w' => e = .returned (.bool true) ∧ Ext w w' := by
  have HTT := Lib.hid (fun W (hE : Ext w W) => hT.below hE)
  have HT6 := Lib.hid (fun W (hE : Ext w W) => hT6.below hE)
  have AW := Lib.hid (fun W (hE : Ext w W) => aawake_any W (HTT.out W hE) (HT6.out W hE))
  have HSUM := Lib.hid (show foldS (x.map fdy) = dtotal (x.map fdy) from fold_floats (by rw [hx.len]; omega))
  obtain ⟨D, E, hD⟩ : ∃ D E, dotR x y = (D, E) := ⟨_, _, rfl⟩
  obtain ⟨R, G, hR⟩ : ∃ R G, resR f x y = (R, G) := ⟨_, _, rfl⟩
  have HD := Lib.hid hD
  have HR := Lib.hid hR
  clear hT hT6 hD hR
  go_enter Tryz.func5, Tryz.ntmps5
  go_wp2_with fail
  refine (twinFloats_any ao n cap x w hx (by omega)).mono ?_
  rintro e w1 ⟨lo, lc, rfl, hl, hE⟩
  have hx := hx.below hE
  have hy := hy.below hE
  go_wp2_with fail
  refine (twinFloats_any bo m cb y w1 hy (by omega)).mono ?_
  rintro e w2 ⟨mo, mc, rfl, hm2, hw⟩
  have hx := hx.below hw
  have hy := hy.below hw
  have hl := hl.below hw
  have hE := Ext.trans hE hw
  have hm0 := hm
  have hm := hm2
  clear hw hm2
  go_wp2_with fail
  refine (adotR_any lo mo n m lc mc x y _ hl hm (HTT.out _ hE) (HT6.out _ hE) (by omega) D E HD.out).mono ?_
  rintro e w3 ⟨v, rfl, hvp, hw⟩
  obtain ⟨pb, pn, po, pk, pc, pe, rfl⟩ := hvp.parts
  have hE := Ext.trans hE hw
  have hx := hx.below hw
  have hy := hy.below hw
  have hl := hl.below hw
  have hm := hm.below hw
  go_upto_region 5 with fail
  obtain ⟨V, hV, hVB, hbp, hvz⟩ := dbox_new w3 pb pn po pk pc pe
  rw [← hV]
  clear hV
  have hE := Ext.trans hE hVB
  have hvp := hvp.ext hVB
  have hx := hx.below hVB
  have hy := hy.below hVB
  have hl := hl.below hVB
  have hm := hm.below hVB
  clear hvz hVB hw
  generalize w3.heap.size = Pp at *
  go_wp2_with fail
  refine (refADot_any ao bo n m cap cb x y _ hx hy (HTT.out _ hE) (by omega) D E HD.out).mono ?_
  rintro e w4 ⟨v, rfl, hvq, hw⟩
  obtain ⟨qb, qn, qo, qk, qc, qe, rfl⟩ := hvq.parts
  have hE := Ext.trans hE hw
  have hvp := hvp.ext hw
  have hbp := hbp.ext hw
  have hx := hx.below hw
  have hy := hy.below hw
  have hl := hl.below hw
  have hm := hm.below hw
  go_upto_region 6 with fail
  obtain ⟨V, hV, hVB, hbq, hvz⟩ := dbox_new w4 qb qn qo qk qc qe
  rw [← hV]
  clear hV
  have hE := Ext.trans hE hVB
  have hvq := hvq.ext hVB
  have hvp := hvp.ext hVB
  have hbp := hbp.ext hVB
  have hx := hx.below hVB
  have hy := hy.below hVB
  have hl := hl.below hVB
  have hm := hm.below hVB
  clear hvz hVB hw
  generalize w4.heap.size = Pq at *
  go_wp2_with fail
  refine (aresR_any f hf lo mo n m lc mc x y _ hl hm (HTT.out _ hE) (HT6.out _ hE) (by omega) R G HR.out).mono ?_
  rintro e w5 ⟨v, rfl, hvr, hw⟩
  obtain ⟨rb, rn, ro, rk, rc, re, rfl⟩ := hvr.parts
  have hE := Ext.trans hE hw
  have hvp := hvp.ext hw
  have hbp := hbp.ext hw
  have hvq := hvq.ext hw
  have hbq := hbq.ext hw
  have hx := hx.below hw
  have hy := hy.below hw
  have hl := hl.below hw
  have hm := hm.below hw
  go_upto_region 7 with fail
  obtain ⟨V, hV, hVB, hbr, hvz⟩ := dbox_new w5 rb rn ro rk rc re
  rw [← hV]
  clear hV
  have hE := Ext.trans hE hVB
  have hvr := hvr.ext hVB
  have hvp := hvp.ext hVB
  have hbp := hbp.ext hVB
  have hvq := hvq.ext hVB
  have hbq := hbq.ext hVB
  have hx := hx.below hVB
  have hy := hy.below hVB
  have hl := hl.below hVB
  have hm := hm.below hVB
  clear hvz hVB hw
  generalize w5.heap.size = Pr at *
  go_wp2_with fail
  refine (refARes_any f hf ao bo n m cap cb x y _ hx hy (HTT.out _ hE) (by omega) R G HR.out).mono ?_
  rintro e w6 ⟨v, rfl, hvs, hw⟩
  obtain ⟨sb, sn, so, sk, sc, se, rfl⟩ := hvs.parts
  have hE := Ext.trans hE hw
  have hvp := hvp.ext hw
  have hbp := hbp.ext hw
  have hvq := hvq.ext hw
  have hbq := hbq.ext hw
  have hvr := hvr.ext hw
  have hbr := hbr.ext hw
  have hx := hx.below hw
  have hy := hy.below hw
  have hl := hl.below hw
  have hm := hm.below hw
  go_upto_region 8 with fail
  obtain ⟨V, hV, hVB, hbs, hvz⟩ := dbox_new w6 sb sn so sk sc se
  rw [← hV]
  clear hV
  have hE := Ext.trans hE hVB
  have hvs := hvs.ext hVB
  have hvp := hvp.ext hVB
  have hbp := hbp.ext hVB
  have hvq := hvq.ext hVB
  have hbq := hbq.ext hVB
  have hvr := hvr.ext hVB
  have hbr := hbr.ext hVB
  have hx := hx.below hVB
  have hy := hy.below hVB
  have hl := hl.below hVB
  have hm := hm.below hVB
  clear hvz hVB hw
  generalize w6.heap.size = Ps at *
  have HC := Lib.hid (show ∀ wx, Ext V wx → (wx.cell? ⟨Pp, 0, none⟩ = some (.bool pb) ∧ wx.cell? ⟨Pp, 1, none⟩ = some (.bool pn) ∧ wx.cell? ⟨Pp, 2, none⟩ = some (.slice po pk pc) ∧ wx.cell? ⟨Pp, 3, none⟩ = some (.int .i64 pe)) ∧ (wx.cell? ⟨Pq, 0, none⟩ = some (.bool qb) ∧ wx.cell? ⟨Pq, 1, none⟩ = some (.bool qn) ∧ wx.cell? ⟨Pq, 2, none⟩ = some (.slice qo qk qc) ∧ wx.cell? ⟨Pq, 3, none⟩ = some (.int .i64 qe)) ∧ (wx.cell? ⟨Pr, 0, none⟩ = some (.bool rb) ∧ wx.cell? ⟨Pr, 1, none⟩ = some (.bool rn) ∧ wx.cell? ⟨Pr, 2, none⟩ = some (.slice ro rk rc) ∧ wx.cell? ⟨Pr, 3, none⟩ = some (.int .i64 re)) ∧ (wx.cell? ⟨Ps, 0, none⟩ = some (.bool sb) ∧ wx.cell? ⟨Ps, 1, none⟩ = some (.bool sn) ∧ wx.cell? ⟨Ps, 2, none⟩ = some (.slice so sk sc) ∧ wx.cell? ⟨Ps, 3, none⟩ = some (.int .i64 se)) from fun wx h => ⟨⟨(hbp.ext h).c0, (hbp.ext h).c1, (hbp.ext h).c2, (hbp.ext h).c3⟩, ⟨(hbq.ext h).c0, (hbq.ext h).c1, (hbq.ext h).c2, (hbq.ext h).c3⟩, ⟨(hbr.ext h).c0, (hbr.ext h).c1, (hbr.ext h).c2, (hbr.ext h).c3⟩, ⟨(hbs.ext h).c0, (hbs.ext h).c1, (hbs.ext h).c2, (hbs.ext h).c3⟩⟩)
  have HV := Lib.hid hE
  have HVP := Lib.hid (fun wx (h : Ext V wx) => hvp.ext h)
  have HVQ := Lib.hid (fun wx (h : Ext V wx) => hvq.ext h)
  have HVR := Lib.hid (fun wx (h : Ext V wx) => hvr.ext h)
  have HVS := Lib.hid (fun wx (h : Ext V wx) => hvs.ext h)
  have HXF := Lib.hid (fun wx (h : Ext V wx) => hx.below h)
  have HYF := Lib.hid (fun wx (h : Ext V wx) => hy.below h)
  have HLF := Lib.hid (fun wx (h : Ext V wx) => hl.below h)
  have HMF := Lib.hid (fun wx (h : Ext V wx) => hm.below h)
  clear hbp hbq hbr hbs hvp hvq hvr hvs hx hy hl hm hE
  have t1 : (E == E) = true := by simp
  have t2 : (G == G) = true := by simp
  have hh0 : Ext V V := Ext.refl _
  go_wp2_with fail
  refine (asum_any _ _ _ _ _ (HLF.out _ hh0) (HTT.out _ (Ext.trans HV.out hh0)) (HT6.out _ (Ext.trans HV.out hh0)) (by omega)).mono ?_
  rintro e w7 ⟨v7, rfl, hv7, hw7⟩
  have hh1 := Ext.trans hh0 hw7
  go_wp2_with fail
  refine (refASum_any _ _ _ _ _ (HXF.out _ hh1) (HTT.out _ (Ext.trans HV.out hh1)) (by omega)).mono ?_
  rw [HSUM.out]
  rintro e w8 ⟨v8, rfl, hv8, hw8⟩
  have hh2 := Ext.trans hh1 hw8
  have hv7 := hv7.ext hw8
  go_wp2_with fail
  refine (kitDyad_same _ _ _ _ hv7 hv8).mono ?_
  rintro e w9 ⟨rfl, hw9⟩
  have hh3 := Ext.trans hh2 hw9
  obtain ⟨⟨kp0, kp1, kp2, kp3⟩, ⟨kq0, kq1, kq2, kq3⟩, ⟨kr0, kr1, kr2, kr3⟩, ks0, ks1, ks2, ks3⟩ := HC.out _ hh3
  clear hv7 hv8 hw7 hw8 hw9
  go_wp2_with fail
  refine (kitDyad_same _ _ _ _ (HVP.out _ hh3) (HVQ.out _ hh3)).mono ?_
  rintro e w10 ⟨rfl, hw10⟩
  have hh4 := Ext.trans hh3 hw10
  clear kp0 kp1 kp2 kp3 kq0 kq1 kq2 kq3 kr0 kr1 kr2 kr3 ks0 ks1 ks2 ks3
  obtain ⟨⟨kp0, kp1, kp2, kp3⟩, ⟨kq0, kq1, kq2, kq3⟩, ⟨kr0, kr1, kr2, kr3⟩, ks0, ks1, ks2, ks3⟩ := HC.out _ hh4
  go_wp2_with fail
  refine (kitDyad_same _ _ _ _ (HVR.out _ hh4) (HVS.out _ hh4)).mono ?_
  rintro e w11 ⟨rfl, hw11⟩
  have hh5 := Ext.trans hh4 hw11
  clear kp0 kp1 kp2 kp3 kq0 kq1 kq2 kq3 kr0 kr1 kr2 kr3 ks0 ks1 ks2 ks3
  go_wp2_with fail
  refine (kitFloats_any _ _ _ _ _ _ _ (HLF.out _ hh5) (HXF.out _ hh5) (by omega)).mono ?_
  rintro e w12 ⟨rfl, hw12⟩
  have hh6 := Ext.trans hh5 hw12
  go_wp2_with fail
  refine (kitFloats_any _ _ _ _ _ _ _ (HMF.out _ hh6) (HYF.out _ hh6) (by omega)).mono ?_
  rintro e w13 ⟨rfl, hw13⟩
  have hh7 := Ext.trans hh6 hw13
  go_wp2_with fail
  refine (AW.out _ (Ext.trans HV.out hh7)).mono ?_
  rintro e w14 ⟨rfl, hw14⟩
  have hh8 := Lib.hid (Ext.trans (Ext.trans HV.out hh7) hw14)
  go_wp2
  go_ret
  exact ⟨rfl, hh8.out⟩

set_option maxRecDepth 100000 in
set_option maxHeartbeats 4000000 in
theorem aexact_any (f : Nat) (hf : f < 18446744073709551616) (ao bo : Option Addr) (n m cap cb : Nat) (w : World) (hr0 : n ≤ 1000000 → ∃ l, Fs w ao n cap l) (hr1 : m ≤ 1000000 → ∃ l, Fs w bo m cb l) (hT : Table w) (hT6 : Table64 w) :
    Calls Tryz.prog 5 #[.slice ao n cap, .slice bo m cb, .int .u64 (f : Int)] w fun e w' => e = .returned (.bool true) ∧ Ext w w' := by
  by_cases hn : n ≤ 10
  · by_cases hm : m ≤ 10
    · obtain ⟨x, hx⟩ := hr0 (by omega)
      obtain ⟨y, hy⟩ := hr1 (by omega)
      exact aexact_yes f hf ao bo n m cap cb x y w hx hy hT hT6 hn hm
    · have AW := Lib.hid (aawake_any w hT hT6)
      clear hr0 hr1 hT hT6
      have h2 : (m : Int) > 10 := by omega
      have h1 : ¬ (n : Int) > 10 := by omega
      go_enter Tryz.func5, Tryz.ntmps5
      go_wp2_with fail
      refine AW.out.mono ?_
      rintro e w9 ⟨rfl, h9⟩
      go_wp2
      go_ret
      exact ⟨rfl, h9⟩
  · have AW := Lib.hid (aawake_any w hT hT6)
    clear hr0 hr1 hT hT6
    have h1 : (n : Int) > 10 := by omega
    go_enter Tryz.func5, Tryz.ntmps5
    go_wp2_with fail
    refine AW.out.mono ?_
    rintro e w9 ⟨rfl, h9⟩
    go_wp2
    go_ret
    exact ⟨rfl, h9⟩
theorem aexact_int (b : Int) (b0 : 0 ≤ b) (b1 : b < 18446744073709551616) (ao bo : Option Addr) (n cap m cb : Nat) (w : World) (hr0 : n ≤ 1000000 → ∃ l, Fs w ao n cap l) (hr1 : m ≤ 1000000 → ∃ l, Fs w bo m cb l) (hT : Table w) (hT6 : Table64 w) :
    Calls Tryz.prog 5 #[.slice ao n cap, .slice bo m cb, .int .u64 b] w fun e w' => e = .returned (.bool true) ∧ Ext w w' := by
  obtain ⟨f, rfl⟩ : ∃ f : Nat, b = (f : Int) := ⟨b.toNat, by omega⟩
  exact aexact_any f (by omega) ao bo n m cap cb w hr0 hr1 hT hT6
end Go.Proofs.YtilmighjcjgccaaGreatDoor
