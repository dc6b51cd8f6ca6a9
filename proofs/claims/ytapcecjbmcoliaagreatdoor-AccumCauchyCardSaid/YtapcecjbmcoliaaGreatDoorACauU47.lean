import Derived.Test.YtapcecjbmcoliaaGreatDoorACauU41
import Derived.Test.YtapcecjbmcoliaaGreatDoorACauU45
import Derived.Test.YtapcecjbmcoliaaGreatDoorACauU46
import Derived.Test.YtapcecjbmcoliaaGreatDoorACauU32
import Derived.Test.YtapcecjbmcoliaaGreatDoorACauU24
namespace Go.Proofs.YtapcecjbmcoliaaGreatDoor
open Go Go.RowKit

set_option maxRecDepth 100000 in
set_option maxHeartbeats 16000000 in
theorem acau_yes (ao bo : Option Addr) (n ca cb : Nat) (x y : List Nat) (w : World) (hx : Fs w ao n ca x) (hy : Fs w bo n cb y) (hT : Table w) (hT6 : Table64 w) (hn : n ≤ 10) (hf : x.all finB = true) (hg : y.all finB = true) :
    Calls Tryz.prog 3 #[.slice ao n ca, .slice bo n cb] w fun e w' => e = .returned (.bool true) ∧ Ext w w' := by
  obtain ⟨A, B, C, c1, c2, c3, c4, e1, e2, e3, b1, b2, b3, b4, ⟨q1, r1⟩, ⟨q2, r2⟩, ⟨q3, r3⟩, q4, r4⟩ := cauchy_facts (by have := hx.len; omega) (by rw [hx.len, hy.len]) hf hg
  have HX := Lib.hid (fun W (hE : Ext w W) => hx.below hE)
  have HY := Lib.hid (fun W (hE : Ext w W) => hy.below hE)
  have HTT := Lib.hid (fun W (hE : Ext w W) => hT.below hE)
  have HT6 := Lib.hid (fun W (hE : Ext w W) => hT6.below hE)
  have AW := Lib.hid (fun W (hE : Ext w W) => aawake_any W (HTT.out W hE) (HT6.out W hE))
  have FX := Lib.hid (refFinite_any _ _ _ _ w hx (by omega) true hf)
  have FY := Lib.hid (refFinite_any _ _ _ _ w hy (by omega) true hg)
  have C1 := Lib.hid (fun W (hE : Ext w W) => adotR_any ao bo n n ca cb x y W (HX.out W hE) (HY.out W hE) (HTT.out W hE) (HT6.out W hE) (by omega) A 0 e1)
  have C2 := Lib.hid (fun W (hE : Ext w W) => adotR_any ao ao n n ca ca x x W (HX.out W hE) (HX.out W hE) (HTT.out W hE) (HT6.out W hE) (by omega) B 0 e2)
  have C3 := Lib.hid (fun W (hE : Ext w W) => adotR_any bo bo n n cb cb y y W (HY.out W hE) (HY.out W hE) (HTT.out W hE) (HT6.out W hE) (by omega) C 0 e3)
  have CI := Lib.hid (fun W (hE : Ext w W) => anormInf_any ao n ca x W (HX.out W hE) (HT6.out W hE) (by omega))
  have CO := Lib.hid (fun W (hE : Ext w W) => anormOne_any ao n ca x W (HX.out W hE) (HTT.out W hE) (HT6.out W hE) (by omega))
  have CS := Lib.hid (fun W (hE : Ext w W) => asum_any ao n ca x W (HX.out W hE) (HTT.out W hE) (HT6.out W hE) (by omega))
  clear hx hy hT hT6 hf hg e1 e2 e3
  generalize fdy (gmax x) = I at *
  generalize dtotal ((x.map fabsF).map fdy) = O at *
  generalize dtotal (x.map fdy) = S at *
  have B1 := Lib.hid b1
  have B2 := Lib.hid b2
  have B3 := Lib.hid b3
  have B4 := Lib.hid b4
  have Q1 := Lib.hid q1
  have Q2 := Lib.hid q2
  have Q3 := Lib.hid q3
  have Q4 := Lib.hid q4
  have RR := Lib.hid (And.intro r1 (And.intro r2 (And.intro r3 r4)))
  clear b1 b2 b3 b4 q1 q2 q3 q4 r1 r2 r3 r4 HX HY
  have hnl : ¬ (n : Int) > 10 := by omega
  have hne : ((n : Int) != n) = false := by simp
  have hz : ((0 : Int) != 0) = false := by decide
  clear hn
  go_enter Tryz.func3, Tryz.ntmps3
  go_wp2_with fail
  refine FX.out.mono ?_
  rintro e w1 ⟨rfl, rfl⟩
  go_wp2_with fail
  refine FY.out.mono ?_
  rintro e w1 ⟨rfl, rfl⟩
  have h0 : Ext w w := Ext.refl w
  go_wp2_with fail
  refine (C1.out _ h0).mono ?_
  rintro e w3 ⟨v, rfl, hv, hE⟩
  have hx1 := Ext.trans h0 hE
  have hE1 := hE
  clear hE
  obtain ⟨pb, pn, po, pk, pc, pe, rfl⟩ := hv.parts
  go_upto_region 4 with fail
  obtain ⟨V, hV, hB, bp, hsz⟩ := dbox_new w3 pb pn po pk pc pe
  rw [← hV]
  clear hV hsz
  have hB : Ext w3 V := hB
  have dp := (hv.ext hB).dg
  have hV : Ext w V := Ext.trans hx1 hB
  clear hE1
  clear hx1 hB hv
  generalize w3.heap.size = P at *
  go_wp2_with fail
  refine (C2.out _ hV).mono ?_
  rintro e w4 ⟨v, rfl, hv, hE⟩
  have hx1 := Ext.trans hV hE
  have hE1 := hE
  clear hE
  obtain ⟨qb, qn, qo, qk, qc, qe, rfl⟩ := hv.parts
  go_upto_region 5 with fail
  obtain ⟨U, hV, hB, bq, hsz⟩ := dbox_new w4 qb qn qo qk qc qe
  rw [← hV]
  clear hV hsz
  have hB : Ext w4 U := hB
  have dq := (hv.ext hB).dg
  have hU : Ext w U := Ext.trans hx1 hB
  have hVU := Ext.trans hE1 hB
  clear hE1
  clear hx1 hB hv
  generalize w4.heap.size = Q at *
  go_wp2_with fail
  refine (C3.out _ hU).mono ?_
  rintro e w5 ⟨v, rfl, hv, hE⟩
  have hx1 := Ext.trans hU hE
  have hE1 := hE
  clear hE
  obtain ⟨zb, zn, zo, zk, zc, ze, rfl⟩ := hv.parts
  go_upto_region 6 with fail
  obtain ⟨Y, hV, hB, bz, hsz⟩ := dbox_new w5 zb zn zo zk zc ze
  rw [← hV]
  clear hV hsz
  have hB : Ext w5 Y := hB
  have dz := (hv.ext hB).dg
  have hY : Ext w Y := Ext.trans hx1 hB
  have hUY := Ext.trans hE1 hB
  clear hE1
  clear hx1 hB hv
  generalize w5.heap.size = R at *
  have bp := (bp.ext hVU).ext hUY
  have bq := bq.ext hUY
  have dp := Lib.hid (fun wx (h : Ext Y wx) => ((dp.ext hVU).ext hUY).ext h)
  have dq := Lib.hid (fun wx (h : Ext Y wx) => (dq.ext hUY).ext h)
  have dz := Lib.hid (fun wx (h : Ext Y wx) => dz.ext h)
  have HC := Lib.hid (show ∀ wx, Ext Y wx → (wx.cell? ⟨P, 0, none⟩ = some (.bool pb) ∧ wx.cell? ⟨P, 1, none⟩ = some (.bool pn) ∧ wx.cell? ⟨P, 2, none⟩ = some (.slice po pk pc) ∧ wx.cell? ⟨P, 3, none⟩ = some (.int .i64 pe)) ∧ (wx.cell? ⟨Q, 0, none⟩ = some (.bool qb) ∧ wx.cell? ⟨Q, 1, none⟩ = some (.bool qn) ∧ wx.cell? ⟨Q, 2, none⟩ = some (.slice qo qk qc) ∧ wx.cell? ⟨Q, 3, none⟩ = some (.int .i64 qe)) ∧ (wx.cell? ⟨R, 0, none⟩ = some (.bool zb) ∧ wx.cell? ⟨R, 1, none⟩ = some (.bool zn) ∧ wx.cell? ⟨R, 2, none⟩ = some (.slice zo zk zc) ∧ wx.cell? ⟨R, 3, none⟩ = some (.int .i64 ze)) from fun wx h => ⟨⟨(bp.ext h).c0, (bp.ext h).c1, (bp.ext h).c2, (bp.ext h).c3⟩, ⟨(bq.ext h).c0, (bq.ext h).c1, (bq.ext h).c2, (bq.ext h).c3⟩, (bz.ext h).c0, (bz.ext h).c1, (bz.ext h).c2, (bz.ext h).c3⟩)
  have BB := Lib.hid bq
  have HTZ := Lib.hid (fun wx (h : Ext Y wx) => HTT.out wx (Ext.trans hY h))
  clear bp bq bz hV hU hVU hUY
  have st : Ext Y Y := Ext.refl _
  obtain ⟨⟨p0, p1, p2, p3⟩, ⟨q0, q1, q2, q3⟩, z0, z1, z2, z3⟩ := HC.out _ st
  go_upto_region 8 with fail
  have st : Ext Y _ := st.drew
  go_cut [11, 12] from 70 (fun p q wx => p = .int .i64 c1 ∧ q = .bool true ∧ Ext Y wx)
  case first =>
    go_region_held3 (fun wx => (wx.cell? ⟨P, 0, none⟩ = some (.bool pb) ∧ wx.cell? ⟨P, 1, none⟩ = some (.bool pn) ∧ wx.cell? ⟨P, 2, none⟩ = some (.slice po pk pc) ∧ wx.cell? ⟨P, 3, none⟩ = some (.int .i64 pe)) ∧ (wx.cell? ⟨Q, 0, none⟩ = some (.bool qb) ∧ wx.cell? ⟨Q, 1, none⟩ = some (.bool qn) ∧ wx.cell? ⟨Q, 2, none⟩ = some (.slice qo qk qc) ∧ wx.cell? ⟨Q, 3, none⟩ = some (.int .i64 qe)) ∧ (wx.cell? ⟨R, 0, none⟩ = some (.bool zb) ∧ wx.cell? ⟨R, 1, none⟩ = some (.bool zn) ∧ wx.cell? ⟨R, 2, none⟩ = some (.slice zo zk zc) ∧ wx.cell? ⟨R, 3, none⟩ = some (.int .i64 ze)))
      (first | exact HC.out _ (by assumption))
      (first
        | (go_at_call 8; (with_reducible refine (dmulK_any _ _ A A _ (dp.out _ (by assumption)) (dp.out _ (by assumption)) (HTZ.out _ (by assumption)) ⟨B1.out, B1.out⟩).mono ?_); rintro r wn ⟨v3, rfl, h3, hE⟩; (try have h4 := h4.ext hE); have st : Ext Y wn := Ext.trans (by assumption) hE; clear hE)
        | (go_at_call 8; (with_reducible refine (dmulK_any _ _ B C _ (dq.out _ (by assumption)) (dz.out _ (by assumption)) (HTZ.out _ (by assumption)) ⟨B2.out, B3.out⟩).mono ?_); rintro r wn ⟨v4, rfl, h4, hE⟩; (try have h3 := h3.ext hE); have st : Ext Y wn := Ext.trans (by assumption) hE; clear hE)
        | (go_at_call 7; (refine (dcmp_at (by exact h3.dg) (by exact h4.dg) (HTZ.out _ (by assumption)) Q1.out).mono ?_); rintro r wk ⟨rfl, hE⟩; have stk : Ext Y wk := Ext.trans (by assumption) hE; clear hE))
    all_goals
      have EF : Ext Y wk := by assumption
      go_wp2
      go_meet
    all_goals
      exact ⟨rfl, rfl, EF⟩
  case rest =>
    obtain ⟨rfl, rfl, hE⟩ := hcut
    clear st
    have st : Ext Y wc := hE
    clear hE p0 p1 p2 p3 q0 q1 q2 q3 z0 z1 z2 z3
    have hX := Ext.trans hY st
    go_wp2_with fail
    refine (CI.out _ hX).mono ?_
    rintro e w6 ⟨v, rfl, hv, hE⟩
    have hx6 := Ext.trans hX hE
    have hYY := Ext.trans st hE
    clear hE hX
    obtain ⟨sb, sn, so, sk, sc, se, rfl⟩ := hv.parts
    go_wp2_with fail
    refine (CO.out _ hx6).mono ?_
    rintro e w7 ⟨v, rfl, hv2, hE⟩
    have hv := hv.ext hE
    have hYZ := Ext.trans hYY hE
    clear hE hx6 hYY
    obtain ⟨kb, kn, ko, kk, kc, ke, rfl⟩ := hv2.parts
    go_upto_region 10 with fail
    obtain ⟨Z, hZ, hB, bs, bk, hsz⟩ := boxes_two_d w7 sb sn so sk sc se kb kn ko kk kc ke
    rw [← hZ]
    clear hZ hsz
    have hB : Ext w7 Z := hB
    have hYZ := Ext.trans hYZ hB
    have ds := Lib.hid (fun wx (h : Ext Z wx) => (hv.dg.ext hB).ext h)
    have dk := Lib.hid (fun wx (h : Ext Z wx) => (hv2.dg.ext hB).ext h)
    generalize w7.heap.size = G at *
    have dq := Lib.hid (fun wx (h : Ext Z wx) => dq.out wx (Ext.trans hYZ h))
    have bq := BB.out.ext hYZ
    have HC := Lib.hid (show ∀ wx, Ext Z wx → (wx.cell? ⟨G, 0, none⟩ = some (.bool sb) ∧ wx.cell? ⟨G, 1, none⟩ = some (.bool sn) ∧ wx.cell? ⟨G, 2, none⟩ = some (.slice so sk sc) ∧ wx.cell? ⟨G, 3, none⟩ = some (.int .i64 se)) ∧ (wx.cell? ⟨(G + 1), 0, none⟩ = some (.bool kb) ∧ wx.cell? ⟨(G + 1), 1, none⟩ = some (.bool kn) ∧ wx.cell? ⟨(G + 1), 2, none⟩ = some (.slice ko kk kc) ∧ wx.cell? ⟨(G + 1), 3, none⟩ = some (.int .i64 ke)) ∧ (wx.cell? ⟨Q, 0, none⟩ = some (.bool qb) ∧ wx.cell? ⟨Q, 1, none⟩ = some (.bool qn) ∧ wx.cell? ⟨Q, 2, none⟩ = some (.slice qo qk qc) ∧ wx.cell? ⟨Q, 3, none⟩ = some (.int .i64 qe)) from fun wx h => ⟨⟨(bs.ext h).c0, (bs.ext h).c1, (bs.ext h).c2, (bs.ext h).c3⟩, ⟨(bk.ext h).c0, (bk.ext h).c1, (bk.ext h).c2, (bk.ext h).c3⟩, (bq.ext h).c0, (bq.ext h).c1, (bq.ext h).c2, (bq.ext h).c3⟩)
    have HTZ := Lib.hid (fun wx (h : Ext Z wx) => HTZ.out wx (Ext.trans hYZ h))
    have HWZ := Lib.hid (Ext.trans hY hYZ)
    clear st hB hv hv2 bs bk bq hYZ hY BB dp dz
    have st : Ext Z Z := Ext.refl _
    obtain ⟨⟨s0, s1, s2, s3⟩, ⟨k0, k1, k2, k3⟩, q0, q1, q2, q3⟩ := HC.out _ st
    go_wp2_with fail
    refine (dcmp_at (ds.out _ st) (dk.out _ st) (HTZ.out _ st) Q2.out).mono ?_
    rintro e w8 ⟨rfl, hE⟩
    have st : Ext Z w8 := hE
    clear hE s0 s1 s2 s3 k0 k1 k2 k3 q0 q1 q2 q3
    obtain ⟨⟨s0, s1, s2, s3⟩, ⟨k0, k1, k2, k3⟩, q0, q1, q2, q3⟩ := HC.out _ st
    go_upto_region 11 with fail
    have st : Ext Z _ := st.drew
    go_cut [17, 18] from 90 (fun p q wx => p = .int .i64 c3 ∧ q = .bool true ∧ Ext Z wx)
    case first =>
      go_region_held3 (fun wx => (wx.cell? ⟨G, 0, none⟩ = some (.bool sb) ∧ wx.cell? ⟨G, 1, none⟩ = some (.bool sn) ∧ wx.cell? ⟨G, 2, none⟩ = some (.slice so sk sc) ∧ wx.cell? ⟨G, 3, none⟩ = some (.int .i64 se)) ∧ (wx.cell? ⟨(G + 1), 0, none⟩ = some (.bool kb) ∧ wx.cell? ⟨(G + 1), 1, none⟩ = some (.bool kn) ∧ wx.cell? ⟨(G + 1), 2, none⟩ = some (.slice ko kk kc) ∧ wx.cell? ⟨(G + 1), 3, none⟩ = some (.int .i64 ke)) ∧ (wx.cell? ⟨Q, 0, none⟩ = some (.bool qb) ∧ wx.cell? ⟨Q, 1, none⟩ = some (.bool qn) ∧ wx.cell? ⟨Q, 2, none⟩ = some (.slice qo qk qc) ∧ wx.cell? ⟨Q, 3, none⟩ = some (.int .i64 qe)))
        (first | exact HC.out _ (by assumption))
        (first
          | (go_at_call 12; (with_reducible refine (CS.out _ (Ext.trans HWZ.out (by assumption))).mono ?_); rintro r wn ⟨v3, rfl, h3, hE⟩; have st : Ext Z wn := Ext.trans (by assumption) hE; clear hE)
          | (go_at_call 11; (with_reducible refine (dabs_any _ _ _ (by exact h3.dg) (HTZ.out _ (by assumption))).mono ?_); rintro r wn ⟨v4, rfl, h4, hE⟩; have st : Ext Z wn := Ext.trans (by assumption) hE; clear hE)
          | (go_at_call 7; (refine (dcmp_at (by exact h4.dg) (dk.out _ (by assumption)) (HTZ.out _ (by assumption)) Q3.out).mono ?_); rintro r wk ⟨rfl, hE⟩; have stk : Ext Z wk := Ext.trans (by assumption) hE; clear hE))
      all_goals
        have EF : Ext Z wk := by assumption
        go_wp2
        go_meet
      all_goals
        exact ⟨rfl, rfl, EF⟩
    case rest =>
      obtain ⟨rfl, rfl, hE⟩ := hcut
      clear st
      have st : Ext Z wc := hE
      clear hE s0 s1 s2 s3 k0 k1 k2 k3 q0 q1 q2 q3
      obtain ⟨⟨s0, s1, s2, s3⟩, ⟨k0, k1, k2, k3⟩, q0, q1, q2, q3⟩ := HC.out _ st
      go_upto_region 12 with fail
      have st : Ext Z _ := st.drew
      go_cut [19, 20] from 98 (fun p q wx => p = .int .i64 c4 ∧ q = .bool true ∧ Ext Z wx)
      case first =>
        go_region_held3 (fun wx => (wx.cell? ⟨G, 0, none⟩ = some (.bool sb) ∧ wx.cell? ⟨G, 1, none⟩ = some (.bool sn) ∧ wx.cell? ⟨G, 2, none⟩ = some (.slice so sk sc) ∧ wx.cell? ⟨G, 3, none⟩ = some (.int .i64 se)) ∧ (wx.cell? ⟨(G + 1), 0, none⟩ = some (.bool kb) ∧ wx.cell? ⟨(G + 1), 1, none⟩ = some (.bool kn) ∧ wx.cell? ⟨(G + 1), 2, none⟩ = some (.slice ko kk kc) ∧ wx.cell? ⟨(G + 1), 3, none⟩ = some (.int .i64 ke)) ∧ (wx.cell? ⟨Q, 0, none⟩ = some (.bool qb) ∧ wx.cell? ⟨Q, 1, none⟩ = some (.bool qn) ∧ wx.cell? ⟨Q, 2, none⟩ = some (.slice qo qk qc) ∧ wx.cell? ⟨Q, 3, none⟩ = some (.int .i64 qe)))
          (first | exact HC.out _ (by assumption))
          (first
            | (go_at_call 8; (with_reducible refine (dmul_any _ _ _ _ _ (ds.out _ (by assumption)) (ds.out _ (by assumption)) (HTZ.out _ (by assumption)) (Or.inl B4.out)).mono ?_); rintro r wn ⟨v3, rfl, h3, hE⟩; have st : Ext Z wn := Ext.trans (by assumption) hE; clear hE)
            | (go_at_call 7; (refine (dcmp_at (by exact h3.dg) (dq.out _ (by assumption)) (HTZ.out _ (by assumption)) Q4.out).mono ?_); rintro r wk ⟨rfl, hE⟩; have stk : Ext Z wk := Ext.trans (by assumption) hE; clear hE))
        all_goals
          have EF : Ext Z wk := by assumption
          go_wp2
          go_meet
        all_goals
          exact ⟨rfl, rfl, EF⟩
      case rest =>
        obtain ⟨rfl, rfl, hE⟩ := hcut
        clear st
        have st : Ext Z wc := hE
        clear hE s0 s1 s2 s3 k0 k1 k2 k3 q0 q1 q2 q3
        obtain ⟨r1, r2, r3, r4⟩ := RR.out
        go_wp2_with fail
        refine (AW.out _ (Ext.trans HWZ.out st)).mono ?_
        rintro e w9 ⟨rfl, hE⟩
        have HF := Lib.hid (Ext.trans (Ext.trans HWZ.out st) hE)
        go_wp2
        go_ret
        exact ⟨rfl, HF.out⟩

set_option maxRecDepth 100000 in
set_option maxHeartbeats 8000000 in
theorem acau_any (ao bo : Option Addr) (n ca m cb : Nat) (w : World) (hr0 : n ≤ 1000000 → ∃ l, Fs w ao n ca l) (hr1 : m ≤ 1000000 → ∃ l, Fs w bo m cb l) (hT : Table w) (hT6 : Table64 w) :
    Calls Tryz.prog 3 #[.slice ao n ca, .slice bo m cb] w fun e w' => e = .returned (.bool true) ∧ Ext w w' := by
  have AW := Lib.hid (aawake_any w hT hT6)
  by_cases hn : n ≤ 10
  · by_cases hm : m = n
    · subst hm
      obtain ⟨x, hx⟩ := hr0 (by omega)
      obtain ⟨y, hy⟩ := hr1 (by omega)
      cases hf : x.all finB with
      | true =>
        cases hg : y.all finB with
        | true => exact acau_yes ao bo m ca cb x y w hx hy hT hT6 hn hf hg
        | false =>
          have FX := Lib.hid (refFinite_any _ _ _ _ w hx (by omega) true hf)
          have FY := Lib.hid (refFinite_any _ _ _ _ w hy (by omega) false hg)
          have hnl : ¬ (m : Int) > 10 := by omega
          have hne : ((m : Int) != m) = false := by simp
          clear hr0 hr1 hT hT6 hx hy hf hg hn
          go_enter Tryz.func3, Tryz.ntmps3
          go_wp2_with fail
          refine FX.out.mono ?_
          rintro e w1 ⟨rfl, rfl⟩
          go_wp2_with fail
          refine FY.out.mono ?_
          rintro e w1 ⟨rfl, rfl⟩
          go_wp2_with fail
          refine AW.out.mono ?_
          rintro e w9 ⟨rfl, h9⟩
          have HF := Lib.hid h9
          go_wp2
          go_ret
          exact ⟨rfl, HF.out⟩
      | false =>
        have FX := Lib.hid (refFinite_any _ _ _ _ w hx (by omega) false hf)
        have hnl : ¬ (m : Int) > 10 := by omega
        have hne : ((m : Int) != m) = false := by simp
        clear hr0 hr1 hT hT6 hx hy hf hn
        go_enter Tryz.func3, Tryz.ntmps3
        go_wp2_with fail
        refine FX.out.mono ?_
        rintro e w1 ⟨rfl, rfl⟩
        go_wp2_with fail
        refine AW.out.mono ?_
        rintro e w9 ⟨rfl, h9⟩
        have HF := Lib.hid h9
        go_wp2
        go_ret
        exact ⟨rfl, HF.out⟩
    · have hnl : ¬ (n : Int) > 10 := by omega
      have hne : ((m : Int) != n) = true := by simpa using (show ¬ (m : Int) = (n : Int) by omega)
      clear hr0 hr1 hT hT6 hn hm
      go_enter Tryz.func3, Tryz.ntmps3
      go_wp2_with fail
      refine AW.out.mono ?_
      rintro e w9 ⟨rfl, h9⟩
      have HF := Lib.hid h9
      go_wp2
      go_ret
      exact ⟨rfl, HF.out⟩
  · have h1 : (n : Int) > 10 := by omega
    clear hr0 hr1 hT hT6 hn
    go_enter Tryz.func3, Tryz.ntmps3
    go_wp2_with fail
    refine AW.out.mono ?_
    rintro e w9 ⟨rfl, h9⟩
    have HF := Lib.hid h9
    go_wp2
    go_ret
    exact ⟨rfl, HF.out⟩
end Go.Proofs.YtapcecjbmcoliaaGreatDoor
