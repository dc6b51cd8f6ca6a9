import Derived.Test.YtecaaklbhhjcjaaGreatDoorIRelU30
import Derived.Test.YtecaaklbhhjcjaaGreatDoorIRelU37
import Derived.Test.YtecaaklbhhjcjaaGreatDoorIRelU41
import Derived.Test.YtecaaklbhhjcjaaGreatDoorIRelU33
namespace Go.Proofs.YtecaaklbhhjcjaaGreatDoor
open Go.RowKit

set_option maxRecDepth 100000 in
set_option maxHeartbeats 16000000 in
theorem refMeet_yes (a b c d : Nat) (ha : a < 18446744073709551616) (hb : b < 18446744073709551616) (hc : c < 18446744073709551616) (hd : d < 18446744073709551616) (h1 : validF a b = true) (h2 : validF c d = true) (ok : Bool) (h3 : validF (meetLo a c) (meetHi b d) = ok) (w : World) (hT : Table w) :
    Calls Tryz.prog 38 #[.agg #[.int .u64 (a : Int), .int .u64 (b : Int)], .agg #[.int .u64 (c : Int), .int .u64 (d : Int)]] w fun e w' => e = .returned (meetV ((meetLo a c : Nat) : Int) ((meetHi b d : Nat) : Int) ok) ∧ Ext w w' := by
  have C1 := Lib.hid (fun w => refValid_any a b ha hb true h1 w)
  have C2 := Lib.hid (fun w => refValid_any c d hc hd true h2 w)
  obtain ⟨m1, m2, m3⟩ := meet_B ha hb hc hd h1 h2
  have g := Good.of ha hb h1
  have g' := Good.of hc hd h2
  have NA := Lib.hid (fun w hT => refNumOf_any a ha _ _ rfl rfl w hT)
  have NB := Lib.hid (fun w hT => refNumOf_any b hb _ _ rfl rfl w hT)
  have NC := Lib.hid (fun w hT => refNumOf_any c hc _ _ rfl rfl w hT)
  have ND := Lib.hid (fun w hT => refNumOf_any d hd _ _ rfl rfl w hT)
  obtain ⟨l1, hl1⟩ : ∃ l, lessN (numI a) (numD a) (numI c) (numD c) = l := ⟨_, rfl⟩
  obtain ⟨l2, hl2⟩ : ∃ l, lessN (numI d) (numD d) (numI b) (numD b) = l := ⟨_, rfl⟩
  have L1 := Lib.hid (fun u v w hu hv hT => refLess_any u v (numI a) (numI c) (numD a) (numD c) l1 hl1 w hu hv hT)
  have L2 := Lib.hid (fun u v w hu hv hT => refLess_any u v (numI d) (numI b) (numD d) (numD b) l2 hl2 w hu hv hT)
  rw [num_less ha hc g.n1 g'.n1, ← less_rank g.n1 g'.n1] at hl1
  rw [num_less hd hb g'.n2 g.n2, ← less_rank g'.n2 g.n2] at hl2
  rw [hl1] at m1 m3
  rw [hl2] at m2 m3
  obtain ⟨p, hp⟩ : ∃ p, (if l1 then c else a) = p := ⟨_, rfl⟩
  obtain ⟨q, hq⟩ : ∃ q, (if l2 then d else b) = q := ⟨_, rfl⟩
  have lp : p < 18446744073709551616 := by rw [← hp]; split <;> assumption
  have lq : q < 18446744073709551616 := by rw [← hq]; split <;> assumption
  have np : nanB p = false := by rw [← hp]; split; exact g'.n1; exact g.n1
  have nq : nanB q = false := by rw [← hq]; split; exact g'.n2; exact g.n2
  rw [hp] at m1 m3
  rw [hq] at m2 m3
  rw [m3, less_rank nq np] at h3
  have L3 := Lib.hid (fun u v w hu hv hT => refLess_any u v (numI q) (numI p) (numD q) (numD p) (!ok) (by rw [num_less lq lp nq np, ← h3, Bool.not_not]) w hu hv hT)
  have OW := Lib.hid (fun u v w hu hv hT => refOutward_any u v (numI p) (numI q) (numD p) (numD q) w hu hv hT)
  rw [rnN_num lp np, rnN_num lq nq, ← m1, ← m2] at OW
  obtain ⟨rx, hrx⟩ : ∃ r : Int, ((meetLo a c : Nat) : Int) = r := ⟨_, rfl⟩
  obtain ⟨ry, hry⟩ : ∃ r : Int, ((meetHi b d : Nat) : Int) = r := ⟨_, rfl⟩
  rw [hrx, hry] at OW
  rw [hrx, hry]
  have PI := Lib.hid (show numI p = if l1 then numI c else numI a from by rw [← hp]; cases l1 <;> rfl)
  have PD := Lib.hid (show numD p = if l1 then numD c else numD a from by rw [← hp]; cases l1 <;> rfl)
  have QI := Lib.hid (show numI q = if l2 then numI d else numI b from by rw [← hq]; cases l2 <;> rfl)
  have QD := Lib.hid (show numD q = if l2 then numD d else numD b from by rw [← hq]; cases l2 <;> rfl)
  have HT := Lib.hid hT
  clear hl1 hl2 hp hq lp lq np nq m1 m2 m3 h1 h2 h3 hrx hry g g' ha hb hc hd hT
  generalize numI a = ia at *
  generalize numI b = ib at *
  generalize numI c = ic at *
  generalize numI d = id at *
  generalize numD a = da at *
  generalize numD b = db at *
  generalize numD c = dc at *
  generalize numD d = dd at *
  generalize numI p = ip at *
  generalize numI q = iq at *
  generalize numD p = dp at *
  generalize numD q = dq at *
  go_enter Tryz.func38, Tryz.ntmps38
  go_upto_region 1 with fail
  obtain ⟨W, hW, hB, hx, hy, hbx, hsz⟩ := ibox_three w a b c d 0 0
  rw [← hW]
  clear hW
  generalize hBe : w.heap.size = B at *
  have HBe := Lib.hid hBe
  have HB : Hid (Below B w W) := Lib.hid (by rw [← hBe]; exact hB)
  clear hBe hB
  have hBs : B + 3 ≤ W.heap.size := hsz
  clear hsz
  have c0 := hx.c0
  have c1 := hx.c1
  have c2 := hy.c0
  have c3 := hy.c1
  go_wp2_with fail
  refine (C1.out _).mono ?_
  rintro r w1 ⟨rfl, hE⟩
  have hx := hx.below hE
  have hy := hy.below hE
  have hbx := hbx.below hE
  have HB := Lib.hid (HB.out.trans (Below.mono hE (by omega)))
  have hBs : B + 3 ≤ w1.heap.size := by have := Below.size hE; omega
  clear c0 c1 c2 c3 hE
  have c0 := hx.c0
  have c1 := hx.c1
  have c2 := hy.c0
  have c3 := hy.c1
  go_wp2_with fail
  refine (C2.out _).mono ?_
  rintro r V ⟨rfl, hE⟩
  have hx := hx.below hE
  have hy := hy.below hE
  have hbx := hbx.below hE
  have HB := Lib.hid (HB.out.trans (Below.mono hE (by omega)))
  have hBs : B + 3 ≤ V.heap.size := by have := Below.size hE; omega
  clear c0 c1 c2 c3 hE
  have HBV := Lib.hid hBs
  have HTV := Lib.hid (show ∀ wx, Ext V wx → Table wx from fun wx h => (HT.out.below (Below.mono HB.out (Nat.le_of_eq HBe.out))).below h)
  have HCV := Lib.hid (show ∀ wx, Ext V wx → (wx.cell? ⟨B, 0, none⟩ = some (.int .u64 (a : Int)) ∧ wx.cell? ⟨B, 1, none⟩ = some (.int .u64 (b : Int))) ∧ (wx.cell? ⟨B + 1, 0, none⟩ = some (.int .u64 (c : Int)) ∧ wx.cell? ⟨B + 1, 1, none⟩ = some (.int .u64 (d : Int))) from fun wx h => ⟨⟨(hx.below h).c0, (hx.below h).c1⟩, (hy.below h).c0, (hy.below h).c1⟩)
  have HZ := Lib.hid (show ∀ wx, Ext V wx → IBox wx (B + 1 + 1) 0 0 from fun wx h => hbx.below h)
  clear hx hy hbx hBs
  obtain ⟨⟨c0, c1⟩, c2, c3⟩ := HCV.out V (Ext.refl _)
  go_upto_region 3 with fail
  have st : Ext V V.drew := (Below.refl _ _).drew
  have TAG1 := Lib.hid trivial
  go_cut [6, 7] from 17 (fun p q wx => ∃ g h ub un uo uk uc uf vb vn vo vk vc vf, p = .pointer (some ⟨g, 0, none⟩) ∧ q = .pointer (some ⟨h, 0, none⟩) ∧ NBx wx g ia ub un uo uk uc uf ∧ NBx wx h ib vb vn vo vk vc vf ∧ Dn wx (.agg #[.bool ub, .bool un, .slice uo uk uc, .int .i64 uf]) da ∧ Dn wx (.agg #[.bool vb, .bool vn, .slice vo vk vc, .int .i64 vf]) db ∧ Ext V wx ∧ g ≠ h ∧ V.heap.size ≤ g ∧ V.heap.size ≤ h)
  case first =>
    go_region_held3 (fun wx => (wx.cell? ⟨B, 0, none⟩ = some (.int .u64 (a : Int)) ∧ wx.cell? ⟨B, 1, none⟩ = some (.int .u64 (b : Int))) ∧ (wx.cell? ⟨B + 1, 0, none⟩ = some (.int .u64 (c : Int)) ∧ wx.cell? ⟨B + 1, 1, none⟩ = some (.int .u64 (d : Int))))
      (first | (refine HCV.out _ ?_; (repeat (first | with_reducible refine eA ?_ _ | with_reducible refine eS5 (by omega) ?_)); (first | with_reducible assumption | with_reducible exact eAd _ _ | with_reducible exact eAAd _ _ _ | with_reducible exact Ext.refl _)) | fail "keep")
      (first
        | (go_at_call 85; clear TAG1; (with_reducible refine (NA.out _ (HTV.out _ (by first | with_reducible assumption | with_reducible exact eA (by with_reducible assumption) _ | with_reducible exact eAd _ _ | with_reducible exact eAAd _ _ _ | with_reducible exact eA (eA (by with_reducible assumption) _) _))).mono ?_); rintro r wn ⟨va, rfl, ⟨ub, un, uo, uk, uc, uf, rfl, hu⟩, hE1⟩; have stn : Ext V wn := Ext.trans (by first | with_reducible assumption | with_reducible exact eA (by with_reducible assumption) _ | with_reducible exact eAd _ _ | with_reducible exact eAAd _ _ _ | with_reducible exact eA (eA (by with_reducible assumption) _) _) hE1; have sz1 := Below.size stn; (first | (have y12 := nin2d (w := V) (wn := wn) (by with_reducible exact hE1); have y1 := y12.1; have y2 := y12.2; clear y12; have yl1 := y1.lt; have yl2 := y2.lt) | (have y12 := nin1d (w := V) (wn := wn) (by with_reducible exact hE1); have y1 := y12; clear y12; have yl1 := y1.lt) | skip))
        | (go_at_call 85; (with_reducible refine (NB.out _ (HTV.out _ (by first | with_reducible assumption | with_reducible exact eA (by with_reducible assumption) _ | with_reducible exact eAd _ _ | with_reducible exact eAAd _ _ _ | with_reducible exact eA (eA (by with_reducible assumption) _) _))).mono ?_); rintro r wm ⟨vb0, rfl, ⟨vb, vn, vo, vk, vc, vf, rfl, hv⟩, hE2⟩; have stm : Ext V wm := Ext.trans (by first | with_reducible assumption | with_reducible exact eA (by with_reducible assumption) _ | with_reducible exact eAd _ _ | with_reducible exact eAAd _ _ _ | with_reducible exact eA (eA (by with_reducible assumption) _) _) hE2; have sz2 := Below.size stm; have sz3 := Below.size stn; (first | (have z12 := nin2 (w := wn) (wn := wm) (by with_reducible exact hE2); have z1 := z12.1; have z2 := z12.2; clear z12; have zl1 := z1.lt; have zl2 := z2.lt; have hE3 : Ext wn wm := Ext.trans (Ext.trans (ext_of_alloc _ _) (ext_of_alloc _ _)) hE2) | (have z12 := nin1 (w := wn) (wn := wm) (by with_reducible exact hE2); have z1 := z12; clear z12; have zl1 := z1.lt; have hE3 : Ext wn wm := Ext.trans (ext_of_alloc _ _) hE2) | (have hE3 : Ext wn wm := hE2)); have hu := hu.ext hE3; (first | (have y2 := y2.ext hE3; have ym2 := y2.lt; have v0 := y2.c0; have v1 := y2.c1; have v2 := y2.c2; have v3 := y2.c3; have v4 := y2.c4; have v5 := y2.f 0; have v6 := y2.f 1; have v7 := y2.f 2; have v8 := y2.f 3; have v9 := y2.f 4) | skip); (first | (have y1 := y1.ext hE3; have ym1 := y1.lt; have u0 := y1.c0; have u1 := y1.c1; have u2 := y1.c2; have u3 := y1.c3; have u4 := y1.c4; have u5 := y1.f 0; have u6 := y1.f 1; have u7 := y1.f 2; have u8 := y1.f 3; have u9 := y1.f 4) | skip); (first | (have s0 := z1.c0; have s1 := z1.c1; have s2 := z1.c2; have s3 := z1.c3; have s4 := z1.c4; have s5 := z1.f 0; have s6 := z1.f 1; have s7 := z1.f 2; have s8 := z1.f 3; have s9 := z1.f 4) | skip); (first | (have t0 := z2.c0; have t1 := z2.c1; have t2 := z2.c2; have t3 := z2.c3; have t4 := z2.c4; have t5 := z2.f 0; have t6 := z2.f 1; have t7 := z2.f 2; have t8 := z2.f 3; have t9 := z2.f 4) | skip)))
    all_goals
      try clear u0 u1 u2 u3 u4 u5 u6 u7 u8 u9
      try clear v0 v1 v2 v3 v4 v5 v6 v7 v8 v9
      try clear s0 s1 s2 s3 s4 s5 s6 s7 s8 s9
      try clear t0 t1 t2 t3 t4 t5 t6 t7 t8 t9
      go_wp2
      go_meet
    all_goals
      refine ⟨_, _, ub, un, uo, uk, uc, uf, vb, vn, vo, vk, vc, vf, rfl, rfl, ?_⟩
      first
        | (have _t := y2; first | (have F := np_both (i := ia) (j := ib) y1 y2 (by omega) hu hv stm (by omega) (by omega); with_reducible exact F) | (have F := np_both (i := ia) (j := ib) y2 y1 (by omega) hu hv stm (by omega) (by omega); with_reducible exact F))
        | (have _t := z2; first | (have F := np_both (i := ia) (j := ib) z1 z2 (by omega) hu hv stm (by omega) (by omega); with_reducible exact F) | (have F := np_both (i := ia) (j := ib) z2 z1 (by omega) hu hv stm (by omega) (by omega); with_reducible exact F))
        | (have _t := y1; have _t2 := z1; first | (have F := np_both (i := ia) (j := ib) y1 z1 (by omega) hu hv stm (by omega) (by omega); with_reducible exact F) | (have F := np_both (i := ia) (j := ib) z1 y1 (by omega) hu hv stm (by omega) (by omega); with_reducible exact F))
        | (have _t := y1; first | (have F := np_mix (i := ia) (j := ib) y1 hu hv stm (by omega); with_reducible exact F) | (have F := np_mix (i := ib) (j := ia) y1 hv hu stm (by omega); with_reducible exact ⟨F.2.1, F.1, F.2.2.2.1, F.2.2.1, F.2.2.2.2.1, F.2.2.2.2.2.1.symm, F.2.2.2.2.2.2.2, F.2.2.2.2.2.2.1⟩))
        | (have _t := z1; first | (have F := np_mix (i := ia) (j := ib) z1 hu hv stm (by omega); with_reducible exact F) | (have F := np_mix (i := ib) (j := ia) z1 hv hu stm (by omega); with_reducible exact ⟨F.2.1, F.1, F.2.2.2.1, F.2.2.1, F.2.2.2.2.1, F.2.2.2.2.2.1.symm, F.2.2.2.2.2.2.2, F.2.2.2.2.2.2.1⟩))
        | (have F := np_new (i := ia) (j := ib) hu hv stm; with_reducible exact F)
        | (have F := np_new (i := ib) (j := ia) hv hu stm; with_reducible exact ⟨F.2.1, F.1, F.2.2.2.1, F.2.2.1, F.2.2.2.2.1, F.2.2.2.2.2.1.symm, F.2.2.2.2.2.2.2, F.2.2.2.2.2.2.1⟩)
  case rest =>
    obtain ⟨g, h, ub, un, uo, uk, uc, uf, vb, vn, vo, vk, vc, vf, rfl, rfl, bg, bh, hu, hv, hE, hne, hVg, hVh⟩ := hcut
    obtain ⟨U, hU⟩ : ∃ U, U = wc := ⟨wc, rfl⟩
    subst hU
    have HVW := Lib.hid hE
    clear st c0 c1 c2 c3 TAG1 hE
    have HC5 := Lib.hid (show ∀ wx, Ext U wx → ((wx.cell? ⟨B, 0, none⟩ = some (.int .u64 (a : Int)) ∧ wx.cell? ⟨B, 1, none⟩ = some (.int .u64 (b : Int))) ∧ (wx.cell? ⟨B + 1, 0, none⟩ = some (.int .u64 (c : Int)) ∧ wx.cell? ⟨B + 1, 1, none⟩ = some (.int .u64 (d : Int)))) ∧ (wx.cell? ⟨g, 0, none⟩ = some (.int .i64 ia) ∧ wx.cell? ⟨g, 1, none⟩ = some (.bool ub) ∧ wx.cell? ⟨g, 2, none⟩ = some (.bool un) ∧ wx.cell? ⟨g, 3, none⟩ = some (.slice uo uk uc) ∧ wx.cell? ⟨g, 4, none⟩ = some (.int .i64 uf)) ∧ (wx.cell? ⟨h, 0, none⟩ = some (.int .i64 ib) ∧ wx.cell? ⟨h, 1, none⟩ = some (.bool vb) ∧ wx.cell? ⟨h, 2, none⟩ = some (.bool vn) ∧ wx.cell? ⟨h, 3, none⟩ = some (.slice vo vk vc) ∧ wx.cell? ⟨h, 4, none⟩ = some (.int .i64 vf)) from fun wx k => ⟨HCV.out wx (Ext.trans HVW.out k), ⟨(bg.ext k).c0, (bg.ext k).c1, (bg.ext k).c2, (bg.ext k).c3, (bg.ext k).c4⟩, (bh.ext k).c0, (bh.ext k).c1, (bh.ext k).c2, (bh.ext k).c3, (bh.ext k).c4⟩)
    have st : Ext U U := Ext.refl _
    have HP0 := Lib.hid (show ∀ wx, Ext U wx → NumV wx (.agg #[.int .i64 ia, .bool ub, .bool un, .slice uo uk uc, .int .i64 uf]) ia da from fun wx k => ⟨_, _, _, _, _, _, rfl, hu.ext k⟩)
    obtain ⟨⟨⟨c0, c1⟩, c2, c3⟩, ⟨x0, x1, x2, x3, x4⟩, y0, y1, y2, y3, y4⟩ := HC5.out _ st
    go_upto_region 4 with fail
    have st : Ext U _ := st.drew
    go_region_held3 (fun wx => ((wx.cell? ⟨B, 0, none⟩ = some (.int .u64 (a : Int)) ∧ wx.cell? ⟨B, 1, none⟩ = some (.int .u64 (b : Int))) ∧ (wx.cell? ⟨B + 1, 0, none⟩ = some (.int .u64 (c : Int)) ∧ wx.cell? ⟨B + 1, 1, none⟩ = some (.int .u64 (d : Int)))) ∧ (wx.cell? ⟨g, 0, none⟩ = some (.int .i64 ia) ∧ wx.cell? ⟨g, 1, none⟩ = some (.bool ub) ∧ wx.cell? ⟨g, 2, none⟩ = some (.bool un) ∧ wx.cell? ⟨g, 3, none⟩ = some (.slice uo uk uc) ∧ wx.cell? ⟨g, 4, none⟩ = some (.int .i64 uf)) ∧ (wx.cell? ⟨h, 0, none⟩ = some (.int .i64 ib) ∧ wx.cell? ⟨h, 1, none⟩ = some (.bool vb) ∧ wx.cell? ⟨h, 2, none⟩ = some (.bool vn) ∧ wx.cell? ⟨h, 3, none⟩ = some (.slice vo vk vc) ∧ wx.cell? ⟨h, 4, none⟩ = some (.int .i64 vf)))
      (first | exact HC5.out _ (by with_reducible assumption))
      (first
        | (go_at_call 85; (with_reducible refine (NC.out _ (HTV.out _ (Ext.trans HVW.out (by with_reducible assumption)))).mono ?_); rintro r wn ⟨vc0, rfl, hvc, hE⟩; have st : Ext U wn := Ext.trans (by with_reducible assumption) hE; clear hE)
        | (go_at_call 99; (refine (L1.out _ _ _ (HP0.out _ (by with_reducible assumption)) (by exact hvc) (HTV.out _ (Ext.trans HVW.out (by with_reducible assumption)))).mono ?_); rintro r wn ⟨rfl, hE⟩; have st : Ext U wn := Ext.trans (by with_reducible assumption) hE; clear hE)
      )
    clear c0 c1 c2 c3 x0 x1 x2 x3 x4 y0 y1 y2 y3 y4
    cases l1 with
    | true =>
      obtain rfl : ic = ip := by simpa using PI.out.symm
      obtain rfl : dc = dp := by simpa using PD.out.symm
      obtain ⟨⟨⟨c0, c1⟩, c2, c3⟩, ⟨x0, x1, x2, x3, x4⟩, y0, y1, y2, y3, y4⟩ := HC5.out _ st
      go_wp2_with fail
      refine (NC.out _ (HTV.out _ (Ext.trans HVW.out st))).mono ?_
      rintro r vs ⟨vnew, rfl, ⟨yb, yn, yo, yk, yc, yf, rfl, hnew⟩, hE⟩
      have st : Ext U vs := Ext.trans st hE
      clear hE
      clear c0 c1 c2 c3 x0 x1 x2 x3 x4 y0 y1 y2 y3 y4
      obtain ⟨⟨⟨c0, c1⟩, c2, c3⟩, ⟨x0, x1, x2, x3, x4⟩, y0, y1, y2, y3, y4⟩ := HC5.out _ st
      have bg := bg.ext st
      have bh := bh.ext st
      have f0 := bg.f 0
      have f1 := bg.f 1
      have f2 := bg.f 2
      have f3 := bg.f 3
      have f4 := bg.f 4
      have ho := hv.ext st
      go_upto_region 6 with fail
      have N5 := np_set (i := ic) (V := V) bg bh (by omega) hnew ho (Ext.trans HVW.out st) (by omega)
      obtain ⟨W2, hW2⟩ : ∃ W2 : World, (((((vs.setCell ⟨g, 0, none⟩ (.int .i64 ic)).setCell ⟨g, 1, none⟩ (.bool yb)).setCell ⟨g, 2, none⟩ (.bool yn)).setCell ⟨g, 3, none⟩ (.slice yo yk yc)).setCell ⟨g, 4, none⟩ (.int .i64 yf)) = W2 := ⟨_, rfl⟩
      rw [hW2] at N5 ⊢
      clear hW2 bg bh f0 f1 f2 f3 f4 HC5 st
      clear c0 c1 c2 c3 x0 x1 x2 x3 x4 y0 y1 y2 y3 y4
      obtain ⟨bg, bh, hnew, hv, hE⟩ := N5
      have HVW := Lib.hid hE
      clear hE
      have hp := hnew
      clear hnew
      have HC5 := Lib.hid (show ∀ wx, Ext W2 wx → ((wx.cell? ⟨B, 0, none⟩ = some (.int .u64 (a : Int)) ∧ wx.cell? ⟨B, 1, none⟩ = some (.int .u64 (b : Int))) ∧ (wx.cell? ⟨B + 1, 0, none⟩ = some (.int .u64 (c : Int)) ∧ wx.cell? ⟨B + 1, 1, none⟩ = some (.int .u64 (d : Int)))) ∧ (wx.cell? ⟨g, 0, none⟩ = some (.int .i64 ic) ∧ wx.cell? ⟨g, 1, none⟩ = some (.bool yb) ∧ wx.cell? ⟨g, 2, none⟩ = some (.bool yn) ∧ wx.cell? ⟨g, 3, none⟩ = some (.slice yo yk yc) ∧ wx.cell? ⟨g, 4, none⟩ = some (.int .i64 yf)) ∧ (wx.cell? ⟨h, 0, none⟩ = some (.int .i64 ib) ∧ wx.cell? ⟨h, 1, none⟩ = some (.bool vb) ∧ wx.cell? ⟨h, 2, none⟩ = some (.bool vn) ∧ wx.cell? ⟨h, 3, none⟩ = some (.slice vo vk vc) ∧ wx.cell? ⟨h, 4, none⟩ = some (.int .i64 vf)) from fun wx k => ⟨HCV.out wx (Ext.trans HVW.out k), ⟨(bg.ext k).c0, (bg.ext k).c1, (bg.ext k).c2, (bg.ext k).c3, (bg.ext k).c4⟩, (bh.ext k).c0, (bh.ext k).c1, (bh.ext k).c2, (bh.ext k).c3, (bh.ext k).c4⟩)
      have st : Ext W2 W2 := Ext.refl _
      have HQ0 := Lib.hid (show ∀ wx, Ext W2 wx → NumV wx (.agg #[.int .i64 ib, .bool vb, .bool vn, .slice vo vk vc, .int .i64 vf]) ib db from fun wx k => ⟨_, _, _, _, _, _, rfl, hv.ext k⟩)
      obtain ⟨⟨⟨c0, c1⟩, c2, c3⟩, ⟨x0, x1, x2, x3, x4⟩, y0, y1, y2, y3, y4⟩ := HC5.out _ st
      go_upto_region 6 with fail
      have st : Ext W2 _ := st.drew
      go_region_held3 (fun wx => ((wx.cell? ⟨B, 0, none⟩ = some (.int .u64 (a : Int)) ∧ wx.cell? ⟨B, 1, none⟩ = some (.int .u64 (b : Int))) ∧ (wx.cell? ⟨B + 1, 0, none⟩ = some (.int .u64 (c : Int)) ∧ wx.cell? ⟨B + 1, 1, none⟩ = some (.int .u64 (d : Int)))) ∧ (wx.cell? ⟨g, 0, none⟩ = some (.int .i64 ic) ∧ wx.cell? ⟨g, 1, none⟩ = some (.bool yb) ∧ wx.cell? ⟨g, 2, none⟩ = some (.bool yn) ∧ wx.cell? ⟨g, 3, none⟩ = some (.slice yo yk yc) ∧ wx.cell? ⟨g, 4, none⟩ = some (.int .i64 yf)) ∧ (wx.cell? ⟨h, 0, none⟩ = some (.int .i64 ib) ∧ wx.cell? ⟨h, 1, none⟩ = some (.bool vb) ∧ wx.cell? ⟨h, 2, none⟩ = some (.bool vn) ∧ wx.cell? ⟨h, 3, none⟩ = some (.slice vo vk vc) ∧ wx.cell? ⟨h, 4, none⟩ = some (.int .i64 vf)))
        (first | exact HC5.out _ (by with_reducible assumption))
        (first
          | (go_at_call 85; (with_reducible refine (ND.out _ (HTV.out _ (Ext.trans HVW.out (by with_reducible assumption)))).mono ?_); rintro r wn ⟨vd, rfl, hvd, hE⟩; have st : Ext W2 wn := Ext.trans (by with_reducible assumption) hE; clear hE)
          | (go_at_call 99; (refine (L2.out _ _ _ (by exact hvd) (HQ0.out _ (by with_reducible assumption)) (HTV.out _ (Ext.trans HVW.out (by with_reducible assumption)))).mono ?_); rintro r wn ⟨rfl, hE⟩; have st : Ext W2 wn := Ext.trans (by with_reducible assumption) hE; clear hE)
        )
      clear c0 c1 c2 c3 x0 x1 x2 x3 x4 y0 y1 y2 y3 y4
      cases l2 with
      | true =>
        obtain rfl : id = iq := by simpa using QI.out.symm
        obtain rfl : dd = dq := by simpa using QD.out.symm
        have hnone := trivial
        obtain ⟨⟨⟨c0, c1⟩, c2, c3⟩, ⟨x0, x1, x2, x3, x4⟩, y0, y1, y2, y3, y4⟩ := HC5.out _ st
        go_wp2_with fail
        refine (ND.out _ (HTV.out _ (Ext.trans HVW.out st))).mono ?_
        rintro r vs ⟨vnew, rfl, ⟨zb, zn, zo, zk, zc, zf, rfl, hnew⟩, hE⟩
        have st : Ext W2 vs := Ext.trans st hE
        clear hE
        clear c0 c1 c2 c3 x0 x1 x2 x3 x4 y0 y1 y2 y3 y4
        obtain ⟨⟨⟨c0, c1⟩, c2, c3⟩, ⟨x0, x1, x2, x3, x4⟩, y0, y1, y2, y3, y4⟩ := HC5.out _ st
        have bg := bg.ext st
        have bh := bh.ext st
        have f0 := bh.f 0
        have f1 := bh.f 1
        have f2 := bh.f 2
        have f3 := bh.f 3
        have f4 := bh.f 4
        have ho := hp.ext st
        go_upto_region 8 with fail
        have N5 := np_set (i := id) (V := V) bh bg (by omega) hnew ho (Ext.trans HVW.out st) (by omega)
        obtain ⟨W3, hW2⟩ : ∃ W3 : World, (((((vs.setCell ⟨h, 0, none⟩ (.int .i64 id)).setCell ⟨h, 1, none⟩ (.bool zb)).setCell ⟨h, 2, none⟩ (.bool zn)).setCell ⟨h, 3, none⟩ (.slice zo zk zc)).setCell ⟨h, 4, none⟩ (.int .i64 zf)) = W3 := ⟨_, rfl⟩
        rw [hW2] at N5 ⊢
        clear hW2 bg bh f0 f1 f2 f3 f4 HC5 st
        clear c0 c1 c2 c3 x0 x1 x2 x3 x4 y0 y1 y2 y3 y4
        obtain ⟨bh, bg, hnew, hp, hE⟩ := N5
        have HVW := Lib.hid hE
        clear hE
        have hq := hnew
        have HC5 := Lib.hid (show ∀ wx, Ext W3 wx → ((wx.cell? ⟨B, 0, none⟩ = some (.int .u64 (a : Int)) ∧ wx.cell? ⟨B, 1, none⟩ = some (.int .u64 (b : Int))) ∧ (wx.cell? ⟨B + 1, 0, none⟩ = some (.int .u64 (c : Int)) ∧ wx.cell? ⟨B + 1, 1, none⟩ = some (.int .u64 (d : Int)))) ∧ (wx.cell? ⟨g, 0, none⟩ = some (.int .i64 ic) ∧ wx.cell? ⟨g, 1, none⟩ = some (.bool yb) ∧ wx.cell? ⟨g, 2, none⟩ = some (.bool yn) ∧ wx.cell? ⟨g, 3, none⟩ = some (.slice yo yk yc) ∧ wx.cell? ⟨g, 4, none⟩ = some (.int .i64 yf)) ∧ (wx.cell? ⟨h, 0, none⟩ = some (.int .i64 id) ∧ wx.cell? ⟨h, 1, none⟩ = some (.bool zb) ∧ wx.cell? ⟨h, 2, none⟩ = some (.bool zn) ∧ wx.cell? ⟨h, 3, none⟩ = some (.slice zo zk zc) ∧ wx.cell? ⟨h, 4, none⟩ = some (.int .i64 zf)) from fun wx k => ⟨HCV.out wx (Ext.trans HVW.out k), ⟨(bg.ext k).c0, (bg.ext k).c1, (bg.ext k).c2, (bg.ext k).c3, (bg.ext k).c4⟩, (bh.ext k).c0, (bh.ext k).c1, (bh.ext k).c2, (bh.ext k).c3, (bh.ext k).c4⟩)
        have st : Ext W3 W3 := Ext.refl _
        have HP := Lib.hid (show ∀ wx, Ext W3 wx → NumV wx (.agg #[.int .i64 ic, .bool yb, .bool yn, .slice yo yk yc, .int .i64 yf]) ic dc from fun wx k => ⟨_, _, _, _, _, _, rfl, hp.ext k⟩)
        have HQ := Lib.hid (show ∀ wx, Ext W3 wx → NumV wx (.agg #[.int .i64 id, .bool zb, .bool zn, .slice zo zk zc, .int .i64 zf]) id dd from fun wx k => ⟨_, _, _, _, _, _, rfl, hq.ext k⟩)
        have HTW := Lib.hid (fun wx (k : Ext W3 wx) => HTV.out wx (Ext.trans HVW.out k))
        clear hp hq bg bh
        obtain ⟨⟨⟨c0, c1⟩, c2, c3⟩, ⟨x0, x1, x2, x3, x4⟩, y0, y1, y2, y3, y4⟩ := HC5.out _ st
        go_wp2_with fail
        refine (L3.out _ _ _ (HQ.out _ st) (HP.out _ st) (HTW.out _ st)).mono ?_
        rintro r v8 ⟨rfl, hE⟩
        have st : Ext W3 v8 := Ext.trans st hE
        clear hE
        clear c0 c1 c2 c3 x0 x1 x2 x3 x4 y0 y1 y2 y3 y4
        cases ok with
        | false =>
          have hbx := HZ.out _ (Ext.trans HVW.out st)
          have q0 := hbx.c0
          have q1 := hbx.c1
          have q2 := hbx.f 0
          have q3 := hbx.f 1
          have hst := hbx.stored 0 0
          have z0 := hst.c0
          have z1 := hst.c1
          have HF := Lib.hid ((HB.out.trans (Below.mono (Ext.trans HVW.out st) (by have := HBV.out; omega))).trans ((only_iset2 v8 (B + 1 + 1) (.int .u64 0) (.int .u64 0)).below (by omega)))
          clear hst
          go_wp2
          refine bodyPost_ret (v := .tuple #[.agg #[.int .u64 0, .int .u64 0], .bool false]) (by simp [results, Tryz.results38, go_sem, z0, z1]) rfl ⟨rfl, ?_⟩
          show Below _ _ _
          rw [HBe.out]
          exact HF.out
        | true =>
          obtain ⟨⟨⟨c0, c1⟩, c2, c3⟩, ⟨x0, x1, x2, x3, x4⟩, y0, y1, y2, y3, y4⟩ := HC5.out _ st
          go_wp2_with fail
          refine (OW.out _ _ _ (HP.out _ st) (HQ.out _ st) (HTW.out _ st)).mono ?_
          rintro r v9 ⟨rfl, hE⟩
          have st : Ext W3 v9 := Ext.trans st hE
          clear hE
          clear c0 c1 c2 c3 x0 x1 x2 x3 x4 y0 y1 y2 y3 y4
          have hbx := HZ.out _ (Ext.trans HVW.out st)
          have q0 := hbx.c0
          have q1 := hbx.c1
          have q2 := hbx.f 0
          have q3 := hbx.f 1
          have hst := hbx.stored rx ry
          have z0 := hst.c0
          have z1 := hst.c1
          have HF := Lib.hid ((HB.out.trans (Below.mono (Ext.trans HVW.out st) (by have := HBV.out; omega))).trans ((only_iset2 v9 (B + 1 + 1) (.int .u64 rx) (.int .u64 ry)).below (by omega)))
          clear hst
          go_wp2
          refine bodyPost_ret (v := .tuple #[.agg #[.int .u64 rx, .int .u64 ry], .bool true]) (by simp [results, Tryz.results38, go_sem, z0, z1]) rfl ⟨rfl, ?_⟩
          show Below _ _ _
          rw [HBe.out]
          exact HF.out
      | false =>
        obtain rfl : ib = iq := by simpa using QI.out.symm
        obtain rfl : db = dq := by simpa using QD.out.symm
        obtain ⟨W3, hW3, hE3⟩ : ∃ W3, W3 = _ ∧ Ext W2 W3 := ⟨_, rfl, st⟩
        rw [← hW3]
        have bg := bg.ext hE3
        have bh := bh.ext hE3
        have hp := hp.ext hE3
        have hq := hv.ext hE3
        have HVW := Lib.hid (Ext.trans HVW.out hE3)
        clear hW3 hE3 st HC5 HQ0
        have HC5 := Lib.hid (show ∀ wx, Ext W3 wx → ((wx.cell? ⟨B, 0, none⟩ = some (.int .u64 (a : Int)) ∧ wx.cell? ⟨B, 1, none⟩ = some (.int .u64 (b : Int))) ∧ (wx.cell? ⟨B + 1, 0, none⟩ = some (.int .u64 (c : Int)) ∧ wx.cell? ⟨B + 1, 1, none⟩ = some (.int .u64 (d : Int)))) ∧ (wx.cell? ⟨g, 0, none⟩ = some (.int .i64 ic) ∧ wx.cell? ⟨g, 1, none⟩ = some (.bool yb) ∧ wx.cell? ⟨g, 2, none⟩ = some (.bool yn) ∧ wx.cell? ⟨g, 3, none⟩ = some (.slice yo yk yc) ∧ wx.cell? ⟨g, 4, none⟩ = some (.int .i64 yf)) ∧ (wx.cell? ⟨h, 0, none⟩ = some (.int .i64 ib) ∧ wx.cell? ⟨h, 1, none⟩ = some (.bool vb) ∧ wx.cell? ⟨h, 2, none⟩ = some (.bool vn) ∧ wx.cell? ⟨h, 3, none⟩ = some (.slice vo vk vc) ∧ wx.cell? ⟨h, 4, none⟩ = some (.int .i64 vf)) from fun wx k => ⟨HCV.out wx (Ext.trans HVW.out k), ⟨(bg.ext k).c0, (bg.ext k).c1, (bg.ext k).c2, (bg.ext k).c3, (bg.ext k).c4⟩, (bh.ext k).c0, (bh.ext k).c1, (bh.ext k).c2, (bh.ext k).c3, (bh.ext k).c4⟩)
        have st : Ext W3 W3 := Ext.refl _
        have HP := Lib.hid (show ∀ wx, Ext W3 wx → NumV wx (.agg #[.int .i64 ic, .bool yb, .bool yn, .slice yo yk yc, .int .i64 yf]) ic dc from fun wx k => ⟨_, _, _, _, _, _, rfl, hp.ext k⟩)
        have HQ := Lib.hid (show ∀ wx, Ext W3 wx → NumV wx (.agg #[.int .i64 ib, .bool vb, .bool vn, .slice vo vk vc, .int .i64 vf]) ib db from fun wx k => ⟨_, _, _, _, _, _, rfl, hq.ext k⟩)
        have HTW := Lib.hid (fun wx (k : Ext W3 wx) => HTV.out wx (Ext.trans HVW.out k))
        clear hp hq bg bh
        obtain ⟨⟨⟨c0, c1⟩, c2, c3⟩, ⟨x0, x1, x2, x3, x4⟩, y0, y1, y2, y3, y4⟩ := HC5.out _ st
        go_wp2_with fail
        refine (L3.out _ _ _ (HQ.out _ st) (HP.out _ st) (HTW.out _ st)).mono ?_
        rintro r v8 ⟨rfl, hE⟩
        have st : Ext W3 v8 := Ext.trans st hE
        clear hE
        clear c0 c1 c2 c3 x0 x1 x2 x3 x4 y0 y1 y2 y3 y4
        cases ok with
        | false =>
          have hbx := HZ.out _ (Ext.trans HVW.out st)
          have q0 := hbx.c0
          have q1 := hbx.c1
          have q2 := hbx.f 0
          have q3 := hbx.f 1
          have hst := hbx.stored 0 0
          have z0 := hst.c0
          have z1 := hst.c1
          have HF := Lib.hid ((HB.out.trans (Below.mono (Ext.trans HVW.out st) (by have := HBV.out; omega))).trans ((only_iset2 v8 (B + 1 + 1) (.int .u64 0) (.int .u64 0)).below (by omega)))
          clear hst
          go_wp2
          refine bodyPost_ret (v := .tuple #[.agg #[.int .u64 0, .int .u64 0], .bool false]) (by simp [results, Tryz.results38, go_sem, z0, z1]) rfl ⟨rfl, ?_⟩
          show Below _ _ _
          rw [HBe.out]
          exact HF.out
        | true =>
          obtain ⟨⟨⟨c0, c1⟩, c2, c3⟩, ⟨x0, x1, x2, x3, x4⟩, y0, y1, y2, y3, y4⟩ := HC5.out _ st
          go_wp2_with fail
          refine (OW.out _ _ _ (HP.out _ st) (HQ.out _ st) (HTW.out _ st)).mono ?_
          rintro r v9 ⟨rfl, hE⟩
          have st : Ext W3 v9 := Ext.trans st hE
          clear hE
          clear c0 c1 c2 c3 x0 x1 x2 x3 x4 y0 y1 y2 y3 y4
          have hbx := HZ.out _ (Ext.trans HVW.out st)
          have q0 := hbx.c0
          have q1 := hbx.c1
          have q2 := hbx.f 0
          have q3 := hbx.f 1
          have hst := hbx.stored rx ry
          have z0 := hst.c0
          have z1 := hst.c1
          have HF := Lib.hid ((HB.out.trans (Below.mono (Ext.trans HVW.out st) (by have := HBV.out; omega))).trans ((only_iset2 v9 (B + 1 + 1) (.int .u64 rx) (.int .u64 ry)).below (by omega)))
          clear hst
          go_wp2
          refine bodyPost_ret (v := .tuple #[.agg #[.int .u64 rx, .int .u64 ry], .bool true]) (by simp [results, Tryz.results38, go_sem, z0, z1]) rfl ⟨rfl, ?_⟩
          show Below _ _ _
          rw [HBe.out]
          exact HF.out
    | false =>
      obtain rfl : ia = ip := by simpa using PI.out.symm
      obtain rfl : da = dp := by simpa using PD.out.symm
      obtain ⟨W2, hW2, hE2⟩ : ∃ W2, W2 = _ ∧ Ext U W2 := ⟨_, rfl, st⟩
      rw [← hW2]
      have bg := bg.ext hE2
      have bh := bh.ext hE2
      have hp := hu.ext hE2
      have hv := hv.ext hE2
      have HVW := Lib.hid (Ext.trans HVW.out hE2)
      clear hW2 hE2 st HC5 HP0
      have HC5 := Lib.hid (show ∀ wx, Ext W2 wx → ((wx.cell? ⟨B, 0, none⟩ = some (.int .u64 (a : Int)) ∧ wx.cell? ⟨B, 1, none⟩ = some (.int .u64 (b : Int))) ∧ (wx.cell? ⟨B + 1, 0, none⟩ = some (.int .u64 (c : Int)) ∧ wx.cell? ⟨B + 1, 1, none⟩ = some (.int .u64 (d : Int)))) ∧ (wx.cell? ⟨g, 0, none⟩ = some (.int .i64 ia) ∧ wx.cell? ⟨g, 1, none⟩ = some (.bool ub) ∧ wx.cell? ⟨g, 2, none⟩ = some (.bool un) ∧ wx.cell? ⟨g, 3, none⟩ = some (.slice uo uk uc) ∧ wx.cell? ⟨g, 4, none⟩ = some (.int .i64 uf)) ∧ (wx.cell? ⟨h, 0, none⟩ = some (.int .i64 ib) ∧ wx.cell? ⟨h, 1, none⟩ = some (.bool vb) ∧ wx.cell? ⟨h, 2, none⟩ = some (.bool vn) ∧ wx.cell? ⟨h, 3, none⟩ = some (.slice vo vk vc) ∧ wx.cell? ⟨h, 4, none⟩ = some (.int .i64 vf)) from fun wx k => ⟨HCV.out wx (Ext.trans HVW.out k), ⟨(bg.ext k).c0, (bg.ext k).c1, (bg.ext k).c2, (bg.ext k).c3, (bg.ext k).c4⟩, (bh.ext k).c0, (bh.ext k).c1, (bh.ext k).c2, (bh.ext k).c3, (bh.ext k).c4⟩)
      have st : Ext W2 W2 := Ext.refl _
      have HQ0 := Lib.hid (show ∀ wx, Ext W2 wx → NumV wx (.agg #[.int .i64 ib, .bool vb, .bool vn, .slice vo vk vc, .int .i64 vf]) ib db from fun wx k => ⟨_, _, _, _, _, _, rfl, hv.ext k⟩)
      obtain ⟨⟨⟨c0, c1⟩, c2, c3⟩, ⟨x0, x1, x2, x3, x4⟩, y0, y1, y2, y3, y4⟩ := HC5.out _ st
      go_upto_region 6 with fail
      have st : Ext W2 _ := st.drew
      go_region_held3 (fun wx => ((wx.cell? ⟨B, 0, none⟩ = some (.int .u64 (a : Int)) ∧ wx.cell? ⟨B, 1, none⟩ = some (.int .u64 (b : Int))) ∧ (wx.cell? ⟨B + 1, 0, none⟩ = some (.int .u64 (c : Int)) ∧ wx.cell? ⟨B + 1, 1, none⟩ = some (.int .u64 (d : Int)))) ∧ (wx.cell? ⟨g, 0, none⟩ = some (.int .i64 ia) ∧ wx.cell? ⟨g, 1, none⟩ = some (.bool ub) ∧ wx.cell? ⟨g, 2, none⟩ = some (.bool un) ∧ wx.cell? ⟨g, 3, none⟩ = some (.slice uo uk uc) ∧ wx.cell? ⟨g, 4, none⟩ = some (.int .i64 uf)) ∧ (wx.cell? ⟨h, 0, none⟩ = some (.int .i64 ib) ∧ wx.cell? ⟨h, 1, none⟩ = some (.bool vb) ∧ wx.cell? ⟨h, 2, none⟩ = some (.bool vn) ∧ wx.cell? ⟨h, 3, none⟩ = some (.slice vo vk vc) ∧ wx.cell? ⟨h, 4, none⟩ = some (.int .i64 vf)))
        (first | exact HC5.out _ (by with_reducible assumption))
        (first
          | (go_at_call 85; (with_reducible refine (ND.out _ (HTV.out _ (Ext.trans HVW.out (by with_reducible assumption)))).mono ?_); rintro r wn ⟨vd, rfl, hvd, hE⟩; have st : Ext W2 wn := Ext.trans (by with_reducible assumption) hE; clear hE)
          | (go_at_call 99; (refine (L2.out _ _ _ (by exact hvd) (HQ0.out _ (by with_reducible assumption)) (HTV.out _ (Ext.trans HVW.out (by with_reducible assumption)))).mono ?_); rintro r wn ⟨rfl, hE⟩; have st : Ext W2 wn := Ext.trans (by with_reducible assumption) hE; clear hE)
        )
      clear c0 c1 c2 c3 x0 x1 x2 x3 x4 y0 y1 y2 y3 y4
      cases l2 with
      | true =>
        obtain rfl : id = iq := by simpa using QI.out.symm
        obtain rfl : dd = dq := by simpa using QD.out.symm
        have hnone := trivial
        obtain ⟨⟨⟨c0, c1⟩, c2, c3⟩, ⟨x0, x1, x2, x3, x4⟩, y0, y1, y2, y3, y4⟩ := HC5.out _ st
        go_wp2_with fail
        refine (ND.out _ (HTV.out _ (Ext.trans HVW.out st))).mono ?_
        rintro r vs ⟨vnew, rfl, ⟨zb, zn, zo, zk, zc, zf, rfl, hnew⟩, hE⟩
        have st : Ext W2 vs := Ext.trans st hE
        clear hE
        clear c0 c1 c2 c3 x0 x1 x2 x3 x4 y0 y1 y2 y3 y4
        obtain ⟨⟨⟨c0, c1⟩, c2, c3⟩, ⟨x0, x1, x2, x3, x4⟩, y0, y1, y2, y3, y4⟩ := HC5.out _ st
        have bg := bg.ext st
        have bh := bh.ext st
        have f0 := bh.f 0
        have f1 := bh.f 1
        have f2 := bh.f 2
        have f3 := bh.f 3
        have f4 := bh.f 4
        have ho := hp.ext st
        go_upto_region 8 with fail
        have N5 := np_set (i := id) (V := V) bh bg (by omega) hnew ho (Ext.trans HVW.out st) (by omega)
        obtain ⟨W3, hW2⟩ : ∃ W3 : World, (((((vs.setCell ⟨h, 0, none⟩ (.int .i64 id)).setCell ⟨h, 1, none⟩ (.bool zb)).setCell ⟨h, 2, none⟩ (.bool zn)).setCell ⟨h, 3, none⟩ (.slice zo zk zc)).setCell ⟨h, 4, none⟩ (.int .i64 zf)) = W3 := ⟨_, rfl⟩
        rw [hW2] at N5 ⊢
        clear hW2 bg bh f0 f1 f2 f3 f4 HC5 st
        clear c0 c1 c2 c3 x0 x1 x2 x3 x4 y0 y1 y2 y3 y4
        obtain ⟨bh, bg, hnew, hp, hE⟩ := N5
        have HVW := Lib.hid hE
        clear hE
        have hq := hnew
        have HC5 := Lib.hid (show ∀ wx, Ext W3 wx → ((wx.cell? ⟨B, 0, none⟩ = some (.int .u64 (a : Int)) ∧ wx.cell? ⟨B, 1, none⟩ = some (.int .u64 (b : Int))) ∧ (wx.cell? ⟨B + 1, 0, none⟩ = some (.int .u64 (c : Int)) ∧ wx.cell? ⟨B + 1, 1, none⟩ = some (.int .u64 (d : Int)))) ∧ (wx.cell? ⟨g, 0, none⟩ = some (.int .i64 ia) ∧ wx.cell? ⟨g, 1, none⟩ = some (.bool ub) ∧ wx.cell? ⟨g, 2, none⟩ = some (.bool un) ∧ wx.cell? ⟨g, 3, none⟩ = some (.slice uo uk uc) ∧ wx.cell? ⟨g, 4, none⟩ = some (.int .i64 uf)) ∧ (wx.cell? ⟨h, 0, none⟩ = some (.int .i64 id) ∧ wx.cell? ⟨h, 1, none⟩ = some (.bool zb) ∧ wx.cell? ⟨h, 2, none⟩ = some (.bool zn) ∧ wx.cell? ⟨h, 3, none⟩ = some (.slice zo zk zc) ∧ wx.cell? ⟨h, 4, none⟩ = some (.int .i64 zf)) from fun wx k => ⟨HCV.out wx (Ext.trans HVW.out k), ⟨(bg.ext k).c0, (bg.ext k).c1, (bg.ext k).c2, (bg.ext k).c3, (bg.ext k).c4⟩, (bh.ext k).c0, (bh.ext k).c1, (bh.ext k).c2, (bh.ext k).c3, (bh.ext k).c4⟩)
        have st : Ext W3 W3 := Ext.refl _
        have HP := Lib.hid (show ∀ wx, Ext W3 wx → NumV wx (.agg #[.int .i64 ia, .bool ub, .bool un, .slice uo uk uc, .int .i64 uf]) ia da from fun wx k => ⟨_, _, _, _, _, _, rfl, hp.ext k⟩)
        have HQ := Lib.hid (show ∀ wx, Ext W3 wx → NumV wx (.agg #[.int .i64 id, .bool zb, .bool zn, .slice zo zk zc, .int .i64 zf]) id dd from fun wx k => ⟨_, _, _, _, _, _, rfl, hq.ext k⟩)
        have HTW := Lib.hid (fun wx (k : Ext W3 wx) => HTV.out wx (Ext.trans HVW.out k))
        clear hp hq bg bh
        obtain ⟨⟨⟨c0, c1⟩, c2, c3⟩, ⟨x0, x1, x2, x3, x4⟩, y0, y1, y2, y3, y4⟩ := HC5.out _ st
        go_wp2_with fail
        refine (L3.out _ _ _ (HQ.out _ st) (HP.out _ st) (HTW.out _ st)).mono ?_
        rintro r v8 ⟨rfl, hE⟩
        have st : Ext W3 v8 := Ext.trans st hE
        clear hE
        clear c0 c1 c2 c3 x0 x1 x2 x3 x4 y0 y1 y2 y3 y4
        cases ok with
        | false =>
          have hbx := HZ.out _ (Ext.trans HVW.out st)
          have q0 := hbx.c0
          have q1 := hbx.c1
          have q2 := hbx.f 0
          have q3 := hbx.f 1
          have hst := hbx.stored 0 0
          have z0 := hst.c0
          have z1 := hst.c1
          have HF := Lib.hid ((HB.out.trans (Below.mono (Ext.trans HVW.out st) (by have := HBV.out; omega))).trans ((only_iset2 v8 (B + 1 + 1) (.int .u64 0) (.int .u64 0)).below (by omega)))
          clear hst
          go_wp2
          refine bodyPost_ret (v := .tuple #[.agg #[.int .u64 0, .int .u64 0], .bool false]) (by simp [results, Tryz.results38, go_sem, z0, z1]) rfl ⟨rfl, ?_⟩
          show Below _ _ _
          rw [HBe.out]
          exact HF.out
        | true =>
          obtain ⟨⟨⟨c0, c1⟩, c2, c3⟩, ⟨x0, x1, x2, x3, x4⟩, y0, y1, y2, y3, y4⟩ := HC5.out _ st
          go_wp2_with fail
          refine (OW.out _ _ _ (HP.out _ st) (HQ.out _ st) (HTW.out _ st)).mono ?_
          rintro r v9 ⟨rfl, hE⟩
          have st : Ext W3 v9 := Ext.trans st hE
          clear hE
          clear c0 c1 c2 c3 x0 x1 x2 x3 x4 y0 y1 y2 y3 y4
          have hbx := HZ.out _ (Ext.trans HVW.out st)
          have q0 := hbx.c0
          have q1 := hbx.c1
          have q2 := hbx.f 0
          have q3 := hbx.f 1
          have hst := hbx.stored rx ry
          have z0 := hst.c0
          have z1 := hst.c1
          have HF := Lib.hid ((HB.out.trans (Below.mono (Ext.trans HVW.out st) (by have := HBV.out; omega))).trans ((only_iset2 v9 (B + 1 + 1) (.int .u64 rx) (.int .u64 ry)).below (by omega)))
          clear hst
          go_wp2
          refine bodyPost_ret (v := .tuple #[.agg #[.int .u64 rx, .int .u64 ry], .bool true]) (by simp [results, Tryz.results38, go_sem, z0, z1]) rfl ⟨rfl, ?_⟩
          show Below _ _ _
          rw [HBe.out]
          exact HF.out
      | false =>
        obtain rfl : ib = iq := by simpa using QI.out.symm
        obtain rfl : db = dq := by simpa using QD.out.symm
        obtain ⟨W3, hW3, hE3⟩ : ∃ W3, W3 = _ ∧ Ext W2 W3 := ⟨_, rfl, st⟩
        rw [← hW3]
        have bg := bg.ext hE3
        have bh := bh.ext hE3
        have hp := hp.ext hE3
        have hq := hv.ext hE3
        have HVW := Lib.hid (Ext.trans HVW.out hE3)
        clear hW3 hE3 st HC5 HQ0
        have HC5 := Lib.hid (show ∀ wx, Ext W3 wx → ((wx.cell? ⟨B, 0, none⟩ = some (.int .u64 (a : Int)) ∧ wx.cell? ⟨B, 1, none⟩ = some (.int .u64 (b : Int))) ∧ (wx.cell? ⟨B + 1, 0, none⟩ = some (.int .u64 (c : Int)) ∧ wx.cell? ⟨B + 1, 1, none⟩ = some (.int .u64 (d : Int)))) ∧ (wx.cell? ⟨g, 0, none⟩ = some (.int .i64 ia) ∧ wx.cell? ⟨g, 1, none⟩ = some (.bool ub) ∧ wx.cell? ⟨g, 2, none⟩ = some (.bool un) ∧ wx.cell? ⟨g, 3, none⟩ = some (.slice uo uk uc) ∧ wx.cell? ⟨g, 4, none⟩ = some (.int .i64 uf)) ∧ (wx.cell? ⟨h, 0, none⟩ = some (.int .i64 ib) ∧ wx.cell? ⟨h, 1, none⟩ = some (.bool vb) ∧ wx.cell? ⟨h, 2, none⟩ = some (.bool vn) ∧ wx.cell? ⟨h, 3, none⟩ = some (.slice vo vk vc) ∧ wx.cell? ⟨h, 4, none⟩ = some (.int .i64 vf)) from fun wx k => ⟨HCV.out wx (Ext.trans HVW.out k), ⟨(bg.ext k).c0, (bg.ext k).c1, (bg.ext k).c2, (bg.ext k).c3, (bg.ext k).c4⟩, (bh.ext k).c0, (bh.ext k).c1, (bh.ext k).c2, (bh.ext k).c3, (bh.ext k).c4⟩)
        have st : Ext W3 W3 := Ext.refl _
        have HP := Lib.hid (show ∀ wx, Ext W3 wx → NumV wx (.agg #[.int .i64 ia, .bool ub, .bool un, .slice uo uk uc, .int .i64 uf]) ia da from fun wx k => ⟨_, _, _, _, _, _, rfl, hp.ext k⟩)
        have HQ := Lib.hid (show ∀ wx, Ext W3 wx → NumV wx (.agg #[.int .i64 ib, .bool vb, .bool vn, .slice vo vk vc, .int .i64 vf]) ib db from fun wx k => ⟨_, _, _, _, _, _, rfl, hq.ext k⟩)
        have HTW := Lib.hid (fun wx (k : Ext W3 wx) => HTV.out wx (Ext.trans HVW.out k))
        clear hp hq bg bh
        obtain ⟨⟨⟨c0, c1⟩, c2, c3⟩, ⟨x0, x1, x2, x3, x4⟩, y0, y1, y2, y3, y4⟩ := HC5.out _ st
        go_wp2_with fail
        refine (L3.out _ _ _ (HQ.out _ st) (HP.out _ st) (HTW.out _ st)).mono ?_
        rintro r v8 ⟨rfl, hE⟩
        have st : Ext W3 v8 := Ext.trans st hE
        clear hE
        clear c0 c1 c2 c3 x0 x1 x2 x3 x4 y0 y1 y2 y3 y4
        cases ok with
        | false =>
          have hbx := HZ.out _ (Ext.trans HVW.out st)
          have q0 := hbx.c0
          have q1 := hbx.c1
          have q2 := hbx.f 0
          have q3 := hbx.f 1
          have hst := hbx.stored 0 0
          have z0 := hst.c0
          have z1 := hst.c1
          have HF := Lib.hid ((HB.out.trans (Below.mono (Ext.trans HVW.out st) (by have := HBV.out; omega))).trans ((only_iset2 v8 (B + 1 + 1) (.int .u64 0) (.int .u64 0)).below (by omega)))
          clear hst
          go_wp2
          refine bodyPost_ret (v := .tuple #[.agg #[.int .u64 0, .int .u64 0], .bool false]) (by simp [results, Tryz.results38, go_sem, z0, z1]) rfl ⟨rfl, ?_⟩
          show Below _ _ _
          rw [HBe.out]
          exact HF.out
        | true =>
          obtain ⟨⟨⟨c0, c1⟩, c2, c3⟩, ⟨x0, x1, x2, x3, x4⟩, y0, y1, y2, y3, y4⟩ := HC5.out _ st
          go_wp2_with fail
          refine (OW.out _ _ _ (HP.out _ st) (HQ.out _ st) (HTW.out _ st)).mono ?_
          rintro r v9 ⟨rfl, hE⟩
          have st : Ext W3 v9 := Ext.trans st hE
          clear hE
          clear c0 c1 c2 c3 x0 x1 x2 x3 x4 y0 y1 y2 y3 y4
          have hbx := HZ.out _ (Ext.trans HVW.out st)
          have q0 := hbx.c0
          have q1 := hbx.c1
          have q2 := hbx.f 0
          have q3 := hbx.f 1
          have hst := hbx.stored rx ry
          have z0 := hst.c0
          have z1 := hst.c1
          have HF := Lib.hid ((HB.out.trans (Below.mono (Ext.trans HVW.out st) (by have := HBV.out; omega))).trans ((only_iset2 v9 (B + 1 + 1) (.int .u64 rx) (.int .u64 ry)).below (by omega)))
          clear hst
          go_wp2
          refine bodyPost_ret (v := .tuple #[.agg #[.int .u64 rx, .int .u64 ry], .bool true]) (by simp [results, Tryz.results38, go_sem, z0, z1]) rfl ⟨rfl, ?_⟩
          show Below _ _ _
          rw [HBe.out]
          exact HF.out
end Go.Proofs.YtecaaklbhhjcjaaGreatDoor
