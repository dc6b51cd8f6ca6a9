import Derived.Test.YtekocoklfnojmaaGreatDoorIMiddleU46
import Derived.Test.YtekocoklfnojmaaGreatDoorIMiddleU43
import Derived.Test.YtekocoklfnojmaaGreatDoorIMiddleU39
namespace Go.Proofs.YtekocoklfnojmaaGreatDoor
open Go.RowKit

set_option maxRecDepth 100000 in
set_option maxHeartbeats 32000000 in
theorem imiddleL_any (a b p : Nat) (ha : a < 18446744073709551616) (hb : b < 18446744073709551616) (lp : p < 18446744073709551616) (w : World) (hT : Table w) (hT6 : Table64 w) :
    Calls Tryz.prog 6 #[.agg #[.int .u64 (a : Int), .int .u64 (b : Int)], .int .u64 (p : Int)] w fun r w' => r = .returned (.bool true) ∧ Ext w w' := by
  obtain ⟨u, hu⟩ : ∃ u, validF a b = u := ⟨_, rfl⟩
  have CX := Lib.hid (fun w => refValid_any a b ha hb u hu w)
  have HT := Lib.hid hT
  have HT6 := Lib.hid hT6
  have CA := Lib.hid iawake_any
  go_enter Tryz.func6, Tryz.ntmps6
  go_upto_region 1 with fail
  obtain ⟨V, hW, hB, hx, hsz⟩ := ibox_new w a b
  rw [← hW]
  clear hW
  have HB := Lib.hid hB
  generalize w.heap.size = B at hx ⊢
  clear hB hsz hT hT6
  have HC := Lib.hid (show ∀ wx, Ext V wx → wx.cell? ⟨B, 0, none⟩ = some (.int .u64 (a : Int)) ∧ wx.cell? ⟨B, 1, none⟩ = some (.int .u64 (b : Int)) from fun wx h => ⟨(hx.below h).c0, (hx.below h).c1⟩)
  clear hx
  have HTV := Lib.hid (show ∀ wx, Ext V wx → Table wx from fun wx h => (HT.out.below HB.out).below h)
  have HT6V := Lib.hid (show ∀ wx, Ext V wx → Table64 wx from fun wx h => (HT6.out.below HB.out).below h)
  clear HT HT6
  have st : Ext V V := Ext.refl _
  obtain ⟨a0, a1⟩ := HC.out _ st
  cases u with
  | false =>
    have K1 := Lib.hid (fun w => imid_no a b ha hb hu w)
    have K2 := Lib.hid (fun w => irad_no a b ha hb hu w)
    clear hu ha hb lp
    go_wp2_with fail
    refine (CX.out _).mono ?_
    rintro r w1 ⟨rfl, hE⟩
    have st : Ext V w1 := Ext.trans st hE
    clear hE
    clear a0 a1
    obtain ⟨a0, a1⟩ := HC.out _ st
    go_wp2_with fail
    refine (K1.out _).mono ?_
    rintro r w2 ⟨rfl, hE⟩
    have st : Ext V w2 := Ext.trans st hE
    clear hE
    clear a0 a1
    obtain ⟨a0, a1⟩ := HC.out _ st
    go_wp2_with fail
    refine (K2.out _).mono ?_
    rintro r w3 ⟨rfl, hE⟩
    have st : Ext V w3 := Ext.trans st hE
    clear hE
    clear a0 a1
    go_wp2_with fail
    refine (CA.out _).mono ?_
    rintro r w9 ⟨rfl, hE⟩
    have HF := Lib.hid (HB.out.trans (Ext.trans st hE))
    go_wp2
    go_ret
    exact ⟨rfl, HF.out⟩
  | true =>
  have g := Good.of ha hb hu
  have im := mid_in g
  obtain ⟨z, hz⟩ : ∃ z, contF a b p = z := ⟨_, rfl⟩
  have CW := Lib.hid (fun w hT => within_any a b p ha hb lp z hz w hT)
  have sz := fun h => mid_size (InI.of ha hb lp (hz.trans h))
  have CP := absF_any p lp
  have CG := fun w => imag_yes a b ha hb hu w
  have CI := fun w => imig_yes a b ha hb hu w
  have t1 := magF_lt a b
  have t2 := migF_lt a b
  have t3 := abs_lt64 p
  generalize magF a b = q1 at *
  generalize migF a b = q2 at *
  generalize fabsF p = q3 at *
  have CP := Lib.hid CP
  have CG := Lib.hid CG
  have CI := Lib.hid CI
  have ZE1 := Lib.hid (fun (h : z = true) w => fcmp_any q3 q1 t3 t1 (sgn3 (frank q3) (frank q1)) true (fcmp_num (sz h).2.2.1 (sz h).1 rfl) w)
  have ZE2 := Lib.hid (fun (h : z = true) w => fcmp_any q2 q3 t2 t3 (sgn3 (frank q2) (frank q3)) true (fcmp_num (sz h).2.1 (sz h).2.2.1 rfl) w)
  have Z1 := Lib.hid (show z = true → sgn3 (frank q3) (frank q1) ≤ 0 from fun h => by have := (sz h).2.2.2.1; unfold sgn3; split <;> (try split) <;> omega)
  have Z2 := Lib.hid (show z = true → sgn3 (frank q2) (frank q3) ≤ 0 from fun h => by have := (sz h).2.2.2.2; unfold sgn3; split <;> (try split) <;> omega)
  generalize sgn3 (frank q3) (frank q1) = e1 at *
  generalize sgn3 (frank q2) (frank q3) = e2 at *
  clear t1 t2 t3 sz hz lp
  have K1 := Lib.hid (fun wx (h : Ext V wx) => imid_yes a b g wx (HTV.out wx h) (HT6V.out wx h))
  have K2 := Lib.hid (fun wx (h : Ext V wx) => irad_yes a b g wx (HTV.out wx h) (HT6V.out wx h))
  have cm := cont_self im
  have rf := rad_fin g
  have lr : radF a b < 18446744073709551616 := plainF_lt (greatF_lt (two_lt (fadd_lt _ fnegF_lt) (fadd_lt _ fnegF_lt)))
  have lm := im.l
  have fm := im.f
  generalize midF a b = m at *
  generalize radF a b = r0 at *
  obtain ⟨fr, hfr⟩ : ∃ f, finB r0 = f := ⟨_, rfl⟩
  have CF := Lib.hid (fun w => isFinite_any r0 lr w)
  rw [hfr] at CF
  have O1 := Lib.hid (fun w hT => fof_at lm rfl w hT)
  have O2 := Lib.hid (fun w hT => fof_at lr rfl w hT)
  have O3 := Lib.hid (fun w hT => fof_at ha rfl w hT)
  have O4 := Lib.hid (fun w hT => fof_at hb rfl w hT)
  have KC := Lib.hid (fun w v (hv : Dg w v (fdy m)) hT => icontains_any a b ha hb v _ true cm w hv hT)
  have Y1 := Lib.hid (fun (h : fr = true) => is_dcmpS (subs_is fm (hfr.trans h)) (fdy_is (rf (hfr.trans h)).1) (by omega))
  have Y2 := Lib.hid (fun (h : fr = true) => is_dcmpS (fdy_is (rf (hfr.trans h)).2.1) (adds_is fm (hfr.trans h)) (by omega))
  have y1 := Lib.hid (show fr = true → ¬ sgn3 (fzs m - fzs r0) (fzs a) > 0 from fun h => by have := (rf (hfr.trans h)).2.2.1; unfold sgn3; split <;> (try split) <;> omega)
  have y2 := Lib.hid (show fr = true → ¬ sgn3 (fzs b) (fzs m + fzs r0) > 0 from fun h => by have := (rf (hfr.trans h)).2.2.2; unfold sgn3; split <;> (try split) <;> omega)
  generalize sgn3 (fzs m - fzs r0) (fzs a) = f1 at *
  generalize sgn3 (fzs b) (fzs m + fzs r0) = f2 at *
  generalize fdy m = dm0 at *
  generalize fdy r0 = dr0 at *
  generalize fdy a = da0 at *
  generalize fdy b = db0 at *
  clear hfr cm rf lr lm fm g im hu ha hb
  go_wp2_with fail
  refine (CX.out _).mono ?_
  rintro r w1 ⟨rfl, hE⟩
  have st : Ext V w1 := Ext.trans st hE
  clear hE
  clear a0 a1
  obtain ⟨a0, a1⟩ := HC.out _ st
  go_upto_region 3 with fail
  have st : Ext _ _ := st.drew
  go_region_held3 (fun wx => wx.cell? ⟨B, 0, none⟩ = some (.int .u64 (a : Int)) ∧ wx.cell? ⟨B, 1, none⟩ = some (.int .u64 (b : Int)))
    (first | exact HC.out _ (by assumption))
    (first
      | (go_at_call 38; (with_reducible refine (K1.out _ (by assumption)).mono ?_); rintro r wn ⟨rfl, hE⟩; have st : Ext V wn := Ext.trans (by assumption) hE; clear hE)
      | (go_at_call 40; (with_reducible refine (K2.out _ (by assumption)).mono ?_); rintro r wn ⟨rfl, hE⟩; have st : Ext V wn := Ext.trans (by assumption) hE; clear hE)
    )
  clear a0 a1
  obtain ⟨a0, a1⟩ := HC.out _ st
  go_upto_region 4 with fail
  have st : Ext _ _ := st.drew
  go_region_held3 (fun wx => wx.cell? ⟨B, 0, none⟩ = some (.int .u64 (a : Int)) ∧ wx.cell? ⟨B, 1, none⟩ = some (.int .u64 (b : Int)))
    (first | exact HC.out _ (by assumption))
    (first
      | (go_at_call 47; (with_reducible refine (O1.out _ (HT6V.out _ (by assumption))).mono ?_); rintro r wn ⟨v1, rfl, h1, hE⟩; have st : Ext V wn := Ext.trans (by assumption) hE; clear hE)
      | (go_at_call 32; (with_reducible refine (KC.out _ _ (by exact h1.dg) (HTV.out _ (by assumption))).mono ?_); rintro r wn ⟨rfl, hE⟩; have st : Ext V wn := Ext.trans (by assumption) hE; clear hE)
    )
  clear a0 a1
  go_wp2_with fail
  refine (CF.out _).mono ?_
  rintro r w5 ⟨rfl, rfl⟩
  cases fr with
  | false =>
    clear Y1 Y2 y1 y2
    obtain ⟨a0, a1⟩ := HC.out _ st
    cases z with
    | false =>
      clear ZE1 ZE2 Z1 Z2
      go_wp2_with fail
      refine (CW.out _ (HTV.out _ st)).mono ?_
      rintro r wb ⟨rfl, hE⟩
      have st : Ext V wb := Ext.trans st hE
      clear hE
      clear a0 a1
      go_wp2_with fail
      refine (CA.out _).mono ?_
      rintro r w9 ⟨rfl, hE⟩
      have HF := Lib.hid (HB.out.trans (Ext.trans st hE))
      go_wp2
      go_ret
      exact ⟨rfl, HF.out⟩
    | true =>
      have z1 := Z1.out rfl
      have z2 := Z2.out rfl
      have ZF1 := Lib.hid (ZE1.out rfl)
      have ZF2 := Lib.hid (ZE2.out rfl)
      clear Z1 Z2 ZE1 ZE2
      go_wp2_with fail
      refine (CW.out _ (HTV.out _ st)).mono ?_
      rintro r wb ⟨rfl, hE⟩
      have st : Ext V wb := Ext.trans st hE
      clear hE
      clear a0 a1
      obtain ⟨a0, a1⟩ := HC.out _ st
      go_upto_region 14 with fail
      have st : Ext V _ := st.drew
      go_cut [13, 14] from 88 (fun p q wx => p = .int .i64 e1 ∧ q = .bool true ∧ Ext V wx)
      case first =>
        go_region_held3 (fun wx => wx.cell? ⟨B, 0, none⟩ = some (.int .u64 (a : Int)) ∧ wx.cell? ⟨B, 1, none⟩ = some (.int .u64 (b : Int)))
          (first | exact HC.out _ (by assumption))
          (first
            | (go_at_call 56; (with_reducible refine (CP.out _).mono ?_); rintro r wa ⟨rfl, rfl⟩)
            | (go_at_call 42; (with_reducible refine (CG.out _).mono ?_); rintro r wn ⟨rfl, hE⟩; have st : Ext V wn := Ext.trans (by assumption) hE; clear hE)
            | (go_at_call 53; (with_reducible refine (ZF1.out _).mono ?_); rintro r wk ⟨rfl, hE⟩; have EF : Ext V wk := Ext.trans (by assumption) hE))
        all_goals
          go_wp2
          go_meet
        all_goals
          exact ⟨rfl, rfl, EF⟩
      case rest =>
        obtain ⟨rfl, rfl, hE⟩ := hcut
        clear st
        have st : Ext V wc := hE
        clear hE
        clear a0 a1
        obtain ⟨a0, a1⟩ := HC.out _ st
        go_wp2_with fail
        refine (CI.out _).mono ?_
        rintro r wd ⟨rfl, hE⟩
        have st : Ext V wd := Ext.trans st hE
        clear hE
        clear a0 a1
        go_wp2_with fail
        refine (CP.out _).mono ?_
        rintro r we ⟨rfl, rfl⟩
        go_wp2_with fail
        refine (ZF2.out _).mono ?_
        rintro r wf ⟨rfl, hE⟩
        have st : Ext V wf := Ext.trans st hE
        clear hE
        go_wp2_with fail
        refine (CA.out _).mono ?_
        rintro r w9 ⟨rfl, hE⟩
        have HF := Lib.hid (HB.out.trans (Ext.trans st hE))
        go_wp2
        go_ret
        exact ⟨rfl, HF.out⟩
  | true =>
    have X1 := Lib.hid (Y1.out rfl)
    have X2 := Lib.hid (Y2.out rfl)
    have x1 := y1.out rfl
    have x2 := y2.out rfl
    clear Y1 Y2 y1 y2
    go_wp2_with fail
    refine (O1.out _ (HT6V.out _ st)).mono ?_
    rintro r u1 ⟨o1, rfl, i1, hE⟩
    have st : Ext V u1 := Ext.trans st hE
    clear hE
    go_wp2_with fail
    refine (O2.out _ (HT6V.out _ st)).mono ?_
    rintro r u2 ⟨o2, rfl, i2, hE⟩
    have st : Ext V u2 := Ext.trans st hE
    have i1 := i1.ext hE
    clear hE
    go_wp2_with fail
    refine (dsub_any _ _ _ _ _ i1.dg i2.dg (HTV.out _ st)).mono ?_
    rintro r u3 ⟨o3, rfl, i3, hE⟩
    have st : Ext V u3 := Ext.trans st hE
    clear hE i1 i2
    go_wp2_with fail
    refine (O1.out _ (HT6V.out _ st)).mono ?_
    rintro r u4 ⟨o4, rfl, i4, hE⟩
    have st : Ext V u4 := Ext.trans st hE
    have i3 := i3.ext hE
    clear hE
    go_wp2_with fail
    refine (O2.out _ (HT6V.out _ st)).mono ?_
    rintro r u5 ⟨o5, rfl, i5, hE⟩
    have st : Ext V u5 := Ext.trans st hE
    have i4 := i4.ext hE
    have i3 := i3.ext hE
    clear hE
    go_wp2_with fail
    refine (dadd_any _ _ _ _ _ i4.dg i5.dg (HTV.out _ st)).mono ?_
    rintro r u6 ⟨o6, rfl, i6, hE⟩
    have st : Ext V u6 := Ext.trans st hE
    have i3 := i3.ext hE
    clear hE i4 i5
    obtain ⟨xb, xn, xo, xk, xc, xe, rfl⟩ := i3.parts
    obtain ⟨yb, yn, yo, yk, yc, ye, rfl⟩ := i6.parts
    go_upto_region 8 with fail
    obtain ⟨W, hW, hB2, bx, bY, hz⟩ := boxes_two_d u6 xb xn xo xk xc xe yb yn yo yk yc ye
    rw [← hW]
    clear hW
    have hB2 : Ext u6 W := hB2
    have HX := Lib.hid (fun wx (h : Ext W wx) => (i3.ext (Ext.trans hB2 h)).dg)
    have HY := Lib.hid (fun wx (h : Ext W wx) => (i6.ext (Ext.trans hB2 h)).dg)
    have HVW := Lib.hid (Ext.trans st hB2)
    have HBW := Lib.hid (Ext.trans HB.out HVW.out)
    have HTW := Lib.hid (fun wx (h : Ext W wx) => HTV.out wx (Ext.trans HVW.out h))
    have HT6W := Lib.hid (fun wx (h : Ext W wx) => HT6V.out wx (Ext.trans HVW.out h))
    clear i3 i6 hz st hB2
    generalize u6.heap.size = D at *
    have HC8 := Lib.hid (show ∀ wx, Ext W wx → (wx.cell? ⟨B, 0, none⟩ = some (.int .u64 (a : Int)) ∧ wx.cell? ⟨B, 1, none⟩ = some (.int .u64 (b : Int))) ∧ (wx.cell? ⟨D, 0, none⟩ = some (.bool xb) ∧ wx.cell? ⟨D, 1, none⟩ = some (.bool xn) ∧ wx.cell? ⟨D, 2, none⟩ = some (.slice xo xk xc) ∧ wx.cell? ⟨D, 3, none⟩ = some (.int .i64 xe)) ∧ (wx.cell? ⟨(D + 1), 0, none⟩ = some (.bool yb) ∧ wx.cell? ⟨(D + 1), 1, none⟩ = some (.bool yn) ∧ wx.cell? ⟨(D + 1), 2, none⟩ = some (.slice yo yk yc) ∧ wx.cell? ⟨(D + 1), 3, none⟩ = some (.int .i64 ye)) from fun wx h => ⟨HC.out wx (Ext.trans HVW.out h), ⟨(bx.ext h).c0, (bx.ext h).c1, (bx.ext h).c2, (bx.ext h).c3⟩, (bY.ext h).c0, (bY.ext h).c1, (bY.ext h).c2, (bY.ext h).c3⟩)
    clear bx bY
    have st : Ext W W := Ext.refl _
    obtain ⟨⟨a0, a1⟩, ⟨x0, x1, x2, x3⟩, y0, y1, y2, y3⟩ := HC8.out _ st
    go_upto_region 8 with fail
    have st : Ext W _ := st.drew
    go_cut [9, 10] from 53 (fun p q wx => p = .int .i64 f1 ∧ q = .bool true ∧ Ext W wx)
    case first =>
      go_region_held3 (fun wx => (wx.cell? ⟨B, 0, none⟩ = some (.int .u64 (a : Int)) ∧ wx.cell? ⟨B, 1, none⟩ = some (.int .u64 (b : Int))) ∧ (wx.cell? ⟨D, 0, none⟩ = some (.bool xb) ∧ wx.cell? ⟨D, 1, none⟩ = some (.bool xn) ∧ wx.cell? ⟨D, 2, none⟩ = some (.slice xo xk xc) ∧ wx.cell? ⟨D, 3, none⟩ = some (.int .i64 xe)) ∧ (wx.cell? ⟨(D + 1), 0, none⟩ = some (.bool yb) ∧ wx.cell? ⟨(D + 1), 1, none⟩ = some (.bool yn) ∧ wx.cell? ⟨(D + 1), 2, none⟩ = some (.slice yo yk yc) ∧ wx.cell? ⟨(D + 1), 3, none⟩ = some (.int .i64 ye)))
        (first | exact HC8.out _ (by assumption))
        (first
          | (go_at_call 47; (with_reducible refine (O3.out _ (HT6W.out _ (by assumption))).mono ?_); rintro r wn ⟨v1, rfl, h1, hE⟩; have st : Ext W wn := Ext.trans (by assumption) hE; clear hE)
          | (go_at_call 55; (refine (dcmp_at (HX.out _ (by assumption)) (by exact h1.dg) (HTW.out _ (by assumption)) X1.out).mono ?_); rintro r wk ⟨rfl, hE⟩; have EF : Ext W wk := Ext.trans (by assumption) hE; clear hE))
      all_goals
        go_wp2
        go_meet
      all_goals
        exact ⟨rfl, rfl, EF⟩
    case rest =>
      obtain ⟨rfl, rfl, hE⟩ := hcut
      clear st
      have st : Ext W wc := hE
      clear hE
      clear a0 a1 x0 x1 x2 x3 y0 y1 y2 y3
      obtain ⟨⟨a0, a1⟩, ⟨x0, x1, x2, x3⟩, y0, y1, y2, y3⟩ := HC8.out _ st
      go_upto_region 9 with fail
      have st : Ext W _ := st.drew
      go_cut [11, 12] from 61 (fun p q wx => p = .int .i64 f2 ∧ q = .bool true ∧ Ext W wx)
      case first =>
        go_region_held3 (fun wx => (wx.cell? ⟨B, 0, none⟩ = some (.int .u64 (a : Int)) ∧ wx.cell? ⟨B, 1, none⟩ = some (.int .u64 (b : Int))) ∧ (wx.cell? ⟨D, 0, none⟩ = some (.bool xb) ∧ wx.cell? ⟨D, 1, none⟩ = some (.bool xn) ∧ wx.cell? ⟨D, 2, none⟩ = some (.slice xo xk xc) ∧ wx.cell? ⟨D, 3, none⟩ = some (.int .i64 xe)) ∧ (wx.cell? ⟨(D + 1), 0, none⟩ = some (.bool yb) ∧ wx.cell? ⟨(D + 1), 1, none⟩ = some (.bool yn) ∧ wx.cell? ⟨(D + 1), 2, none⟩ = some (.slice yo yk yc) ∧ wx.cell? ⟨(D + 1), 3, none⟩ = some (.int .i64 ye)))
          (first | exact HC8.out _ (by assumption))
          (first
            | (go_at_call 47; (with_reducible refine (O4.out _ (HT6W.out _ (by assumption))).mono ?_); rintro r wn ⟨v1, rfl, h1, hE⟩; have st : Ext W wn := Ext.trans (by assumption) hE; clear hE)
            | (go_at_call 55; (refine (dcmp_at (by exact h1.dg) (HY.out _ (by assumption)) (HTW.out _ (by assumption)) X2.out).mono ?_); rintro r wk ⟨rfl, hE⟩; have EF : Ext W wk := Ext.trans (by assumption) hE; clear hE))
        all_goals
          go_wp2
          go_meet
        all_goals
          exact ⟨rfl, rfl, EF⟩
      case rest =>
        obtain ⟨rfl, rfl, hE⟩ := hcut
        clear st
        have st : Ext W wc := hE
        clear hE
        clear a0 a1 x0 x1 x2 x3 y0 y1 y2 y3
        obtain ⟨⟨a0, a1⟩, ⟨x0, x1, x2, x3⟩, y0, y1, y2, y3⟩ := HC8.out _ st
        cases z with
        | false =>
          clear ZE1 ZE2 Z1 Z2
          go_wp2_with fail
          refine (CW.out _ (HTW.out _ st)).mono ?_
          rintro r wb ⟨rfl, hE⟩
          have st : Ext W wb := Ext.trans st hE
          clear hE
          clear a0 a1 x0 x1 x2 x3 y0 y1 y2 y3
          go_wp2_with fail
          refine (CA.out _).mono ?_
          rintro r w9 ⟨rfl, hE⟩
          have HF := Lib.hid (HBW.out.trans (Ext.trans st hE))
          go_wp2
          go_ret
          exact ⟨rfl, HF.out⟩
        | true =>
          have z1 := Z1.out rfl
          have z2 := Z2.out rfl
          have ZF1 := Lib.hid (ZE1.out rfl)
          have ZF2 := Lib.hid (ZE2.out rfl)
          clear Z1 Z2 ZE1 ZE2
          go_wp2_with fail
          refine (CW.out _ (HTW.out _ st)).mono ?_
          rintro r wb ⟨rfl, hE⟩
          have st : Ext W wb := Ext.trans st hE
          clear hE
          clear a0 a1 x0 x1 x2 x3 y0 y1 y2 y3
          obtain ⟨⟨a0, a1⟩, ⟨x0, x1, x2, x3⟩, y0, y1, y2, y3⟩ := HC8.out _ st
          go_upto_region 14 with fail
          have st : Ext W _ := st.drew
          go_cut [13, 14] from 88 (fun p q wx => p = .int .i64 e1 ∧ q = .bool true ∧ Ext W wx)
          case first =>
            go_region_held3 (fun wx => (wx.cell? ⟨B, 0, none⟩ = some (.int .u64 (a : Int)) ∧ wx.cell? ⟨B, 1, none⟩ = some (.int .u64 (b : Int))) ∧ (wx.cell? ⟨D, 0, none⟩ = some (.bool xb) ∧ wx.cell? ⟨D, 1, none⟩ = some (.bool xn) ∧ wx.cell? ⟨D, 2, none⟩ = some (.slice xo xk xc) ∧ wx.cell? ⟨D, 3, none⟩ = some (.int .i64 xe)) ∧ (wx.cell? ⟨(D + 1), 0, none⟩ = some (.bool yb) ∧ wx.cell? ⟨(D + 1), 1, none⟩ = some (.bool yn) ∧ wx.cell? ⟨(D + 1), 2, none⟩ = some (.slice yo yk yc) ∧ wx.cell? ⟨(D + 1), 3, none⟩ = some (.int .i64 ye)))
              (first | exact HC8.out _ (by assumption))
              (first
                | (go_at_call 56; (with_reducible refine (CP.out _).mono ?_); rintro r wa ⟨rfl, rfl⟩)
                | (go_at_call 42; (with_reducible refine (CG.out _).mono ?_); rintro r wn ⟨rfl, hE⟩; have st : Ext W wn := Ext.trans (by assumption) hE; clear hE)
                | (go_at_call 53; (with_reducible refine (ZF1.out _).mono ?_); rintro r wk ⟨rfl, hE⟩; have EF : Ext W wk := Ext.trans (by assumption) hE))
            all_goals
              go_wp2
              go_meet
            all_goals
              exact ⟨rfl, rfl, EF⟩
          case rest =>
            obtain ⟨rfl, rfl, hE⟩ := hcut
            clear st
            have st : Ext W wc := hE
            clear hE
            clear a0 a1 x0 x1 x2 x3 y0 y1 y2 y3
            obtain ⟨⟨a0, a1⟩, ⟨x0, x1, x2, x3⟩, y0, y1, y2, y3⟩ := HC8.out _ st
            go_wp2_with fail
            refine (CI.out _).mono ?_
            rintro r wd ⟨rfl, hE⟩
            have st : Ext W wd := Ext.trans st hE
            clear hE
            clear a0 a1 x0 x1 x2 x3 y0 y1 y2 y3
            go_wp2_with fail
            refine (CP.out _).mono ?_
            rintro r we ⟨rfl, rfl⟩
            go_wp2_with fail
            refine (ZF2.out _).mono ?_
            rintro r wf ⟨rfl, hE⟩
            have st : Ext W wf := Ext.trans st hE
            clear hE
            go_wp2_with fail
            refine (CA.out _).mono ?_
            rintro r w9 ⟨rfl, hE⟩
            have HF := Lib.hid (HBW.out.trans (Ext.trans st hE))
            go_wp2
            go_ret
            exact ⟨rfl, HF.out⟩

theorem imiddleL_int (a b p : Int) (w : World) (ha : 0 ≤ a ∧ a < 18446744073709551616) (hb : 0 ≤ b ∧ b < 18446744073709551616) (hp : 0 ≤ p ∧ p < 18446744073709551616) (hT : Table w) (hT6 : Table64 w) :
    Calls Tryz.prog 6 #[.agg #[.int .u64 a, .int .u64 b], .int .u64 p] w fun r w' => r = .returned (.bool true) ∧ Ext w w' := by
  have h := imiddleL_any a.toNat b.toNat p.toNat (by omega) (by omega) (by omega) w hT hT6
  rw [Int.toNat_of_nonneg ha.1, Int.toNat_of_nonneg hb.1, Int.toNat_of_nonneg hp.1] at h
  exact h
end Go.Proofs.YtekocoklfnojmaaGreatDoor
