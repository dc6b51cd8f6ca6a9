/- FloatMirrors returns true, from what its callees do. -/
import Derived.Test.YtijbdfcenbekmaaDoorCFLaw
namespace Go.Proofs.YtijbdfcenbekmaaDoor
open Go.RowKit

/-- the mirrored rounding of a dyad that is not zero -/
theorem frd_mirror {d : Dy} (h : sgn3 (dm d) 0 ≠ 0) (mode : Int) : frdF (dneg d) (opp mode) = fnegF (frdF d mode) := by
  cases d with
  | none => exact absurd rfl h
  | some p =>
    obtain ⟨m, e⟩ := p
    have hm : m ≠ 0 := fun h0 => h (by subst h0; rfl)
    show rz (-m) e (opp mode) = fnegF (rz m e mode)
    unfold rz
    rw [if_neg hm, if_neg (by omega), rnd_mirror hm]

set_option maxRecDepth 100000 in
set_option maxHeartbeats 8000000 in
theorem fmirrors_any (a b : Nat) (bb nb : Bool) (ao : Option Addr) (n ca : Nat) (f mode : Int) (ha : a < 18446744073709551616) (hb : b < 18446744073709551616) (w : World) (hd : RawD w bb nb ao n ca f) (hT : Table w) :
    Calls Tryd.prog 5 #[.int .u64 (a : Int), .int .u64 (b : Int), .agg #[.bool bb, .bool nb, .slice ao n ca, .int .i64 f], .int .i64 mode] w fun e w' => e = .returned (.bool true) ∧ Ext w w' := by
  obtain ⟨o, ho⟩ : ∃ o, opp mode = o := ⟨_, rfl⟩
  have m1 := fmul_mirror (b := b) ha mode
  have m2 := fdiv_mirror (a := a) hb mode
  have m3 := fadd_mirror ha hb mode
  have m4 := fun d (h : sgn3 (dm d) 0 ≠ 0) => frd_mirror h mode
  rw [ho] at m1 m2 m3 m4
  have CO := Lib.hid (fun w => opposite_any mode o ho w)
  have hxl := @fnegF_lt a
  have hyl := @fnegF_lt b
  obtain ⟨x, hx⟩ : ∃ x, fnegF a = x := ⟨_, rfl⟩
  obtain ⟨y, hy⟩ : ∃ y, fnegF b = y := ⟨_, rfl⟩
  have CX := Lib.hid (fun w => negF_at ha hx w)
  have CY := Lib.hid (fun w => negF_at hb hy w)
  rw [hx] at m1 m3 hxl
  rw [hy] at m2 m3 hyl
  obtain ⟨p, hp⟩ : ∃ p, fmulF a b mode = p := ⟨_, rfl⟩
  obtain ⟨q, hq⟩ : ∃ q, fdivF a b mode = q := ⟨_, rfl⟩
  obtain ⟨s, hs⟩ : ∃ s, faddF a b mode = s := ⟨_, rfl⟩
  obtain ⟨np, hnp⟩ : ∃ np, fnegF p = np := ⟨_, rfl⟩
  obtain ⟨nq, hnq⟩ : ∃ nq, fnegF q = nq := ⟨_, rfl⟩
  obtain ⟨t, ht⟩ : ∃ t, fnegF s = t := ⟨_, rfl⟩
  obtain ⟨s2, hs2⟩ : ∃ s2, faddF x y o = s2 := ⟨_, rfl⟩
  have lp : p < 18446744073709551616 := by rw [← hp]; exact fmul_lt mode
  have lq : q < 18446744073709551616 := by rw [← hq]; exact fdiv_lt mode
  have ls : s < 18446744073709551616 := by rw [← hs]; exact fadd_lt mode hb
  have ls2 : s2 < 18446744073709551616 := by rw [← hs2]; exact fadd_lt o hyl
  have lt : t < 18446744073709551616 := by rw [← ht]; exact fnegF_lt
  rw [hp, hnp] at m1
  rw [hq, hnq] at m2
  rw [hs, ht, hs2] at m3
  have CP := Lib.hid (fun w => mulF_at ha hb hp w)
  have CQ := Lib.hid (fun w => divF_at ha hb hq w)
  have CS := Lib.hid (fun w => addF_at ha hb hs w)
  have CP2 := Lib.hid (fun w => mulF_at hxl hb m1 w)
  have CQ2 := Lib.hid (fun w => divF_at ha hyl m2 w)
  have CS2 := Lib.hid (fun w => addF_at hxl hyl hs2 w)
  have NP := Lib.hid (fun w => negF_at lp hnp w)
  have NQ := Lib.hid (fun w => negF_at lq hnq w)
  have NS := Lib.hid (fun w => negF_at ls ht w)
  obtain ⟨k1, hk1⟩ : ∃ k1, fkind s2 = k1 := ⟨_, rfl⟩
  obtain ⟨k2, hk2⟩ : ∃ k2, fkind t = k2 := ⟨_, rfl⟩
  have K1 := Lib.hid (fun w => kindF_at ls2 hk1 w)
  have K2 := Lib.hid (fun w => kindF_at lt hk2 w)
  have hk : (k1 = 0 ∧ k2 = 0) ∨ (k1 ≠ 0 ∧ s2 = t ∧ k1 = k2) := by
    rcases m3 with h | ⟨h, h'⟩
    · by_cases h0 : k1 = 0
      · left; exact ⟨h0, by rw [← hk2, ← h, hk1, h0]⟩
      · right; exact ⟨h0, h, by rw [← hk2, ← h, hk1]⟩
    · left; exact ⟨by rw [← hk1, h], by rw [← hk2, h']⟩
  have M4 := Lib.hid m4
  have e1 : ((np : Int) != np) = false := by simp
  have e2 : ((nq : Int) != nq) = false := by simp
  have NLT := Lib.hid (fun d => frdF_lt d mode)
  clear m1 m2 m3 m4 ho hxl hyl hx hy hp hq hs hnp hnq ht hs2 lp lq ls ls2 lt hk1 hk2 ha hb
  have HK := Lib.hid hk
  clear hk
  go_enter Tryd.func5, Tryd.ntmps5
  go_upto_region 1 with fail
  obtain ⟨W, hW, hB, hx, hz⟩ := dbox_new w bb nb ao n ca f
  rw [← hW]
  clear hW
  have hd : RawD W bb nb ao n ca f := ⟨hd.1, hd.2.1, fun h => by obtain ⟨zs, hs⟩ := hd.2.2 h; exact ⟨zs, hs.below hB⟩⟩
  have HT := Lib.hid (hT.below hB)
  have HB := Lib.hid (show Ext w W from hB)
  have EX := Lib.hid (Ext.refl W)
  clear hB hT hz
  generalize w.heap.size = B at *
  have HC := Lib.hid (show ∀ wx, Ext W wx → wx.cell? ⟨B, 0, none⟩ = some (.bool bb) ∧ wx.cell? ⟨B, 1, none⟩ = some (.bool nb) ∧ wx.cell? ⟨B, 2, none⟩ = some (.slice ao n ca) ∧ wx.cell? ⟨B, 3, none⟩ = some (.int .i64 f) from fun wx h => ⟨(hx.ext h).c0, (hx.ext h).c1, (hx.ext h).c2, (hx.ext h).c3⟩)
  clear hx
  obtain ⟨c0, c1, c2, c3⟩ := HC.out W (Ext.refl _)
  cases hsl : slimSays n f 20 3000 with
  | false =>
    have CL := Lib.hid (fun w => slim_no_at bb nb ao n ca f w false hsl)
    clear hsl hd
    go_wp2_with fail
    refine (CL.out _).mono ?_
    rintro r w1 ⟨rfl, hE⟩
    clear c0 c1 c2 c3
    have EX := Lib.hid (Ext.trans EX.out hE)
    clear hE
    go_wp2_with fail
    refine (fawake_any _ (HT.out.below EX.out)).mono ?_
    rintro r wz ⟨rfl, hE⟩
    go_wp2
    go_ret
    exact ⟨rfl, HB.out.trans (Ext.trans EX.out hE)⟩
  | true =>
    have CL := Lib.hid (fun w => slim_no_at bb nb ao n ca f w true hsl)
    obtain ⟨d, hdl, -, hnd⟩ := hd.dl hsl (by omega)
    have HD := Lib.hid (fun wx (h : Ext W wx) => hdl.ext h)
    clear hsl hd hdl hnd
    go_wp2_with fail
    refine (CL.out _).mono ?_
    rintro r w1 ⟨rfl, hE⟩
    clear c0 c1 c2 c3
    have EX := Lib.hid (Ext.trans EX.out hE)
    clear hE
    go_wp2_with fail
    refine (CO.out _).mono ?_
    rintro r w2 ⟨rfl, rfl⟩
    go_wp2_with fail
    refine (CX.out _).mono ?_
    rintro r w3 ⟨rfl, rfl⟩
    go_wp2_with fail
    refine (CY.out _).mono ?_
    rintro r w4 ⟨rfl, rfl⟩
    go_wp2_with fail
    refine (CP2.out _).mono ?_
    rintro r w5 ⟨rfl, hE⟩
    have EX := Lib.hid (Ext.trans EX.out hE)
    clear hE
    go_wp2_with fail
    refine (CP.out _).mono ?_
    rintro r w6 ⟨rfl, hE⟩
    have EX := Lib.hid (Ext.trans EX.out hE)
    clear hE
    go_wp2_with fail
    refine (NP.out _).mono ?_
    rintro r w7 ⟨rfl, rfl⟩
    go_wp2_with fail
    refine (CQ2.out _).mono ?_
    rintro r w8 ⟨rfl, hE⟩
    have EX := Lib.hid (Ext.trans EX.out hE)
    clear hE
    go_wp2_with fail
    refine (CQ.out _).mono ?_
    rintro r w9 ⟨rfl, hE⟩
    have EX := Lib.hid (Ext.trans EX.out hE)
    clear hE
    go_wp2_with fail
    refine (NQ.out _).mono ?_
    rintro r wa ⟨rfl, rfl⟩
    go_wp2_with fail
    refine (CS2.out _).mono ?_
    rintro r wb ⟨rfl, hE⟩
    have EX := Lib.hid (Ext.trans EX.out hE)
    clear hE
    go_wp2_with fail
    refine (CS.out _).mono ?_
    rintro r wc ⟨rfl, hE⟩
    have EX := Lib.hid (Ext.trans EX.out hE)
    clear hE
    go_wp2_with fail
    refine (NS.out _).mono ?_
    rintro r wd ⟨rfl, rfl⟩
    rcases HK.out with ⟨q0, q1⟩ | ⟨q0, q1, q2⟩
    · have v1 : (k1 != 0) = false := by rw [q0]; rfl
      have v2 : (k1 != k2) = false := by rw [q0, q1]; rfl
      clear q0 q1
      go_wp2_with fail
      refine (K1.out _).mono ?_
      rintro r we ⟨rfl, rfl⟩
      go_wp2_with fail
      refine (K1.out _).mono ?_
      rintro r wf ⟨rfl, rfl⟩
      go_wp2_with fail
      refine (K2.out _).mono ?_
      rintro r wh ⟨rfl, rfl⟩
      obtain ⟨c0, c1, c2, c3⟩ := HC.out _ EX.out
      go_wp2_with fail
      refine (refDSign_any _ _ _ (HD.out _ EX.out) (HT.out.below EX.out)).mono ?_
      rintro r wg ⟨rfl, hE⟩
      clear c0 c1 c2 c3
      have EX := Lib.hid (Ext.trans EX.out hE)
      clear hE
      by_cases h0 : sgn3 (dm d) 0 = 0
      · have v0 : (sgn3 (dm d) 0 == 0) = true := by rw [h0]; rfl
        clear h0
        go_wp2_with fail
        refine (fawake_any _ (HT.out.below EX.out)).mono ?_
        rintro r wz ⟨rfl, hE⟩
        go_wp2
        go_ret
        exact ⟨rfl, HB.out.trans (Ext.trans EX.out hE)⟩
      · have v0 : (sgn3 (dm d) 0 == 0) = false := beq_eq_false_iff_ne.2 h0
        have hm := M4.out d h0
        obtain ⟨u, hu⟩ : ∃ u, frdF d mode = u := ⟨_, rfl⟩
        obtain ⟨nu, hnu⟩ : ∃ nu, fnegF u = nu := ⟨_, rfl⟩
        have lu := NLT.out d
        rw [hu] at lu hm
        rw [hnu] at hm
        have CU := Lib.hid (fun wx (h : Ext W wx) => frd_at (HD.out wx h).dg (HT.out.below h) hu)
        have CN := Lib.hid (fun wx (h : Ext W wx) => dneg_any _ _ wx (HD.out wx h).dg (HT.out.below h))
        have NU := Lib.hid (fun w => negF_at lu hnu w)
        have HM := Lib.hid hm
        have e3 : ((nu : Int) == nu) = true := by simp
        clear h0 hm hu hnu lu
        obtain ⟨c0, c1, c2, c3⟩ := HC.out _ EX.out
        go_upto_region 12 with fail
        have e0 : Ext W wg.drew := Ext.trans EX.out ((Below.refl _ _).drew)
        have TAG1 := Lib.hid trivial
        go_region_held3 (fun wx => wx.cell? ⟨B, 0, none⟩ = some (.bool bb) ∧ wx.cell? ⟨B, 1, none⟩ = some (.bool nb) ∧ wx.cell? ⟨B, 2, none⟩ = some (.slice ao n ca) ∧ wx.cell? ⟨B, 3, none⟩ = some (.int .i64 f))
          (first | exact HC.out _ (by assumption))
          (first
            | (go_at_call 27; refine (CN.out _ (by assumption)).mono ?_; rintro e wn ⟨v, rfl, hv, hE1⟩; have e1 : Ext W wn := Ext.trans (by assumption) hE1; have CV := Lib.hid (fun wx (h : Ext wn wx) (h2 : Ext W wx) => frd_at (hv.ext h).dg (HT.out.below h2) HM.out); have f1 : Ext wn wn := Ext.refl wn)
            | (go_at_call 20; with_reducible refine (CU.out _ (by assumption)).mono ?_; rintro e wm ⟨rfl, hE1⟩; have e1 : Ext W wm := Ext.trans (by assumption) hE1; first | (have f1 : Ext wn wm := Ext.trans (by assumption) hE1) | skip)
            | (go_at_call 20; with_reducible refine (CV.out _ (by assumption) (by assumption)).mono ?_; rintro e wk ⟨rfl, hE1⟩; have e1 : Ext W wk := Ext.trans (by assumption) hE1; have f1 : Ext wn wk := Ext.trans (by assumption) hE1)
            | (go_at_call 23; refine (NU.out _).mono ?_; rintro e wl ⟨rfl, rfl⟩)
            | (go_at_call 18; refine (fawake_any _ (HT.out.below (by assumption))).mono ?_; rintro e wz ⟨rfl, hE1⟩; have e1 : Ext W wz := Ext.trans (by assumption) hE1))
        all_goals
          have EF : Ext W wz := by assumption
          go_wp2
          go_ret
          exact ⟨rfl, HB.out.trans EF⟩
    · subst q1
      subst q2
      have v1 : (k1 != 0) = true := bne_iff_ne.2 q0
      have v2 : (k1 != k1) = false := by simp
      have v3 : ((s2 : Int) != s2) = false := by simp
      clear q0
      go_wp2_with fail
      refine (K1.out _).mono ?_
      rintro r we ⟨rfl, rfl⟩
      go_wp2_with fail
      refine (K1.out _).mono ?_
      rintro r wf ⟨rfl, rfl⟩
      go_wp2_with fail
      refine (K2.out _).mono ?_
      rintro r wh ⟨rfl, rfl⟩
      obtain ⟨c0, c1, c2, c3⟩ := HC.out _ EX.out
      go_wp2_with fail
      refine (refDSign_any _ _ _ (HD.out _ EX.out) (HT.out.below EX.out)).mono ?_
      rintro r wg ⟨rfl, hE⟩
      clear c0 c1 c2 c3
      have EX := Lib.hid (Ext.trans EX.out hE)
      clear hE
      by_cases h0 : sgn3 (dm d) 0 = 0
      · have v0 : (sgn3 (dm d) 0 == 0) = true := by rw [h0]; rfl
        clear h0
        go_wp2_with fail
        refine (fawake_any _ (HT.out.below EX.out)).mono ?_
        rintro r wz ⟨rfl, hE⟩
        go_wp2
        go_ret
        exact ⟨rfl, HB.out.trans (Ext.trans EX.out hE)⟩
      · have v0 : (sgn3 (dm d) 0 == 0) = false := beq_eq_false_iff_ne.2 h0
        have hm := M4.out d h0
        obtain ⟨u, hu⟩ : ∃ u, frdF d mode = u := ⟨_, rfl⟩
        obtain ⟨nu, hnu⟩ : ∃ nu, fnegF u = nu := ⟨_, rfl⟩
        have lu := NLT.out d
        rw [hu] at lu hm
        rw [hnu] at hm
        have CU := Lib.hid (fun wx (h : Ext W wx) => frd_at (HD.out wx h).dg (HT.out.below h) hu)
        have CN := Lib.hid (fun wx (h : Ext W wx) => dneg_any _ _ wx (HD.out wx h).dg (HT.out.below h))
        have NU := Lib.hid (fun w => negF_at lu hnu w)
        have HM := Lib.hid hm
        have e3 : ((nu : Int) == nu) = true := by simp
        clear h0 hm hu hnu lu
        obtain ⟨c0, c1, c2, c3⟩ := HC.out _ EX.out
        go_upto_region 12 with fail
        have e0 : Ext W wg.drew := Ext.trans EX.out ((Below.refl _ _).drew)
        have TAG1 := Lib.hid trivial
        go_region_held3 (fun wx => wx.cell? ⟨B, 0, none⟩ = some (.bool bb) ∧ wx.cell? ⟨B, 1, none⟩ = some (.bool nb) ∧ wx.cell? ⟨B, 2, none⟩ = some (.slice ao n ca) ∧ wx.cell? ⟨B, 3, none⟩ = some (.int .i64 f))
          (first | exact HC.out _ (by assumption))
          (first
            | (go_at_call 27; refine (CN.out _ (by assumption)).mono ?_; rintro e wn ⟨v, rfl, hv, hE1⟩; have e1 : Ext W wn := Ext.trans (by assumption) hE1; have CV := Lib.hid (fun wx (h : Ext wn wx) (h2 : Ext W wx) => frd_at (hv.ext h).dg (HT.out.below h2) HM.out); have f1 : Ext wn wn := Ext.refl wn)
            | (go_at_call 20; with_reducible refine (CU.out _ (by assumption)).mono ?_; rintro e wm ⟨rfl, hE1⟩; have e1 : Ext W wm := Ext.trans (by assumption) hE1; first | (have f1 : Ext wn wm := Ext.trans (by assumption) hE1) | skip)
            | (go_at_call 20; with_reducible refine (CV.out _ (by assumption) (by assumption)).mono ?_; rintro e wk ⟨rfl, hE1⟩; have e1 : Ext W wk := Ext.trans (by assumption) hE1; have f1 : Ext wn wk := Ext.trans (by assumption) hE1)
            | (go_at_call 23; refine (NU.out _).mono ?_; rintro e wl ⟨rfl, rfl⟩)
            | (go_at_call 18; refine (fawake_any _ (HT.out.below (by assumption))).mono ?_; rintro e wz ⟨rfl, hE1⟩; have e1 : Ext W wz := Ext.trans (by assumption) hE1))
        all_goals
          have EF : Ext W wz := by assumption
          go_wp2
          go_ret
          exact ⟨rfl, HB.out.trans EF⟩

theorem fmirrors_int (a b : Int) (bb nb : Bool) (ao : Option Addr) (n ca : Nat) (f mode : Int) (a0 : 0 ≤ a) (a1 : a < 18446744073709551616) (b0 : 0 ≤ b) (b1 : b < 18446744073709551616) (w : World) (hd : RawD w bb nb ao n ca f) (hT : Table w) :
    Calls Tryd.prog 5 #[.int .u64 a, .int .u64 b, .agg #[.bool bb, .bool nb, .slice ao n ca, .int .i64 f], .int .i64 mode] w fun e w' => e = .returned (.bool true) ∧ Ext w w' := by
  obtain ⟨x, rfl⟩ := Int.eq_ofNat_of_zero_le a0
  obtain ⟨y, rfl⟩ := Int.eq_ofNat_of_zero_le b0
  exact fmirrors_any x y bb nb ao n ca f mode (by omega) (by omega) w hd hT
end Go.Proofs.YtijbdfcenbekmaaDoor
