/- IntegerDivision returns true, from what its callees do. -/
import Derived.Test.YtkifefinbgceeaaDoorBag2
import Derived.Test.YtkifefinbgceeaaDoorRing
import Derived.Deep.CutRange
namespace Go.Proofs.YtkifefinbgceeaaDoor
open Go.RowKit

theorem boxes_two (w : World) (nb : Bool) (ao : Option Addr) (n ca : Nat) (mb : Bool) (bo : Option Addr) (m cb : Nat) :
    ∃ W, W = (w.alloc (.cells #[.bool nb, .slice ao n ca] 24)).alloc (.cells #[.bool mb, .slice bo m cb] 24) ∧ Ext w W ∧ Box W w.heap.size nb ao n ca ∧ Box W (w.heap.size + 1) mb bo m cb := by
  refine ⟨_, rfl, ((Below.refl _ w).alloc (Nat.le_refl _) _).alloc (by simp) _, ?_, ?_⟩
  · exact (Box.new w nb ao n ca).below ((Below.refl _ _).alloc (Nat.le_refl _) _)
  · have := Box.new (w.alloc (.cells #[.bool nb, .slice ao n ca] 24)) mb bo m cb
    simpa using this

theorem sgn3_zero {x : Int} (h : sgn3 x 0 = 0) : x = 0 := by unfold sgn3 at h; split at h <;> (try split at h) <;> omega
theorem sgn3_nonneg {x : Int} (h : 0 ≤ x) : 0 ≤ sgn3 x 0 := by unfold sgn3; split <;> (try split) <;> omega
theorem sgn3_less {x y : Int} (h : x < y) : sgn3 x y = -1 := by unfold sgn3; rw [if_pos h]

set_option maxRecDepth 100000 in
set_option maxHeartbeats 4000000 in
theorem division_yes (nb mb : Bool) (ao bo : Option Addr) (n m ca cb : Nat) (xs ys : List Int) (w : World) (ha : Sl w ao n ca xs) (hb : Sl w bo m cb ys) (hn : n ≤ 40) (hm : m ≤ 40) (hy0 : sgd mb ys ≠ 0) (haw : AwakeSays w) :
    Calls Tryd.prog 6 #[.agg #[.bool nb, .slice ao n ca], .agg #[.bool mb, .slice bo m cb]] w fun e w' => e = .returned (.bool true) ∧ Ext w w' := by
  go_enter Tryd.func6, Tryd.ntmps6
  go_wp2_with fail
  obtain ⟨W, hW, hB, hx, hy⟩ := boxes_two w nb ao n ca mb bo m cb
  rw [← hW]
  clear hW
  have ra := ok_raw (nb := nb) (ha.below hB) 40 hn (by omega)
  have rb := ok_raw (nb := mb) (hb.below hB) 40 hm (by omega)
  have hAW : AwakeSays W := fun w' h => haw w' (hB.trans h)
  generalize sgd nb xs = x at *
  generalize sgd mb ys = y at *
  generalize hg : w.heap.size = B at *
  have HG := Lib.hid hg; clear hg
  have HY := Lib.hid hy0; clear hy0
  have hst : St W W [⟨.agg #[.bool nb, .slice ao n ca], x, 40, false⟩, ⟨.agg #[.bool mb, .slice bo m cb], y, 40, false⟩] :=
    ⟨Ext.refl W, fun p hp => by
      simp only [List.mem_cons, List.not_mem_nil, or_false] at hp
      rcases hp with rfl | rfl
      · exact ra
      · exact rb⟩
  have HB := Lib.hid hB
  clear ha hb ra rb hB haw
  have hcells : ∀ wx, Ext W wx → (wx.cell? ⟨B, 0, none⟩ = some (.bool nb) ∧ wx.cell? ⟨B, 1, none⟩ = some (.slice ao n ca) ∧ wx.cell? ⟨B + 1, 0, none⟩ = some (.bool mb) ∧ wx.cell? ⟨B + 1, 1, none⟩ = some (.slice bo m cb)) := fun wx h =>
    ⟨(hx.below h).c0, (hx.below h).c1, (hy.below h).c0, (hy.below h).c1⟩
  have HC := Lib.hid hcells
  clear hcells
  refine (slim_yes nb ao n ca 40 _ hn).mono ?_
  rintro e w1 ⟨rfl, h1⟩
  have st1 := hst.step h1
  obtain ⟨d0, d1, d2, d3⟩ := HC.out w1 st1.ext
  clear h1
  go_wp2_with fail
  refine (slim_yes mb bo m cb 40 _ hm).mono ?_
  rintro e w2 ⟨rfl, h2⟩
  have st2 := st1.step h2
  clear d0 d1 d2 d3 st1 h2
  obtain ⟨d0, d1, d2, d3⟩ := HC.out w2 st2.ext
  go_wp2_with fail
  obtain ⟨s, hs⟩ : ∃ s, sgn3 y 0 = s := ⟨_, rfl⟩
  have hs0 : (s == 0) = false := beq_eq_false_iff_ne.2 (fun e => HY.out (sgn3_zero (hs.trans e)))
  refine (refSign_bag st2 (List.Mem.tail _ (List.Mem.head _)) s hs).mono ?_
  clear hs
  rintro e w3 ⟨rfl, st3⟩
  clear d0 d1 d2 d3 st2 hst
  obtain ⟨d0, d1, d2, d3⟩ := HC.out w3 st3.ext
  go_wp2_with fail
  refine (divMod_bag st3 (List.Mem.head _) (List.Mem.tail _ (List.Mem.head _)) (by omega) (by omega) HY.out).mono ?_
  rintro e w4 ⟨qn, qo, qk, qc, rn, ro, rk, rc, rfl, hq, hr, st4⟩
  clear d0 d1 d2 d3 st3
  obtain ⟨d0, d1, d2, d3⟩ := HC.out w4 st4.ext
  go_upto_region 4 with fail
  obtain ⟨V, hV, hv, e1, e2⟩ := boxes_two w4 qn qo qk qc rn ro rk rc
  rw [← hV]
  clear hV d0 d1 d2 d3 hq hr
  have stV0 := st4.step hv
  have hWV : Ext W V := stV0.ext
  have stV : St V V _ := ⟨Ext.refl V, stV0.bag⟩
  have hx' := hx.below hWV
  have hy' := hy.below hWV
  have hAV : AwakeSays V := fun w' h => hAW w' (hWV.trans h)
  generalize w4.heap.size = D at *
  have HWV := Lib.hid hWV
  clear hx hy hWV hv st4 stV0 HC hAW
  go_cut [8, 9] from 31 (fun p e wx => ∃ g xn xo xk xc, p = .pointer (some ⟨g, 0, none⟩) ∧ e = .int .i64 0 ∧ Box wx g xn xo xk xc ∧ ∃ r,
    St V wx [⟨.agg #[.bool xn, .slice xo xk xc], x, 80, true⟩, ⟨r, x * y, 80, true⟩, ⟨.agg #[.bool qn, .slice qo qk qc], x / y, 40, true⟩, ⟨.agg #[.bool rn, .slice ro rk rc], x % y, 40, true⟩, ⟨.agg #[.bool nb, .slice ao n ca], x, 40, false⟩, ⟨.agg #[.bool mb, .slice bo m cb], y, 40, false⟩])
  case first =>
    have hcells : ∀ wx, Ext V wx → (wx.cell? ⟨B, 0, none⟩ = some (.bool nb) ∧ wx.cell? ⟨B, 1, none⟩ = some (.slice ao n ca) ∧ wx.cell? ⟨B + 1, 0, none⟩ = some (.bool mb) ∧ wx.cell? ⟨B + 1, 1, none⟩ = some (.slice bo m cb)) := fun wx h =>
      ⟨(hx'.below h).c0, (hx'.below h).c1, (hy'.below h).c0, (hy'.below h).c1⟩
    have HC := Lib.hid hcells
    clear hcells hx' hy' e1 e2
    obtain ⟨d0, d1, d2, d3⟩ := HC.out V (Ext.refl V)
    have std := stV.drew
    go_region_held3 (fun wx => wx.cell? ⟨B, 0, none⟩ = some (.bool nb) ∧ wx.cell? ⟨B, 1, none⟩ = some (.slice ao n ca) ∧ wx.cell? ⟨B + 1, 0, none⟩ = some (.bool mb) ∧ wx.cell? ⟨B + 1, 1, none⟩ = some (.slice bo m cb))
      (first | exact HC.out _ (by first | exact St.ext (by assumption) | exact St.ext (St.alloc (by assumption) _)))
      (first
        | (go_at_call 33; refine (mul_bagE (W := V) (by first | assumption | exact St.alloc (by assumption) _) (by repeat (first | exact List.Mem.head _ | refine List.Mem.tail _ ?_)) (by repeat (first | exact List.Mem.head _ | refine List.Mem.tail _ ?_)) (by omega) (by omega) (by omega)).mono ?_; rintro e wn ⟨r, rfl, hE, stn⟩; first | (have bz : Box wn V.heap.size false none 0 0 := box_after (w := V.drew) hE; have z0 := bz.c0; have z1 := bz.c1; have z2 := bz.f 0; have z3 := bz.f 1) | skip)
        | (go_at_call 40; refine (quo_bagE (W := V) (by first | assumption | exact St.alloc (by assumption) _) (by repeat (first | exact List.Mem.head _ | refine List.Mem.tail _ ?_)) (by repeat (first | exact List.Mem.head _ | refine List.Mem.tail _ ?_)) (by omega) HY.out x rfl).mono ?_; rintro e wn2 ⟨xn, xo, xk, xc, rfl, hE, stn⟩; first | (have bz := box_after hE; have y0 := bz.c0; have y1 := bz.c1; have y2 := bz.f 0; have y3 := bz.f 1; have sts := St.stored stn bz (by exact Below.size (St.ext (by assumption))) xn xo xk xc) | (have bz := Box.below bz hE; have y0 := bz.c0; have y1 := bz.c1; have y2 := bz.f 0; have y3 := bz.f 1; have sts := St.stored stn bz (Nat.le_refl _) xn xo xk xc) | skip))
    all_goals
      go_wp2
      go_meet
    all_goals
      first
        | exact ⟨_, xn, xo, xk, xc, rfl, rfl, bz.stored xn xo xk xc, _, sts⟩
        | exact ⟨_, xn, xo, xk, xc, rfl, rfl, Box.new _ xn xo xk xc, _, stn.alloc _⟩
  case rest =>
    obtain ⟨g, xn, xo, xk, xc, rfl, rfl, hbx, r0, stc0⟩ := hcut
    have hVc := stc0.ext
    have stc : St wc wc _ := ⟨Ext.refl wc, stc0.bag⟩
    have hAC : AwakeSays wc := fun w' h => hAV w' (hVc.trans h)
    have hx := hx'.below hVc
    have hy := hy'.below hVc
    have hq := e1.below hVc
    have hr := e2.below hVc
    have HVC := Lib.hid hVc
    clear hx' hy' e1 e2 hVc stc0 stV hAV
    have hcells : ∀ wx, Ext wc wx → ((wx.cell? ⟨B, 0, none⟩ = some (.bool nb) ∧ wx.cell? ⟨B, 1, none⟩ = some (.slice ao n ca)) ∧ (wx.cell? ⟨B + 1, 0, none⟩ = some (.bool mb) ∧ wx.cell? ⟨B + 1, 1, none⟩ = some (.slice bo m cb)) ∧
        (wx.cell? ⟨D, 0, none⟩ = some (.bool qn) ∧ wx.cell? ⟨D, 1, none⟩ = some (.slice qo qk qc)) ∧ (wx.cell? ⟨D + 1, 0, none⟩ = some (.bool rn) ∧ wx.cell? ⟨D + 1, 1, none⟩ = some (.slice ro rk rc)) ∧
        (wx.cell? ⟨g, 0, none⟩ = some (.bool xn) ∧ wx.cell? ⟨g, 1, none⟩ = some (.slice xo xk xc))) := fun wx h =>
      ⟨⟨(hx.below h).c0, (hx.below h).c1⟩, ⟨(hy.below h).c0, (hy.below h).c1⟩, ⟨(hq.below h).c0, (hq.below h).c1⟩, ⟨(hr.below h).c0, (hr.below h).c1⟩, ⟨(hbx.below h).c0, (hbx.below h).c1⟩⟩
    have HC := Lib.hid hcells
    clear hcells hx hy hq hr hbx
    have heq : x / y * y + x % y = x := by rw [Int.mul_comm]; exact Int.mul_ediv_add_emod x y
    have HEQ := Lib.hid heq; clear heq
    obtain ⟨t, ht, t0⟩ : ∃ t, sgn3 (x % y) 0 = t ∧ 0 ≤ t := ⟨_, rfl, sgn3_nonneg (Int.emod_nonneg _ HY.out)⟩
    have HSG := Lib.hid ht; clear ht
    have hcm : sgn3 (x % y) (y.natAbs : Int) = -1 := sgn3_less (Int.emod_lt x HY.out)
    have HCM := Lib.hid hcm; clear hcm
    obtain ⟨⟨d0, d1⟩, ⟨d2, d3⟩, ⟨d4, d5⟩, ⟨d6, d7⟩, d8, d9⟩ := HC.out wc (Ext.refl wc)
    go_wp2_with fail
    have std := stc.drew
    go_region_held3 (fun wx => (wx.cell? ⟨B, 0, none⟩ = some (.bool nb) ∧ wx.cell? ⟨B, 1, none⟩ = some (.slice ao n ca)) ∧ (wx.cell? ⟨g, 0, none⟩ = some (.bool xn) ∧ wx.cell? ⟨g, 1, none⟩ = some (.slice xo xk xc)))
      (first | exact ⟨(HC.out _ (by exact St.ext (by assumption))).1, (HC.out _ (by exact St.ext (by assumption))).2.2.2.2⟩)
    (first
      | (go_at_call 29; refine (add_bag (W := wc) (by assumption) (by repeat (first | exact List.Mem.head _ | refine List.Mem.tail _ ?_)) (by repeat (first | exact List.Mem.head _ | refine List.Mem.tail _ ?_)) (by omega) (by omega)).mono ?_; rintro e wn ⟨r, rfl, stn⟩)
      | (go_at_call 33; refine (mul_bag (W := wc) (by assumption) (by repeat (first | exact List.Mem.head _ | refine List.Mem.tail _ ?_)) (by repeat (first | exact List.Mem.head _ | refine List.Mem.tail _ ?_)) (by omega) (by omega) (by omega)).mono ?_; rintro e wn ⟨r, rfl, stn⟩)
      | (go_at_call 17; refine (norm_bag (W := wc) (by assumption) (by repeat (first | exact List.Mem.head _ | refine List.Mem.tail _ ?_)) (by omega)).mono ?_; rintro e wn ⟨r, rfl, stn⟩)
      | (go_at_call 27; refine (abs_bag (W := wc) (by assumption) (by repeat (first | exact List.Mem.head _ | refine List.Mem.tail _ ?_)) (by omega)).mono ?_; rintro e wn ⟨r, rfl, stn⟩)
      | (go_at_call 21; refine (sign_bag (W := wc) (by assumption) (by repeat (first | exact List.Mem.head _ | refine List.Mem.tail _ ?_)) _ HSG.out).mono ?_; rintro e wn ⟨rfl, stn⟩)
      | (go_at_call 19; refine (cmp_bag (W := wc) (by assumption) (by repeat (first | exact List.Mem.head _ | refine List.Mem.tail _ ?_)) (by repeat (first | exact List.Mem.head _ | refine List.Mem.tail _ ?_)) _ HCM.out).mono ?_; rintro e wn ⟨rfl, stn⟩)
      | (go_at_call 12; refine (hAC _ (by exact St.ext (by assumption))).mono ?_; rintro e wn ⟨rfl, hwn⟩; have stn := St.step (W := wc) (by assumption) hwn)
      | (go_at_call 16; refine (big_bag (W := wc) (by assumption) (by repeat (first | exact List.Mem.head _ | refine List.Mem.tail _ ?_)) (by repeat (first | exact List.Mem.head _ | refine List.Mem.tail _ ?_)) (by first | rfl | exact HEQ.out)).mono ?_; rintro e wn ⟨rfl, stn⟩))
    clear std stc d0 d1 d2 d3 d4 d5 d6 d7 d8 d9
    obtain ⟨⟨d0, d1⟩, ⟨d2, d3⟩, ⟨d4, d5⟩, ⟨d6, d7⟩, d8, d9⟩ := HC.out _ stn.ext
    go_wp2_with fail
    have std := stn.drew
    go_region_held3 (fun wx => (wx.cell? ⟨B, 0, none⟩ = some (.bool nb) ∧ wx.cell? ⟨B, 1, none⟩ = some (.slice ao n ca)) ∧ (wx.cell? ⟨B + 1, 0, none⟩ = some (.bool mb) ∧ wx.cell? ⟨B + 1, 1, none⟩ = some (.slice bo m cb)) ∧
        (wx.cell? ⟨D, 0, none⟩ = some (.bool qn) ∧ wx.cell? ⟨D, 1, none⟩ = some (.slice qo qk qc)) ∧ (wx.cell? ⟨D + 1, 0, none⟩ = some (.bool rn) ∧ wx.cell? ⟨D + 1, 1, none⟩ = some (.slice ro rk rc)))
      (first | exact ⟨(HC.out _ (by exact St.ext (by assumption))).1, (HC.out _ (by exact St.ext (by assumption))).2.1, (HC.out _ (by exact St.ext (by assumption))).2.2.1, (HC.out _ (by exact St.ext (by assumption))).2.2.2.1⟩)
    (first
      | (go_at_call 29; refine (add_bag (W := wc) (by assumption) (by repeat (first | exact List.Mem.head _ | refine List.Mem.tail _ ?_)) (by repeat (first | exact List.Mem.head _ | refine List.Mem.tail _ ?_)) (by omega) (by omega)).mono ?_; rintro e wn ⟨r, rfl, stn⟩)
      | (go_at_call 33; refine (mul_bag (W := wc) (by assumption) (by repeat (first | exact List.Mem.head _ | refine List.Mem.tail _ ?_)) (by repeat (first | exact List.Mem.head _ | refine List.Mem.tail _ ?_)) (by omega) (by omega) (by omega)).mono ?_; rintro e wn ⟨r, rfl, stn⟩)
      | (go_at_call 17; refine (norm_bag (W := wc) (by assumption) (by repeat (first | exact List.Mem.head _ | refine List.Mem.tail _ ?_)) (by omega)).mono ?_; rintro e wn ⟨r, rfl, stn⟩)
      | (go_at_call 27; refine (abs_bag (W := wc) (by assumption) (by repeat (first | exact List.Mem.head _ | refine List.Mem.tail _ ?_)) (by omega)).mono ?_; rintro e wn ⟨r, rfl, stn⟩)
      | (go_at_call 21; refine (sign_bag (W := wc) (by assumption) (by repeat (first | exact List.Mem.head _ | refine List.Mem.tail _ ?_)) _ HSG.out).mono ?_; rintro e wn ⟨rfl, stn⟩)
      | (go_at_call 19; refine (cmp_bag (W := wc) (by assumption) (by repeat (first | exact List.Mem.head _ | refine List.Mem.tail _ ?_)) (by repeat (first | exact List.Mem.head _ | refine List.Mem.tail _ ?_)) _ HCM.out).mono ?_; rintro e wn ⟨rfl, stn⟩)
      | (go_at_call 12; refine (hAC _ (by exact St.ext (by assumption))).mono ?_; rintro e wn ⟨rfl, hwn⟩; have stn := St.step (W := wc) (by assumption) hwn)
      | (go_at_call 16; refine (big_bag (W := wc) (by assumption) (by repeat (first | exact List.Mem.head _ | refine List.Mem.tail _ ?_)) (by repeat (first | exact List.Mem.head _ | refine List.Mem.tail _ ?_)) (by first | rfl | exact HEQ.out)).mono ?_; rintro e wn ⟨rfl, stn⟩))
    go_wp2
    go_ret
    refine ⟨rfl, ?_⟩
    have h := stn.ext
    exact ((HB.out.trans HWV.out).trans HVC.out).trans h
end Go.Proofs.YtkifefinbgceeaaDoor
