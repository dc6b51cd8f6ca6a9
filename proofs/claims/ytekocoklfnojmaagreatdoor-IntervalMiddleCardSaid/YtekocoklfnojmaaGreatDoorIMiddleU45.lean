import Derived.Test.YtekocoklfnojmaaGreatDoorIMiddleU44
import Derived.Test.YtekocoklfnojmaaGreatDoorIMiddleU28
import Derived.Test.YtekocoklfnojmaaGreatDoorIMiddleU25
import Derived.Test.YtekocoklfnojmaaGreatDoorIMiddleU27
import Derived.Test.YtekocoklfnojmaaGreatDoorIMiddleU43
namespace Go.Proofs.YtekocoklfnojmaaGreatDoor
open Go.RowKit

set_option maxRecDepth 100000 in
set_option maxHeartbeats 4000000 in
theorem imid_no (a b : Nat) (ha : a < 18446744073709551616) (hb : b < 18446744073709551616) (h1 : validF a b = false) (w : World) :
    Calls Tryz.prog 38 #[.agg #[.int .u64 (a : Int), .int .u64 (b : Int)]] w fun e w' => e = .returned (.int .u64 9221120237041090560) ∧ Ext w w' := by
  have C1 := Lib.hid (ivalid_at a b ha hb rfl rfl false h1)
  clear h1 ha hb
  go_enter Tryz.func38, Tryz.ntmps38
  go_upto_region 1 with fail
  obtain ⟨W, hW, hB, hx, hsz⟩ := ibox_new w a b
  rw [← hW]
  clear hW
  have HB := Lib.hid hB
  generalize w.heap.size = B at hx ⊢
  clear hB hsz
  have HC := Lib.hid (show ∀ wx, Ext W wx → wx.cell? ⟨B, 0, none⟩ = some (.int .u64 (a : Int)) ∧ wx.cell? ⟨B, 1, none⟩ = some (.int .u64 (b : Int)) from fun wx h => ⟨(hx.below h).c0, (hx.below h).c1⟩)
  clear hx
  have st : Ext W W := Ext.refl _
  obtain ⟨a0, a1⟩ := HC.out _ st
  go_wp2_with fail
  refine (C1.out _).mono ?_
  rintro r w1 ⟨rfl, hE⟩
  have st : Ext W w1 := Ext.trans st hE
  clear hE a0 a1
  obtain ⟨a0, a1⟩ := HC.out _ st
  have HF := Lib.hid (HB.out.trans st)
  go_wp2
  go_ret
  exact ⟨rfl, HF.out⟩

set_option maxRecDepth 100000 in
set_option maxHeartbeats 8000000 in
theorem imid_yes (a b : Nat) (g : Good a b) (w : World) (hT : Table w) (hT6 : Table64 w) :
    Calls Tryz.prog 38 #[.agg #[.int .u64 (a : Int), .int .u64 (b : Int)]] w fun e w' => e = .returned (.int .u64 ((midF a b : Nat) : Int)) ∧ Ext w w' := by
  have C1 := Lib.hid (ivalid_at a b g.l1 g.l2 rfl rfl true g.valid)
  have ha := g.l1
  have hb := g.l2
  unfold midF
  by_cases hA : a = 18442240474082181120
  · have ea : (a : Int) = 18442240474082181120 := by omega
    rw [if_pos hA]
    rw [ea] at C1 ⊢
    by_cases hBB : b = 9218868437227405312
    · have eb : (b : Int) = 9218868437227405312 := by omega
      rw [if_pos hBB]
      rw [eb] at C1 ⊢
      clear g ha hb ea eb hA hBB
      go_enter Tryz.func38, Tryz.ntmps38
      go_upto_region 1 with fail
      obtain ⟨W, hW, hB, hx, hsz⟩ := ibox_new w 18442240474082181120 9218868437227405312
      rw [← hW]
      clear hW
      have HB := Lib.hid hB
      generalize w.heap.size = B at hx ⊢
      clear hB hsz
      have HC := Lib.hid (show ∀ wx, Ext W wx → wx.cell? ⟨B, 0, none⟩ = some (.int .u64 (18442240474082181120 : Int)) ∧ wx.cell? ⟨B, 1, none⟩ = some (.int .u64 (9218868437227405312 : Int)) from fun wx h => ⟨(hx.below h).c0, (hx.below h).c1⟩)
      clear hx
      have st : Ext W W := Ext.refl _
      obtain ⟨a0, a1⟩ := HC.out _ st
      go_wp2_with fail
      refine (C1.out _).mono ?_
      rintro r w1 ⟨rfl, hE⟩
      have st : Ext W w1 := Ext.trans st hE
      clear hE a0 a1
      obtain ⟨a0, a1⟩ := HC.out _ st
      go_upto_region 3 with fail
      have st : Ext W _ := st.drew
      go_region_held3 (fun wx => wx.cell? ⟨B, 0, none⟩ = some (.int .u64 (18442240474082181120 : Int)) ∧ wx.cell? ⟨B, 1, none⟩ = some (.int .u64 (9218868437227405312 : Int)))
        (first | exact HC.out _ (by assumption))
        (first | (go_at_call 62; (with_reducible refine (whole_any _).mono ?_); rintro r wn ⟨rfl, hE⟩; have st : Ext W wn := Ext.trans (by assumption) hE; clear hE))
      clear a0 a1
      obtain ⟨a0, a1⟩ := HC.out _ st
      have HF := Lib.hid (HB.out.trans st)
      go_wp2
      go_ret
      exact ⟨rfl, HF.out⟩
    · rw [if_neg hBB]
      have hb2 : ((b : Int) == 9218868437227405312) = false := by rw [beq_eq_false_iff_ne]; omega
      have CN := Lib.hid (fun w => negF_any 9218868437227405311 (by decide) w)
      rw [show fnegF 9218868437227405311 = 18442240474082181119 by decide] at CN
      clear g ha hb ea hA hBB
      go_enter Tryz.func38, Tryz.ntmps38
      go_upto_region 1 with fail
      obtain ⟨W, hW, hB, hx, hsz⟩ := ibox_new w 18442240474082181120 b
      rw [← hW]
      clear hW
      have HB := Lib.hid hB
      generalize w.heap.size = B at hx ⊢
      clear hB hsz
      have HC := Lib.hid (show ∀ wx, Ext W wx → wx.cell? ⟨B, 0, none⟩ = some (.int .u64 (18442240474082181120 : Int)) ∧ wx.cell? ⟨B, 1, none⟩ = some (.int .u64 (b : Int)) from fun wx h => ⟨(hx.below h).c0, (hx.below h).c1⟩)
      clear hx
      have st : Ext W W := Ext.refl _
      obtain ⟨a0, a1⟩ := HC.out _ st
      go_wp2_with fail
      refine (C1.out _).mono ?_
      rintro r w1 ⟨rfl, hE⟩
      have st : Ext W w1 := Ext.trans st hE
      clear hE a0 a1
      obtain ⟨a0, a1⟩ := HC.out _ st
      go_upto_region 3 with fail
      have st : Ext W _ := st.drew
      go_region_held3 (fun wx => wx.cell? ⟨B, 0, none⟩ = some (.int .u64 (18442240474082181120 : Int)) ∧ wx.cell? ⟨B, 1, none⟩ = some (.int .u64 (b : Int)))
        (first | exact HC.out _ (by assumption))
        (first | (go_at_call 62; (with_reducible refine (whole_any _).mono ?_); rintro r wn ⟨rfl, hE⟩; have st : Ext W wn := Ext.trans (by assumption) hE; clear hE))
      clear a0 a1
      obtain ⟨a0, a1⟩ := HC.out _ st
      go_wp2_with fail
      refine (CN.out _).mono ?_
      rintro r w7 ⟨rfl, rfl⟩
      have HF := Lib.hid (HB.out.trans st)
      go_wp2
      go_ret
      exact ⟨rfl, HF.out⟩
  · rw [if_neg hA]
    have ha2 : ((a : Int) == 18442240474082181120) = false := by rw [beq_eq_false_iff_ne]; omega
    by_cases hBB : b = 9218868437227405312
    · have eb : (b : Int) = 9218868437227405312 := by omega
      rw [if_pos hBB]
      rw [eb] at C1 ⊢
      clear g ha hb hA hBB eb
      go_enter Tryz.func38, Tryz.ntmps38
      go_upto_region 1 with fail
      obtain ⟨W, hW, hB, hx, hsz⟩ := ibox_new w a 9218868437227405312
      rw [← hW]
      clear hW
      have HB := Lib.hid hB
      generalize w.heap.size = B at hx ⊢
      clear hB hsz
      have HC := Lib.hid (show ∀ wx, Ext W wx → wx.cell? ⟨B, 0, none⟩ = some (.int .u64 (a : Int)) ∧ wx.cell? ⟨B, 1, none⟩ = some (.int .u64 (9218868437227405312 : Int)) from fun wx h => ⟨(hx.below h).c0, (hx.below h).c1⟩)
      clear hx
      have st : Ext W W := Ext.refl _
      obtain ⟨a0, a1⟩ := HC.out _ st
      go_wp2_with fail
      refine (C1.out _).mono ?_
      rintro r w1 ⟨rfl, hE⟩
      have st : Ext W w1 := Ext.trans st hE
      clear hE a0 a1
      obtain ⟨a0, a1⟩ := HC.out _ st
      go_upto_region 3 with fail
      have st : Ext W _ := st.drew
      go_region_held3 (fun wx => wx.cell? ⟨B, 0, none⟩ = some (.int .u64 (a : Int)) ∧ wx.cell? ⟨B, 1, none⟩ = some (.int .u64 (9218868437227405312 : Int)))
        (first | exact HC.out _ (by assumption))
        (first | (go_at_call 62; (with_reducible refine (whole_any _).mono ?_); rintro r wn ⟨rfl, hE⟩; have st : Ext W wn := Ext.trans (by assumption) hE; clear hE))
      clear a0 a1
      obtain ⟨a0, a1⟩ := HC.out _ st
      have HF := Lib.hid (HB.out.trans st)
      go_wp2
      go_ret
      exact ⟨rfl, HF.out⟩
    · rw [if_neg hBB]
      have hb2 : ((b : Int) == 9218868437227405312) = false := by rw [beq_eq_false_iff_ne]; omega
      obtain ⟨X, hX⟩ : ∃ X, fdy a = X := ⟨_, rfl⟩
      obtain ⟨Y, hY⟩ : ∃ Y, fdy b = Y := ⟨_, rfl⟩
      have CO1 := Lib.hid (fun w hT => fof_at ha hX w hT)
      have CO2 := Lib.hid (fun w hT => fof_at hb hY w hT)
      rw [hX, hY]
      obtain ⟨S, hS⟩ : ∃ S, dadd X Y = S := ⟨_, rfl⟩
      rw [hS]
      obtain ⟨R, hR⟩ : ∃ R, frdF (dscale S (-1)) 0 = R := ⟨_, rfl⟩
      rw [hR]
      have HS := Lib.hid hS
      have HR := Lib.hid hR
      have hT := Lib.hid hT
      have hT6 := Lib.hid hT6
      clear g ha hb hA hBB hX hY hS hR
      go_enter Tryz.func38, Tryz.ntmps38
      go_upto_region 1 with fail
      obtain ⟨W, hW, hB, hx, hsz⟩ := ibox_new w a b
      rw [← hW]
      clear hW
      have HB := Lib.hid hB
      generalize w.heap.size = B at hx ⊢
      clear hB hsz
      have HC := Lib.hid (show ∀ wx, Ext W wx → wx.cell? ⟨B, 0, none⟩ = some (.int .u64 (a : Int)) ∧ wx.cell? ⟨B, 1, none⟩ = some (.int .u64 (b : Int)) from fun wx h => ⟨(hx.below h).c0, (hx.below h).c1⟩)
      clear hx
      have st : Ext W W := Ext.refl _
      obtain ⟨a0, a1⟩ := HC.out _ st
      go_wp2_with fail
      refine (C1.out _).mono ?_
      rintro r w1 ⟨rfl, hE⟩
      have st : Ext W w1 := Ext.trans st hE
      clear hE a0 a1
      obtain ⟨a0, a1⟩ := HC.out _ st
      go_upto_region 3 with fail
      have st : Ext W _ := st.drew
      go_region_held3 (fun wx => wx.cell? ⟨B, 0, none⟩ = some (.int .u64 (a : Int)) ∧ wx.cell? ⟨B, 1, none⟩ = some (.int .u64 (b : Int)))
        (first | exact HC.out _ (by assumption))
        (first | (go_at_call 62; (with_reducible refine (whole_any _).mono ?_); rintro r wn ⟨rfl, hE⟩; have st : Ext W wn := Ext.trans (by assumption) hE; clear hE))
      clear a0 a1
      obtain ⟨a0, a1⟩ := HC.out _ st
      obtain ⟨V, hV, hE⟩ : ∃ V, V = wn ∧ Ext W V := ⟨_, rfl, st⟩
      subst hV
      have HWV := Lib.hid hE
      have HCV := Lib.hid (show ∀ wx, Ext V wx → wx.cell? ⟨B, 0, none⟩ = some (.int .u64 (a : Int)) ∧ wx.cell? ⟨B, 1, none⟩ = some (.int .u64 (b : Int)) from fun wx h => HC.out wx (Ext.trans HWV.out h))
      clear st hE
      have HTV := Lib.hid (fun wx (h : Ext V wx) => hT.out.below (Ext.trans (Ext.trans HB.out HWV.out) h))
      have HT6V := Lib.hid (fun wx (h : Ext V wx) => hT6.out.below (Ext.trans (Ext.trans HB.out HWV.out) h))
      go_upto_region 9 with fail
      have st : Ext V V.drew := (Below.refl _ _).drew
      go_cut [3] from 21 (fun p wx => ∃ rb rn ro rk rc re C, p = .pointer (some ⟨C, 0, none⟩) ∧ Dn wx (.agg #[.bool rb, .bool rn, .slice ro rk rc, .int .i64 re]) S ∧ DBox wx C rb rn ro rk rc re ∧ Ext V wx)
      case first =>
        go_region_held3 (fun wx => wx.cell? ⟨B, 0, none⟩ = some (.int .u64 (a : Int)) ∧ wx.cell? ⟨B, 1, none⟩ = some (.int .u64 (b : Int)))
          (first | exact HCV.out _ (by first | assumption | exact exA (by assumption) _ | exact exAD _ _))
          (first
            | (go_at_call 47; (with_reducible refine (CO1.out _ (HT6V.out _ (by first | assumption | exact exA (by assumption) _ | exact exAD _ _))).mono ?_); rintro e w1 ⟨v1, rfl, h1, hw1⟩; have ex1 : Ext V w1 := Ext.trans (by first | assumption | exact exA (by assumption) _ | exact exAD _ _) hw1)
            | (go_at_call 47; (with_reducible refine (CO2.out _ (HT6V.out _ (by first | assumption | exact exA (by assumption) _ | exact exAD _ _))).mono ?_); rintro e w2 ⟨v2, rfl, h2, hw2⟩; have ex2 : Ext V w2 := Ext.trans (by first | assumption | exact exA (by assumption) _ | exact exAD _ _) hw2; have h1 := h1.ext (by first | exact hw2 | exact Ext.trans (exA (Ext.refl _) _) hw2))
            | (go_at_call 48; refine (dadd_any _ _ _ _ _ (by first | exact h1.dg | exact (h1.ext (exA (Ext.refl _) _)).dg) (by first | exact h2.dg | exact (h2.ext (exA (Ext.refl _) _)).dg) (by exact HTV.out _ (by first | assumption | exact exA (by assumption) _ | exact exAD _ _))).mono ?_; rintro e w3 ⟨v3, rfl, h3, hw3⟩; have ex3 : Ext V w3 := Ext.trans (by first | assumption | exact exA (by assumption) _ | exact exAD _ _) hw3; rw [HS.out] at h3; obtain ⟨rb, rn, ro, rk, rc, re, rfl⟩ := h3.parts; first | (have bz := dbA (w := w2) hw3; have y0 := bz.c0; have y1 := bz.c1; have y2 := bz.c2; have y3 := bz.c3; have g0 := bz.f 0; have g1 := bz.f 1; have g2 := bz.f 2; have g3 := bz.f 3; obtain ⟨st1, st2, st3⟩ := bstored (W := V) bz h3 ex3 ex2.size) | (have bz := (dbA (w := w1) hw2).ext hw3; have y0 := bz.c0; have y1 := bz.c1; have y2 := bz.c2; have y3 := bz.c3; have g0 := bz.f 0; have g1 := bz.f 1; have g2 := bz.f 2; have g3 := bz.f 3; obtain ⟨st1, st2, st3⟩ := bstored (W := V) bz h3 ex3 ex1.size) | (have bz := ((dbA2 (w := V) hw1).ext hw2).ext hw3; have y0 := bz.c0; have y1 := bz.c1; have y2 := bz.c2; have y3 := bz.c3; have g0 := bz.f 0; have g1 := bz.f 1; have g2 := bz.f 2; have g3 := bz.f 3; obtain ⟨st1, st2, st3⟩ := bstored (W := V) bz h3 ex3 (Nat.le_refl _)) | skip))
        all_goals
          go_wp2
          go_meet
        all_goals
          first
            | exact ⟨rb, rn, ro, rk, rc, re, _, rfl, st1, st2, st3⟩
            | exact ⟨rb, rn, ro, rk, rc, re, _, rfl, h3.ext (exA (Ext.refl _) _), DBox.new _ rb rn ro rk rc re, exA ex3 _⟩
      case rest =>
        obtain ⟨rb, rn, ro, rk, rc, re, C, rfl, hr, hbr, hE⟩ := hcut
        clear a0 a1 st
        have st : Ext V wc := hE
        have k0 := hbr.c0
        have k1 := hbr.c1
        have k2 := hbr.c2
        have k3 := hbr.c3
        go_wp2_with fail
        refine (dscale_any _ _ (-1) _ hr.dg (HTV.out _ st)).mono ?_
        rintro r w4 ⟨v4, rfl, h4, hE4⟩
        have st : Ext V w4 := Ext.trans st hE4
        clear k0 k1 k2 k3 hbr hr hE
        go_wp2_with fail
        refine (frd_at h4.dg (HTV.out _ st) HR.out).mono ?_
        rintro r w5 ⟨rfl, hE5⟩
        have st : Ext V w5 := Ext.trans st hE5
        go_wp2_with fail
        refine (plain_any _ _).mono ?_
        rintro r w6 ⟨rfl, rfl⟩
        have HF := Lib.hid (Ext.trans (Ext.trans HB.out HWV.out) st)
        go_wp2
        go_ret
        exact ⟨rfl, HF.out⟩
end Go.Proofs.YtekocoklfnojmaaGreatDoor
