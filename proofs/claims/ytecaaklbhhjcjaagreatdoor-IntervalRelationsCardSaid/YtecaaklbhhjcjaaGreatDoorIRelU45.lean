import Derived.Test.YtecaaklbhhjcjaaGreatDoorIRelU18
import Derived.Test.YtecaaklbhhjcjaaGreatDoorIRelU34
import Derived.Test.YtecaaklbhhjcjaaGreatDoorIRelU27
import Derived.Test.YtecaaklbhhjcjaaGreatDoorIRelU19
import Derived.Test.YtecaaklbhhjcjaaGreatDoorIRelU32
import Derived.Test.YtecaaklbhhjcjaaGreatDoorIRelU29
import Derived.Test.YtecaaklbhhjcjaaGreatDoorIRelU28
namespace Go.Proofs.YtecaaklbhhjcjaaGreatDoor
open Go Go.RowKit

theorem exA {V w : World} (h : Ext V w) (o : Obj) : Ext V (w.alloc o) := Ext.trans h ((Below.refl _ _).alloc (Nat.le_refl _) _)
theorem dbA {w wn : World} {bb nb : Bool} {ao : Option Addr} {n ca : Nat} {f : Int} (h : Ext (w.alloc (.cells #[.bool bb, .bool nb, .slice ao n ca, .int .i64 f] 47)) wn) : DBox wn w.heap.size bb nb ao n ca f :=
  (DBox.new w bb nb ao n ca f).below h
theorem exAD (V : World) (o : Obj) : Ext V (V.alloc o).drew := ((Below.refl _ _).alloc (Nat.le_refl _) _).drew
theorem dbA2 {w wn : World} {bb nb : Bool} {ao : Option Addr} {n ca : Nat} {f : Int} (h : Ext (w.alloc (.cells #[.bool bb, .bool nb, .slice ao n ca, .int .i64 f] 47)).drew wn) : DBox wn w.heap.size bb nb ao n ca f :=
  DBox.ext (w := (w.alloc (.cells #[.bool bb, .bool nb, .slice ao n ca, .int .i64 f] 47)).drew) (DBox.new w bb nb ao n ca f) h
/-- a dyad stored in a block of the call's own -/
theorem bstored {W w : World} {g : Nat} {bb nb mbb mb : Bool} {ao bo : Option Addr} {n ca m cb : Nat} {e f : Int} {d : Dy} (hx : DBox w g bb nb ao n ca e) (h : Dn w (.agg #[.bool mbb, .bool mb, .slice bo m cb, .int .i64 f]) d) (hw : Ext W w) (hg : W.heap.size ≤ g) :
    Dn ((((w.setCell ⟨g, 0, none⟩ (.bool mbb)).setCell ⟨g, 1, none⟩ (.bool mb)).setCell ⟨g, 2, none⟩ (.slice bo m cb)).setCell ⟨g, 3, none⟩ (.int .i64 f)) (.agg #[.bool mbb, .bool mb, .slice bo m cb, .int .i64 f]) d ∧
    DBox ((((w.setCell ⟨g, 0, none⟩ (.bool mbb)).setCell ⟨g, 1, none⟩ (.bool mb)).setCell ⟨g, 2, none⟩ (.slice bo m cb)).setCell ⟨g, 3, none⟩ (.int .i64 f)) g mbb mb bo m cb f ∧
    Ext W ((((w.setCell ⟨g, 0, none⟩ (.bool mbb)).setCell ⟨g, 1, none⟩ (.bool mb)).setCell ⟨g, 2, none⟩ (.slice bo m cb)).setCell ⟨g, 3, none⟩ (.int .i64 f)) :=
  ⟨h.only_dbox hx (only_set4 _ _ _ _ _ _), hx.stored _ _ _ _ _ _, Below.trans hw ((only_set4 w g (.bool mbb) (.bool mb) (.slice bo m cb) (.int .i64 f)).below hg)⟩

end Go.Proofs.YtecaaklbhhjcjaaGreatDoor

namespace Go.Proofs.YtecaaklbhhjcjaaGreatDoor
open Go.RowKit

set_option maxRecDepth 100000 in
set_option maxHeartbeats 4000000 in
theorem imid_no (a b : Nat) (ha : a < 18446744073709551616) (hb : b < 18446744073709551616) (h1 : validF a b = false) (w : World) :
    Calls Tryz.prog 45 #[.agg #[.int .u64 (a : Int), .int .u64 (b : Int)]] w fun e w' => e = .returned (.int .u64 9221120237041090560) ∧ Ext w w' := by
  have C1 := Lib.hid (ivalid_at a b ha hb rfl rfl false h1)
  clear h1 ha hb
  go_enter Tryz.func45, Tryz.ntmps45
  go_upto_region 1 with fail
  obtain ⟨W, hW, hB, hx, hsz⟩ := ibox_new w a b
  rw [← hW]
  clear hW
  have HB := Lib.hid hB
  generalize w.heap.size = B at hx ⊢
  clear hB hsz
  have HC := Lib.hid (show ∀ wx, Ext W wx → wx.cell? ⟨B, 0, none⟩ = some (.int .u64 (a : Int)) ∧ wx.cell? ⟨B, 1, none⟩ = some (.int .u64 (b : Int)) from fun wx h => ⟨(hx.below h).c0, (hx.below h).c1⟩)
  clear hx
  have st : Ext W W := Ext.refl _
  obtain ⟨a0, a1⟩ := HC.out _ st
  go_wp2_with fail
  refine (C1.out _).mono ?_
  rintro r w1 ⟨rfl, hE⟩
  have st : Ext W w1 := Ext.trans st hE
  clear hE a0 a1
  obtain ⟨a0, a1⟩ := HC.out _ st
  have HF := Lib.hid (HB.out.trans st)
  go_wp2
  go_ret
  exact ⟨rfl, HF.out⟩

set_option maxRecDepth 100000 in
set_option maxHeartbeats 8000000 in
theorem imid_yes (a b : Nat) (g : Good a b) (w : World) (hT : Table w) (hT6 : Table64 w) :
    Calls Tryz.prog 45 #[.agg #[.int .u64 (a : Int), .int .u64 (b : Int)]] w fun e w' => e = .returned (.int .u64 ((midF a b : Nat) : Int)) ∧ Ext w w' := by
  have C1 := Lib.hid (ivalid_at a b g.l1 g.l2 rfl rfl true g.valid)
  have ha := g.l1
  have hb := g.l2
  unfold midF
  by_cases hA : a = 18442240474082181120
  · have ea : (a : Int) = 18442240474082181120 := by omega
    rw [if_pos hA]
    rw [ea] at C1 ⊢
    by_cases hBB : b = 9218868437227405312
    · have eb : (b : Int) = 9218868437227405312 := by omega
      rw [if_pos hBB]
      rw [eb] at C1 ⊢
      clear g ha hb ea eb hA hBB
      go_enter Tryz.func45, Tryz.ntmps45
      go_upto_region 1 with fail
      obtain ⟨W, hW, hB, hx, hsz⟩ := ibox_new w 18442240474082181120 9218868437227405312
      rw [← hW]
      clear hW
      have HB := Lib.hid hB
      generalize w.heap.size = B at hx ⊢
      clear hB hsz
      have HC := Lib.hid (show ∀ wx, Ext W wx → wx.cell? ⟨B, 0, none⟩ = some (.int .u64 (18442240474082181120 : Int)) ∧ wx.cell? ⟨B, 1, none⟩ = some (.int .u64 (9218868437227405312 : Int)) from fun wx h => ⟨(hx.below h).c0, (hx.below h).c1⟩)
      clear hx
      have st : Ext W W := Ext.refl _
      obtain ⟨a0, a1⟩ := HC.out _ st
      go_wp2_with fail
      refine (C1.out _).mono ?_
      rintro r w1 ⟨rfl, hE⟩
      have st : Ext W w1 := Ext.trans st hE
      clear hE a0 a1
      obtain ⟨a0, a1⟩ := HC.out _ st
      go_upto_region 3 with fail
      have st : Ext W _ := st.drew
      go_region_held3 (fun wx => wx.cell? ⟨B, 0, none⟩ = some (.int .u64 (18442240474082181120 : Int)) ∧ wx.cell? ⟨B, 1, none⟩ = some (.int .u64 (9218868437227405312 : Int)))
        (first | exact HC.out _ (by assumption))
        (first | (go_at_call 75; (with_reducible refine (whole_any _).mono ?_); rintro r wn ⟨rfl, hE⟩; have st : Ext W wn := Ext.trans (by assumption) hE; clear hE))
      clear a0 a1
      obtain ⟨a0, a1⟩ := HC.out _ st
      have HF := Lib.hid (HB.out.trans st)
      go_wp2
      go_ret
      exact ⟨rfl, HF.out⟩
    · rw [if_neg hBB]
      have hb2 : ((b : Int) == 9218868437227405312) = false := by rw [beq_eq_false_iff_ne]; omega
      have CN := Lib.hid (fun w => negF_any 9218868437227405311 (by decide) w)
      rw [show fnegF 9218868437227405311 = 18442240474082181119 by decide] at CN
      clear g ha hb ea hA hBB
      go_enter Tryz.func45, Tryz.ntmps45
      go_upto_region 1 with fail
      obtain ⟨W, hW, hB, hx, hsz⟩ := ibox_new w 18442240474082181120 b
      rw [← hW]
      clear hW
      have HB := Lib.hid hB
      generalize w.heap.size = B at hx ⊢
      clear hB hsz
      have HC := Lib.hid (show ∀ wx, Ext W wx → wx.cell? ⟨B, 0, none⟩ = some (.int .u64 (18442240474082181120 : Int)) ∧ wx.cell? ⟨B, 1, none⟩ = some (.int .u64 (b : Int)) from fun wx h => ⟨(hx.below h).c0, (hx.below h).c1⟩)
      clear hx
      have st : Ext W W := Ext.refl _
      obtain ⟨a0, a1⟩ := HC.out _ st
      go_wp2_with fail
      refine (C1.out _).mono ?_
      rintro r w1 ⟨rfl, hE⟩
      have st : Ext W w1 := Ext.trans st hE
      clear hE a0 a1
      obtain ⟨a0, a1⟩ := HC.out _ st
      go_upto_region 3 with fail
      have st : Ext W _ := st.drew
      go_region_held3 (fun wx => wx.cell? ⟨B, 0, none⟩ = some (.int .u64 (18442240474082181120 : Int)) ∧ wx.cell? ⟨B, 1, none⟩ = some (.int .u64 (b : Int)))
        (first | exact HC.out _ (by assumption))
        (first | (go_at_call 75; (with_reducible refine (whole_any _).mono ?_); rintro r wn ⟨rfl, hE⟩; have st : Ext W wn := Ext.trans (by assumption) hE; clear hE))
      clear a0 a1
      obtain ⟨a0, a1⟩ := HC.out _ st
      go_wp2_with fail
      refine (CN.out _).mono ?_
      rintro r w7 ⟨rfl, rfl⟩
      have HF := Lib.hid (HB.out.trans st)
      go_wp2
      go_ret
      exact ⟨rfl, HF.out⟩
  · rw [if_neg hA]
    have ha2 : ((a : Int) == 18442240474082181120) = false := by rw [beq_eq_false_iff_ne]; omega
    by_cases hBB : b = 9218868437227405312
    · have eb : (b : Int) = 9218868437227405312 := by omega
      rw [if_pos hBB]
      rw [eb] at C1 ⊢
      clear g ha hb hA hBB eb
      go_enter Tryz.func45, Tryz.ntmps45
      go_upto_region 1 with fail
      obtain ⟨W, hW, hB, hx, hsz⟩ := ibox_new w a 9218868437227405312
      rw [← hW]
      clear hW
      have HB := Lib.hid hB
      generalize w.heap.size = B at hx ⊢
      clear hB hsz
      have HC := Lib.hid (show ∀ wx, Ext W wx → wx.cell? ⟨B, 0, none⟩ = some (.int .u64 (a : Int)) ∧ wx.cell? ⟨B, 1, none⟩ = some (.int .u64 (9218868437227405312 : Int)) from fun wx h => ⟨(hx.below h).c0, (hx.below h).c1⟩)
      clear hx
      have st : Ext W W := Ext.refl _
      obtain ⟨a0, a1⟩ := HC.out _ st
      go_wp2_with fail
      refine (C1.out _).mono ?_
      rintro r w1 ⟨rfl, hE⟩
      have st : Ext W w1 := Ext.trans st hE
      clear hE a0 a1
      obtain ⟨a0, a1⟩ := HC.out _ st
      go_upto_region 3 with fail
      have st : Ext W _ := st.drew
      go_region_held3 (fun wx => wx.cell? ⟨B, 0, none⟩ = some (.int .u64 (a : Int)) ∧ wx.cell? ⟨B, 1, none⟩ = some (.int .u64 (9218868437227405312 : Int)))
        (first | exact HC.out _ (by assumption))
        (first | (go_at_call 75; (with_reducible refine (whole_any _).mono ?_); rintro r wn ⟨rfl, hE⟩; have st : Ext W wn := Ext.trans (by assumption) hE; clear hE))
      clear a0 a1
      obtain ⟨a0, a1⟩ := HC.out _ st
      have HF := Lib.hid (HB.out.trans st)
      go_wp2
      go_ret
      exact ⟨rfl, HF.out⟩
    · rw [if_neg hBB]
      have hb2 : ((b : Int) == 9218868437227405312) = false := by rw [beq_eq_false_iff_ne]; omega
      obtain ⟨X, hX⟩ : ∃ X, fdy a = X := ⟨_, rfl⟩
      obtain ⟨Y, hY⟩ : ∃ Y, fdy b = Y := ⟨_, rfl⟩
      have CO1 := Lib.hid (fun w hT => fof_at ha hX w hT)
      have CO2 := Lib.hid (fun w hT => fof_at hb hY w hT)
      rw [hX, hY]
      obtain ⟨S, hS⟩ : ∃ S, dadd X Y = S := ⟨_, rfl⟩
      rw [hS]
      obtain ⟨R, hR⟩ : ∃ R, frdF (dscale S (-1)) 0 = R := ⟨_, rfl⟩
      rw [hR]
      have HS := Lib.hid hS
      have HR := Lib.hid hR
      have hT := Lib.hid hT
      have hT6 := Lib.hid hT6
      clear g ha hb hA hBB hX hY hS hR
      go_enter Tryz.func45, Tryz.ntmps45
      go_upto_region 1 with fail
      obtain ⟨W, hW, hB, hx, hsz⟩ := ibox_new w a b
      rw [← hW]
      clear hW
      have HB := Lib.hid hB
      generalize w.heap.size = B at hx ⊢
      clear hB hsz
      have HC := Lib.hid (show ∀ wx, Ext W wx → wx.cell? ⟨B, 0, none⟩ = some (.int .u64 (a : Int)) ∧ wx.cell? ⟨B, 1, none⟩ = some (.int .u64 (b : Int)) from fun wx h => ⟨(hx.below h).c0, (hx.below h).c1⟩)
      clear hx
      have st : Ext W W := Ext.refl _
      obtain ⟨a0, a1⟩ := HC.out _ st
      go_wp2_with fail
      refine (C1.out _).mono ?_
      rintro r w1 ⟨rfl, hE⟩
      have st : Ext W w1 := Ext.trans st hE
      clear hE a0 a1
      obtain ⟨a0, a1⟩ := HC.out _ st
      go_upto_region 3 with fail
      have st : Ext W _ := st.drew
      go_region_held3 (fun wx => wx.cell? ⟨B, 0, none⟩ = some (.int .u64 (a : Int)) ∧ wx.cell? ⟨B, 1, none⟩ = some (.int .u64 (b : Int)))
        (first | exact HC.out _ (by assumption))
        (first | (go_at_call 75; (with_reducible refine (whole_any _).mono ?_); rintro r wn ⟨rfl, hE⟩; have st : Ext W wn := Ext.trans (by assumption) hE; clear hE))
      clear a0 a1
      obtain ⟨a0, a1⟩ := HC.out _ st
      obtain ⟨V, hV, hE⟩ : ∃ V, V = wn ∧ Ext W V := ⟨_, rfl, st⟩
      subst hV
      have HWV := Lib.hid hE
      have HCV := Lib.hid (show ∀ wx, Ext V wx → wx.cell? ⟨B, 0, none⟩ = some (.int .u64 (a : Int)) ∧ wx.cell? ⟨B, 1, none⟩ = some (.int .u64 (b : Int)) from fun wx h => HC.out wx (Ext.trans HWV.out h))
      clear st hE
      have HTV := Lib.hid (fun wx (h : Ext V wx) => hT.out.below (Ext.trans (Ext.trans HB.out HWV.out) h))
      have HT6V := Lib.hid (fun wx (h : Ext V wx) => hT6.out.below (Ext.trans (Ext.trans HB.out HWV.out) h))
      go_upto_region 9 with fail
      have st : Ext V V.drew := (Below.refl _ _).drew
      go_cut [3] from 21 (fun p wx => ∃ rb rn ro rk rc re C, p = .pointer (some ⟨C, 0, none⟩) ∧ Dn wx (.agg #[.bool rb, .bool rn, .slice ro rk rc, .int .i64 re]) S ∧ DBox wx C rb rn ro rk rc re ∧ Ext V wx)
      case first =>
        go_region_held3 (fun wx => wx.cell? ⟨B, 0, none⟩ = some (.int .u64 (a : Int)) ∧ wx.cell? ⟨B, 1, none⟩ = some (.int .u64 (b : Int)))
          (first | exact HCV.out _ (by first | assumption | exact exA (by assumption) _ | exact exAD _ _))
          (first
            | (go_at_call 103; (with_reducible refine (CO1.out _ (HT6V.out _ (by first | assumption | exact exA (by assumption) _ | exact exAD _ _))).mono ?_); rintro e w1 ⟨v1, rfl, h1, hw1⟩; have ex1 : Ext V w1 := Ext.trans (by first | assumption | exact exA (by assumption) _ | exact exAD _ _) hw1)
            | (go_at_call 103; (with_reducible refine (CO2.out _ (HT6V.out _ (by first | assumption | exact exA (by assumption) _ | exact exAD _ _))).mono ?_); rintro e w2 ⟨v2, rfl, h2, hw2⟩; have ex2 : Ext V w2 := Ext.trans (by first | assumption | exact exA (by assumption) _ | exact exAD _ _) hw2; have h1 := h1.ext (by first | exact hw2 | exact Ext.trans (exA (Ext.refl _) _) hw2))
            | (go_at_call 102; refine (dadd_any _ _ _ _ _ (by first | exact h1.dg | exact (h1.ext (exA (Ext.refl _) _)).dg) (by first | exact h2.dg | exact (h2.ext (exA (Ext.refl _) _)).dg) (by exact HTV.out _ (by first | assumption | exact exA (by assumption) _ | exact exAD _ _))).mono ?_; rintro e w3 ⟨v3, rfl, h3, hw3⟩; have ex3 : Ext V w3 := Ext.trans (by first | assumption | exact exA (by assumption) _ | exact exAD _ _) hw3; rw [HS.out] at h3; obtain ⟨rb, rn, ro, rk, rc, re, rfl⟩ := h3.parts; first | (have bz := dbA (w := w2) hw3; have y0 := bz.c0; have y1 := bz.c1; have y2 := bz.c2; have y3 := bz.c3; have g0 := bz.f 0; have g1 := bz.f 1; have g2 := bz.f 2; have g3 := bz.f 3; obtain ⟨st1, st2, st3⟩ := bstored (W := V) bz h3 ex3 ex2.size) | (have bz := (dbA (w := w1) hw2).ext hw3; have y0 := bz.c0; have y1 := bz.c1; have y2 := bz.c2; have y3 := bz.c3; have g0 := bz.f 0; have g1 := bz.f 1; have g2 := bz.f 2; have g3 := bz.f 3; obtain ⟨st1, st2, st3⟩ := bstored (W := V) bz h3 ex3 ex1.size) | (have bz := ((dbA2 (w := V) hw1).ext hw2).ext hw3; have y0 := bz.c0; have y1 := bz.c1; have y2 := bz.c2; have y3 := bz.c3; have g0 := bz.f 0; have g1 := bz.f 1; have g2 := bz.f 2; have g3 := bz.f 3; obtain ⟨st1, st2, st3⟩ := bstored (W := V) bz h3 ex3 (Nat.le_refl _)) | skip))
        all_goals
          go_wp2
          go_meet
        all_goals
          first
            | exact ⟨rb, rn, ro, rk, rc, re, _, rfl, st1, st2, st3⟩
            | exact ⟨rb, rn, ro, rk, rc, re, _, rfl, h3.ext (exA (Ext.refl _) _), DBox.new _ rb rn ro rk rc re, exA ex3 _⟩
      case rest =>
        obtain ⟨rb, rn, ro, rk, rc, re, C, rfl, hr, hbr, hE⟩ := hcut
        clear a0 a1 st
        have st : Ext V wc := hE
        have k0 := hbr.c0
        have k1 := hbr.c1
        have k2 := hbr.c2
        have k3 := hbr.c3
        go_wp2_with fail
        refine (dscale_any _ _ (-1) _ hr.dg (HTV.out _ st)).mono ?_
        rintro r w4 ⟨v4, rfl, h4, hE4⟩
        have st : Ext V w4 := Ext.trans st hE4
        clear k0 k1 k2 k3 hbr hr hE
        go_wp2_with fail
        refine (frd_at h4.dg (HTV.out _ st) HR.out).mono ?_
        rintro r w5 ⟨rfl, hE5⟩
        have st : Ext V w5 := Ext.trans st hE5
        go_wp2_with fail
        refine (plain_any _ _).mono ?_
        rintro r w6 ⟨rfl, rfl⟩
        have HF := Lib.hid (Ext.trans (Ext.trans HB.out HWV.out) st)
        go_wp2
        go_ret
        exact ⟨rfl, HF.out⟩
end Go.Proofs.YtecaaklbhhjcjaaGreatDoor

namespace Go.Proofs.YtecaaklbhhjcjaaGreatDoor
open Go.RowKit

set_option maxRecDepth 100000 in
theorem fsubR_at {a b r : Nat} {mode : Int} (ha : a < 18446744073709551616) (hb : b < 18446744073709551616) (h : faddF a (fnegF b) mode = r) (w : World) : Calls Tryz.prog 110 #[.int .u64 (a : Int), .int .u64 (b : Int), .int .i64 mode] w fun e w' => e = .returned (.int .u64 (r : Int)) ∧ Ext w w' := by
  obtain ⟨n, hn⟩ : ∃ n, fnegF b = n := ⟨_, rfl⟩
  have ln : n < 18446744073709551616 := by rw [← hn]; exact fnegF_lt
  rw [hn] at h
  have CN := Lib.hid (fun w => negF_at hb hn w)
  have CA := Lib.hid (fun w => addF_at ha ln h w)
  clear hn ln h
  go_enter Tryz.func110, Tryz.ntmps110
  go_wp2_with fail
  refine (CN.out _).mono ?_
  rintro e w1 ⟨rfl, rfl⟩
  go_wp2_with fail
  refine (CA.out _).mono ?_
  rintro e w2 ⟨rfl, hE⟩
  go_wp2
  go_ret
  exact ⟨rfl, hE⟩

set_option maxRecDepth 100000 in
set_option maxHeartbeats 4000000 in
theorem irad_no (a b : Nat) (ha : a < 18446744073709551616) (hb : b < 18446744073709551616) (h1 : validF a b = false) (w : World) :
    Calls Tryz.prog 47 #[.agg #[.int .u64 (a : Int), .int .u64 (b : Int)]] w fun e w' => e = .returned (.int .u64 9221120237041090560) ∧ Ext w w' := by
  have C1 := Lib.hid (ivalid_at a b ha hb rfl rfl false h1)
  clear h1 ha hb
  go_enter Tryz.func47, Tryz.ntmps47
  go_upto_region 1 with fail
  obtain ⟨W, hW, hB, hx, hsz⟩ := ibox_new w a b
  rw [← hW]
  clear hW
  have HB := Lib.hid hB
  generalize w.heap.size = B at hx ⊢
  clear hB hsz
  have HC := Lib.hid (show ∀ wx, Ext W wx → wx.cell? ⟨B, 0, none⟩ = some (.int .u64 (a : Int)) ∧ wx.cell? ⟨B, 1, none⟩ = some (.int .u64 (b : Int)) from fun wx h => ⟨(hx.below h).c0, (hx.below h).c1⟩)
  clear hx
  have st : Ext W W := Ext.refl _
  obtain ⟨a0, a1⟩ := HC.out _ st
  go_wp2_with fail
  refine (C1.out _).mono ?_
  rintro r w1 ⟨rfl, hE⟩
  have st : Ext W w1 := Ext.trans st hE
  clear hE a0 a1
  obtain ⟨a0, a1⟩ := HC.out _ st
  have HF := Lib.hid (HB.out.trans st)
  go_wp2
  go_ret
  exact ⟨rfl, HF.out⟩

set_option maxRecDepth 100000 in
set_option maxHeartbeats 8000000 in
theorem irad_yes (a b : Nat) (g : Good a b) (w : World) (hT : Table w) (hT6 : Table64 w) :
    Calls Tryz.prog 47 #[.agg #[.int .u64 (a : Int), .int .u64 (b : Int)]] w fun e w' => e = .returned (.int .u64 ((radF a b : Nat) : Int)) ∧ Ext w w' := by
  have C1 := Lib.hid (ivalid_at a b g.l1 g.l2 rfl rfl true g.valid)
  have CM := Lib.hid (fun wx (h : Ext w wx) => imid_yes a b g wx (hT.below h) (hT6.below h))
  have ha := g.l1
  have hb := g.l2
  have lm := (mid_in g).l
  unfold radF
  generalize midF a b = m at *
  obtain ⟨s1, h1⟩ : ∃ s, faddF m (fnegF a) 2 = s := ⟨_, rfl⟩
  obtain ⟨s2, h2⟩ : ∃ s, faddF b (fnegF m) 2 = s := ⟨_, rfl⟩
  have S1 := Lib.hid (fun w => fsubR_at lm ha h1 w)
  have S2 := Lib.hid (fun w => fsubR_at hb lm h2 w)
  have l1 : s1 < 18446744073709551616 := by rw [← h1]; exact fadd_lt _ fnegF_lt
  have l2 : s2 < 18446744073709551616 := by rw [← h2]; exact fadd_lt _ fnegF_lt
  rw [h1, h2]
  have HL := Lib.hid (two_lt l1 l2)
  have GR := Lib.hid (fun g w (h : FB w g [s1, s2]) => greatest_any g [s1, s2] 2 rfl (by omega) HL.out w h)
  generalize greatF [s1, s2] = q at *
  have CP := Lib.hid (fun w => plain_any q w)
  obtain ⟨R, hR⟩ : ∃ R : Int, ((plainF q : Nat) : Int) = R := ⟨_, rfl⟩
  rw [hR] at CP ⊢
  clear g ha hb lm h1 h2 l1 l2 hT hT6 hR
  go_enter Tryz.func47, Tryz.ntmps47
  go_upto_region 1 with fail
  obtain ⟨W, hW, hB, hx, hsz⟩ := ibox_new w a b
  rw [← hW]
  clear hW
  have HB := Lib.hid hB
  generalize w.heap.size = B at hx ⊢
  clear hB hsz
  have HC := Lib.hid (show ∀ wx, Ext W wx → wx.cell? ⟨B, 0, none⟩ = some (.int .u64 (a : Int)) ∧ wx.cell? ⟨B, 1, none⟩ = some (.int .u64 (b : Int)) from fun wx h => ⟨(hx.below h).c0, (hx.below h).c1⟩)
  clear hx
  have st : Ext W W := Ext.refl _
  obtain ⟨a0, a1⟩ := HC.out _ st
  go_wp2_with fail
  refine (C1.out _).mono ?_
  rintro r w1 ⟨rfl, hE⟩
  have st : Ext W w1 := Ext.trans st hE
  clear hE a0 a1
  obtain ⟨a0, a1⟩ := HC.out _ st
  go_wp2_with fail
  refine (CM.out _ (Ext.trans HB.out st)).mono ?_
  rintro r V ⟨rfl, hE⟩
  have hWV := Lib.hid (Ext.trans st hE)
  clear a0 a1 hE st
  have HCV := Lib.hid (show ∀ wx, Ext V wx → wx.cell? ⟨B, 0, none⟩ = some (.int .u64 (a : Int)) ∧ wx.cell? ⟨B, 1, none⟩ = some (.int .u64 (b : Int)) from fun wx h => HC.out wx (Ext.trans hWV.out h))
  obtain ⟨a0, a1⟩ := HCV.out V (Ext.refl _)
  go_upto_region 4 with fail
  have st : Ext V V.drew := (Below.refl _ _).drew
  go_region_held3 (fun wx => wx.cell? ⟨B, 0, none⟩ = some (.int .u64 (a : Int)) ∧ wx.cell? ⟨B, 1, none⟩ = some (.int .u64 (b : Int)))
    (first | exact HCV.out _ (by first | assumption | exact eA (by assumption) _ | exact eAd _ _ | exact eAAd _ _ _ | exact eA (eA (by assumption) _) _) | (refine ⟨?_, ?_⟩ <;> go_simp))
    (first
      | (go_at_call 110; (with_reducible refine (S1.out _).mono ?_); rintro r wn ⟨rfl, hE⟩; have st : Ext V wn := Ext.trans (by first | assumption | exact eA (by assumption) _ | exact eAd _ _ | exact eAAd _ _ _ | exact eA (eA (by assumption) _) _) hE; clear hE)
      | (go_at_call 110; (with_reducible refine (S2.out _).mono ?_); rintro r wn ⟨rfl, hE⟩; have st : Ext V wn := Ext.trans (by first | assumption | exact eA (by assumption) _ | exact eAd _ _ | exact eAAd _ _ _ | exact eA (eA (by assumption) _) _) hE; clear hE)
      | (go_at_call 95; refine (GR.out _ _ (by first | exact fbAd _ _ _ | exact fbA _ _ _ | exact fbBd _ _ _ _ | exact fbB _ _ _ _)).mono ?_; rintro r wd ⟨rfl, hE⟩; have std : Ext V wd := Ext.trans (by first | assumption | exact eA (by assumption) _ | exact eAd _ _ | exact eAAd _ _ _ | exact eA (eA (by assumption) _) _) hE; clear hE)
      | (go_at_call 104; (with_reducible refine (CP.out _).mono ?_); rintro r wk ⟨rfl, rfl⟩))
  all_goals
    have HF := Lib.hid (Ext.trans (Ext.trans HB.out hWV.out) std)
    go_wp2
    go_ret
    exact ⟨rfl, HF.out⟩
end Go.Proofs.YtecaaklbhhjcjaaGreatDoor

namespace Go.Proofs.YtecaaklbhhjcjaaGreatDoor
open Go.RowKit

set_option maxRecDepth 100000 in
set_option maxHeartbeats 4000000 in
theorem imag_no (a b : Nat) (ha : a < 18446744073709551616) (hb : b < 18446744073709551616) (h1 : validF a b = false) (w : World) :
    Calls Tryz.prog 49 #[.agg #[.int .u64 (a : Int), .int .u64 (b : Int)]] w fun e w' => e = .returned (.int .u64 9221120237041090560) ∧ Ext w w' := by
  have C1 := Lib.hid (ivalid_at a b ha hb rfl rfl false h1)
  clear h1 ha hb
  go_enter Tryz.func49, Tryz.ntmps49
  go_upto_region 1 with fail
  obtain ⟨W, hW, hB, hx, hsz⟩ := ibox_new w a b
  rw [← hW]
  clear hW
  have HB := Lib.hid hB
  generalize w.heap.size = B at hx ⊢
  clear hB hsz
  have HC := Lib.hid (show ∀ wx, Ext W wx → wx.cell? ⟨B, 0, none⟩ = some (.int .u64 (a : Int)) ∧ wx.cell? ⟨B, 1, none⟩ = some (.int .u64 (b : Int)) from fun wx h => ⟨(hx.below h).c0, (hx.below h).c1⟩)
  clear hx
  have st : Ext W W := Ext.refl _
  obtain ⟨a0, a1⟩ := HC.out _ st
  go_wp2_with fail
  refine (C1.out _).mono ?_
  rintro r w1 ⟨rfl, hE⟩
  have st : Ext W w1 := Ext.trans st hE
  clear hE a0 a1
  obtain ⟨a0, a1⟩ := HC.out _ st
  have HF := Lib.hid (HB.out.trans st)
  go_wp2
  go_ret
  exact ⟨rfl, HF.out⟩

set_option maxRecDepth 100000 in
set_option maxHeartbeats 4000000 in
theorem imig_no (a b : Nat) (ha : a < 18446744073709551616) (hb : b < 18446744073709551616) (h1 : validF a b = false) (w : World) :
    Calls Tryz.prog 51 #[.agg #[.int .u64 (a : Int), .int .u64 (b : Int)]] w fun e w' => e = .returned (.int .u64 9221120237041090560) ∧ Ext w w' := by
  have C1 := Lib.hid (ivalid_at a b ha hb rfl rfl false h1)
  clear h1 ha hb
  go_enter Tryz.func51, Tryz.ntmps51
  go_upto_region 1 with fail
  obtain ⟨W, hW, hB, hx, hsz⟩ := ibox_new w a b
  rw [← hW]
  clear hW
  have HB := Lib.hid hB
  generalize w.heap.size = B at hx ⊢
  clear hB hsz
  have HC := Lib.hid (show ∀ wx, Ext W wx → wx.cell? ⟨B, 0, none⟩ = some (.int .u64 (a : Int)) ∧ wx.cell? ⟨B, 1, none⟩ = some (.int .u64 (b : Int)) from fun wx h => ⟨(hx.below h).c0, (hx.below h).c1⟩)
  clear hx
  have st : Ext W W := Ext.refl _
  obtain ⟨a0, a1⟩ := HC.out _ st
  go_wp2_with fail
  refine (C1.out _).mono ?_
  rintro r w1 ⟨rfl, hE⟩
  have st : Ext W w1 := Ext.trans st hE
  clear hE a0 a1
  obtain ⟨a0, a1⟩ := HC.out _ st
  have HF := Lib.hid (HB.out.trans st)
  go_wp2
  go_ret
  exact ⟨rfl, HF.out⟩

end Go.Proofs.YtecaaklbhhjcjaaGreatDoor
