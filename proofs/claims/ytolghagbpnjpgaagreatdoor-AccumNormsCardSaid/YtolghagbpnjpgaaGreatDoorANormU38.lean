import Derived.Test.YtolghagbpnjpgaaGreatDoorANormU32
import Derived.Test.YtolghagbpnjpgaaGreatDoorANormU35
import Derived.Test.YtolghagbpnjpgaaGreatDoorANormU29
import Derived.Test.YtolghagbpnjpgaaGreatDoorANormU28
import Derived.Test.YtolghagbpnjpgaaGreatDoorANormU26
import Derived.Test.YtolghagbpnjpgaaGreatDoorANormU31
import Derived.Test.YtolghagbpnjpgaaGreatDoorANormU33
namespace Go.Proofs.YtolghagbpnjpgaaGreatDoor
open Go.RowKit

set_option maxRecDepth 100000 in
set_option maxHeartbeats 2000000 in
theorem refDFromInt_any (x : Int) (w : World) (h0 : -9223372036854775808 ≤ x) (h1 : x ≤ 9223372036854775807) (hT : Table w) :
    Calls Tryz.prog 169 #[.int .i64 x] w fun e w' => ∃ v, e = .returned v ∧ Dn w' v (dmk x 0) ∧ Ext w w' := by
  have HT := Lib.hid hT
  have C := Lib.hid (fun w => refFromInt_any x w h0 h1)
  have HBL := Lib.hid (show blen x.natAbs ≤ 1000000 from Nat.le_trans (blen_le_of_lt (show x.natAbs < 2 ^ 64 by omega)) (by omega))
  clear hT h0 h1
  go_enter Tryz.func169, Tryz.ntmps169
  go_upto_region 1 with fail
  obtain ⟨W, hW, hB, r1, hz⟩ := dbox_new w false false none 0 0 0
  rw [← hW]
  clear hW
  have HT := Lib.hid (HT.out.below hB)
  generalize hBe : w.heap.size = B at *
  have HBe := Lib.hid hBe
  clear hBe hz
  go_wp2_with fail
  refine (C.out _).mono ?_
  rintro e w1 ⟨nr, ro, k, cr, rfl, hr, hw1⟩
  have HT := Lib.hid (HT.out.below hw1)
  have c1 := r1.below hw1
  obtain ⟨hB2, hB2'⟩ := bnext hB (Nat.le_of_lt r1.lt) hw1
  have hr := bn_bg_of hr HBL.out
  clear r1 hB hw1
  go_wp2_with fail
  refine (refMake_any _ _ _ _ _ _ _ hr HBL.out (by omega) (by omega) HT.out).mono ?_
  rintro e w5 ⟨v, rfl, hr2, hw5⟩
  have c1 := c1.below hw5
  obtain ⟨hB4, hB4'⟩ := bnext hB2 hB2' hw5
  obtain ⟨rb, rn, ro2, rk, rc, re, rfl⟩ := hr2.parts
  clear hr hw5 hB2
  have q0 := c1.c0
  have q1 := c1.c1
  have q2 := c1.c2
  have q3 := c1.c3
  have f0 := c1.f 0
  have f1 := c1.f 1
  have f2 := c1.f 2
  have f3 := c1.f 3
  have hres := dn_stored c1 hr2 w hB4 (Nat.le_refl _)
  have z3 := c1.stored rb rn ro2 rk rc re
  have z0 := z3.c0
  have z1 := z3.c1
  have z2 := z3.c2
  have z4 := z3.c3
  have HRES := Lib.hid hres; clear hres z3
  go_wp2
  refine bodyPost_ret (v := .agg #[.bool rb, .bool rn, .slice ro2 rk rc, .int .i64 re]) (by simp [results, Tryz.results169, go_sem, z0, z1, z2, z4]) rfl ⟨_, rfl, ?_, ?_⟩
  · exact HRES.out.1
  · show Below _ _ _; rw [HBe.out]; exact HRES.out.2
end Go.Proofs.YtolghagbpnjpgaaGreatDoor

namespace Go.Proofs.YtolghagbpnjpgaaGreatDoor
open Go Go.RowKit

theorem refFNeg_any (f : Nat) (hf : f < 18446744073709551616) (hn : nanB f = false) (hs : fneg f = false) (w : World) :
    Calls Tryz.prog 64 #[.int .u64 (f : Int)] w fun e w' => e = .returned (.int .u64 ((9223372036854775808 + f : Nat) : Int)) ∧ w = w' := by
  have hlt : f < 9223372036854775808 := by unfold fneg at hs; simpa using hs
  have hx : bits BinOp.xor IntKind.u64 (f : Int) 9223372036854775808 = ((9223372036854775808 + f : Nat) : Int) := by
    rw [xor_sign hf, hs, show fmag f = f from Nat.mod_eq_of_lt hlt]; rfl
  clear hlt
  go_enter Tryz.func64, Tryz.ntmps64
  go_wp2_with fail
  refine (refNan_any f hf false hn w).mono ?_
  rintro e w1 ⟨rfl, rfl⟩
  go_wp2
  go_ret
  exact ⟨rfl, rfl⟩

theorem dmk_60 : dmk 1152921504606846976 0 = some (1, 60) := by
  have := dmk_shift 1 0 60
  rw [show (1 : Int) * 2 ^ 60 = 1152921504606846976 by decide] at this
  rw [this]
  exact dmk_norm (Or.inr ⟨by decide, by decide, by decide⟩)

set_option maxRecDepth 100000 in
set_option maxHeartbeats 4000000 in
theorem refRounded_60 (nb : Bool) (ao : Option Addr) (n ca : Nat) (w : World) (h : Bg w nb ao n ca 1) :
    Calls Tryz.prog 88 #[.bool false, .agg #[.bool nb, .slice ao n ca], .int .i64 60, .bool false, .int .i64 0] w fun e w' => e = .returned (.int .u64 4877398396442247168) ∧ Ext w w' := by
  go_enter Tryz.func88, Tryz.ntmps88
  go_upto_region 1 with fail
  obtain ⟨W, hW, hB, hbx, hz⟩ := box_new w nb ao n ca
  rw [← hW]
  clear hW
  have h := h.below hB
  generalize hBe : w.heap.size = B at *
  have HBe := Lib.hid hBe
  clear hBe
  have k0 := hbx.c0
  have k1 := hbx.c1
  go_wp2_with fail
  refine (refBitLen_any _ _ _ _ _ _ h).mono ?_
  rintro e w1 ⟨rfl, hw1⟩
  rw [show ((blen (1 : Int).natAbs : Nat) : Int) = 1 by decide]
  have hbx := hbx.below hw1
  have h := h.below hw1
  obtain ⟨hE, hE'⟩ := bnext hB (by omega) hw1
  clear k0 k1 hw1 hB
  have k0 := hbx.c0
  have k1 := hbx.c1
  have hmx : max (8 : Int) (-1074) = 8 := by decide
  go_upto_region 6 with fail
  obtain ⟨V, hV, hVB, hvx, hvz⟩ := box_new w1 false none 0 0
  rw [← hV]
  clear hV
  have hbx := hbx.below hVB
  have h := h.below hVB
  obtain ⟨hE, hE2⟩ := bnext hE hE' hVB
  clear k0 k1 hVB
  generalize w1.heap.size = C at *
  have k0 := hbx.c0
  have k1 := hbx.c1
  go_wp2_with fail
  refine (refShift_up _ _ _ _ _ 52 _ h (by omega)).mono ?_
  rintro e w2 ⟨nr, ro, k, cr, rfl, hr, _, hw2⟩
  rw [show (1 : Int) * 2 ^ 52 = 4503599627370496 by decide] at hr
  have hvx := hvx.below hw2
  obtain ⟨hE, hE2⟩ := bnext hE hE2 hw2
  clear k0 k1 hbx h hvz hz hw2
  have v0 := hvx.c0
  have v1 := hvx.c1
  have f0 := hvx.f 0
  have f1 := hvx.f 1
  have hfit : fitsI 4503599627370496 = true ∧ intOut 4503599627370496 = 4503599627370496 := fits_yes (by omega)
  go_upto_region 9 with fail
  have ho := only_set2 w2 C (.bool nr) (.slice ro k cr)
  have hr := hr.only_box hvx ho
  have hvx := hvx.stored nr ro k cr
  have hE3 := hE.trans (ho.below (B := B) hE')
  have hz3 := ho.size
  clear ho v0 v1 f0 f1 hE
  generalize (w2.setCell ⟨C, 0, none⟩ (.bool nr)).setCell ⟨C, 1, none⟩ (.slice ro k cr) = w3 at *
  have v0 := hvx.c0
  have v1 := hvx.c1
  go_wp2_with fail
  refine (refInt_any _ _ _ _ _ _ (bn_bg_of hr (by decide))).mono ?_
  rintro e w4 ⟨rfl, hw4⟩
  rw [hfit.1, hfit.2]
  obtain ⟨hE4, _⟩ := bnext hE3 (by omega) hw4
  have HE := Lib.hid (show Ext w w4 by unfold Ext; rw [HBe.out]; exact hE4)
  clear hfit hr hvx v0 v1 hw4 hE4 hE3
  have hbor : bits BinOp.or IntKind.u64 4877398396442247168 0 = 4877398396442247168 := by decide
  go_wp2
  go_ret
  exact ⟨rfl, HE.out⟩

set_option maxRecDepth 100000 in
set_option maxHeartbeats 4000000 in
theorem refRound_60 (v : Value) (w : World) (hv : Dn w v (some (1, 60))) (hT : Table w) :
    Calls Tryz.prog 22 #[v, .int .i64 0] w fun e w' => e = .returned (.int .u64 4877398396442247168) ∧ Ext w w' := by
  obtain ⟨ub, un, uo, uk, uc, uf, rfl⟩ := hv.parts
  go_enter Tryz.func22, Tryz.ntmps22
  go_upto_region 1 with fail
  obtain ⟨W, hW, hB, hbx, hz⟩ := dbox_new w ub un uo uk uc uf
  rw [← hW]
  clear hW
  have hv := hv.ext hB
  have HT := Lib.hid (hT.below hB)
  generalize hBe : w.heap.size = B at *
  have HBe := Lib.hid hBe
  clear hBe hT
  have k0 := hbx.c0
  have k1 := hbx.c1
  have k2 := hbx.c2
  have k3 := hbx.c3
  go_wp2_with fail
  refine (refDNorm_any _ _ _ hv.dl HT.out).mono ?_
  rintro e w1 ⟨r, rfl, hr, hw1⟩
  obtain ⟨rb, rn, ro, rk, rc, re, rfl⟩ := hr.parts
  have hbx := hbx.below hw1
  obtain ⟨hE, hE'⟩ := bnext hB (by omega) hw1
  clear k0 k1 k2 k3 hv hB hz hw1 HT
  have k0 := hbx.c0
  have k1 := hbx.c1
  have k2 := hbx.c2
  have k3 := hbx.c3
  have f0 := hbx.f 0
  have f1 := hbx.f 1
  have f2 := hbx.f 2
  have f3 := hbx.f 3
  go_upto_region 2 with fail
  have ho := only_set4 w1 B (.bool rb) (.bool rn) (.slice ro rk rc) (.int .i64 re)
  have hr := hr.only_dbox hbx ho
  have bx := hbx.stored rb rn ro rk rc re
  have hE3 := hE.trans (ho.below (B := B) (Nat.le_refl _))
  have hz2 := ho.size
  clear f0 f1 f2 f3 k0 k1 k2 k3 hE ho hbx
  generalize (((w1.setCell ⟨B, 0, none⟩ (.bool rb)).setCell ⟨B, 1, none⟩ (.bool rn)).setCell ⟨B, 2, none⟩ (.slice ro rk rc)).setCell ⟨B, 3, none⟩ (.int .i64 re) = w3 at *
  obtain ⟨g1, g2, g3⟩ := hr.get
  obtain rfl : rb = false := g1
  obtain rfl : re = 60 := g2
  have g3 : Bn w3 rn ro rk rc 1 := g3
  obtain rfl : rn = false := g3.neg
  have hg := bn_bg_of g3 (by decide)
  have k0 := bx.c0
  have k1 := bx.c1
  have k2 := bx.c2
  have k3 := bx.c3
  have hs1 : (sgn3 1 0 == 0) = false := by decide
  go_wp2_with fail
  refine (refSign_any _ _ _ _ _ _ hg).mono ?_
  rintro e w4 ⟨rfl, hw4⟩
  have bx := bx.below hw4
  have hg := hg.below hw4
  obtain ⟨hE4, hE4'⟩ := bnext hE3 (by omega) hw4
  clear k0 k1 k2 k3 hw4 hE3 g3 hr
  have k0 := bx.c0
  have k1 := bx.c1
  have k2 := bx.c2
  have k3 := bx.c3
  have HC : ∀ wx, Ext w4 wx → wx.cell? ⟨B, 0, none⟩ = some (.bool false) ∧ wx.cell? ⟨B, 1, none⟩ = some (.bool false) ∧ wx.cell? ⟨B, 2, none⟩ = some (.slice ro rk rc) ∧ wx.cell? ⟨B, 3, none⟩ = some (.int .i64 60) := fun wx h => ⟨(bx.ext h).c0, (bx.ext h).c1, (bx.ext h).c2, (bx.ext h).c3⟩
  have HC := Lib.hid HC
  have hex : Ext w4 w4.drew := (Below.refl _ _).drew
  go_upto_region 6 with fail
  go_region_held3 (fun wx => wx.cell? ⟨B, 0, none⟩ = some (.bool false) ∧ wx.cell? ⟨B, 1, none⟩ = some (.bool false) ∧ wx.cell? ⟨B, 2, none⟩ = some (.slice ro rk rc) ∧ wx.cell? ⟨B, 3, none⟩ = some (.int .i64 60))
    (first | exact HC.out _ (by assumption))
    (first
      | (go_at_call 89; refine (refAbs_any _ _ _ _ _ _ (by exact hg.below hex)).mono ?_; rintro e w5 ⟨nr, ao, k, cr, rfl, ha, _, hw5⟩; have ex5 : Ext w4 w5 := Ext.trans hex hw5)
      | (go_at_call 88; refine (refRounded_60 _ _ _ _ _ (by exact bn_bg_of ha (by decide))).mono ?_; rintro e w6 ⟨rfl, hw6⟩; have ex6 : Ext w4 w6 := Ext.trans ex5 hw6))
  obtain ⟨hE6, _⟩ := bnext hE4 hE4' ex6
  have HE := Lib.hid (show Ext w w6 by unfold Ext; rw [HBe.out]; exact hE6)
  go_wp2
  go_ret
  exact ⟨rfl, HE.out⟩

set_option maxRecDepth 100000 in
set_option maxHeartbeats 4000000 in
theorem refFromInt_60 (w : World) (hT : Table w) :
    Calls Tryz.prog 117 #[.int .i64 1152921504606846976, .int .i64 0] w fun e w' => e = .returned (.int .u64 4877398396442247168) ∧ Ext w w' := by
  have C := Lib.hid (refDFromInt_any 1152921504606846976 w (by omega) (by omega) hT)
  rw [dmk_60] at C
  have HT := Lib.hid hT
  clear hT
  go_enter Tryz.func117, Tryz.ntmps117
  go_wp2_with fail
  refine C.out.mono ?_
  rintro e w1 ⟨v, rfl, hv, hw1⟩
  go_wp2_with fail
  refine (refRound_60 v w1 hv (HT.out.below hw1)).mono ?_
  rintro e w2 ⟨rfl, hw2⟩
  go_wp2
  go_ret
  exact ⟨rfl, Ext.trans hw1 hw2⟩
end Go.Proofs.YtolghagbpnjpgaaGreatDoor

namespace Go.Proofs.YtolghagbpnjpgaaGreatDoor
open Go Go.RowKit

theorem fin_60 : finB 4877398396442247168 = true := by decide
theorem aw_sum : dtotal ([4877398396442247168, 4607182418800017408, 14100770433297022976].map fdy) = some (1, 0) := by
  have h : ∀ f ∈ [4877398396442247168, 4607182418800017408, 14100770433297022976], finB f = true := by decide
  have h1 := sumF_dy h (by decide)
  have h2 : sumF [4877398396442247168, 4607182418800017408, 14100770433297022976] = fzs 4607182418800017408 := by decide +kernel
  rw [h2] at h1
  rw [h1.unique (fdy_is (by decide)), fdy_one]
theorem aw_two : faddF 4877398396442247168 4607182418800017408 0 = 4877398396442247168 := by decide +kernel
theorem aw_rest : restB 4877398396442247168 (dadd (fdy 4877398396442247168) (fdy 4607182418800017408)) = true ∧ rest 4877398396442247168 (dadd (fdy 4877398396442247168) (fdy 4607182418800017408)) = 4607182418800017408 := by
  obtain ⟨h1, _⟩ := free_sum (a := 4877398396442247168) (b := 4607182418800017408) fin_60 (by decide) (by decide) aw_two
  refine ⟨by rw [h1]; decide, ?_⟩
  have hV : Is (dadd (fdy 4877398396442247168) (fdy 4607182418800017408)) 1074 (fzs 4877398396442247168 + fzs 4607182418800017408) := (fdy_is fin_60).add (fdy_is (by decide)) (by omega) (abs_add_lt (fzs_lt fin_60) (fzs_lt (by decide))) (by rw [low46_le]; omega)
  have hR := Is.sub hV (fdy_is fin_60) (by omega) (B := 52 + low46 + 1 + 1) (abs_sub_lt (abs_add_lt (fzs_lt fin_60) (fzs_lt (by decide))) (lt_up (fzs_lt fin_60))) (by rw [low46_le]; omega)
  rw [show fzs 4877398396442247168 + fzs 4607182418800017408 - fzs 4877398396442247168 = fzs 4607182418800017408 by omega] at hR
  have e := hR.unique (fdy_is (by decide))
  unfold rest
  rw [e, fdy_one]
  decide +kernel

/-- three floats in a block of their own -/
theorem three_made (w : World) (a b c : Nat) (ha : a < 18446744073709551616) (hb : b < 18446744073709551616) (hc : c < 18446744073709551616) :
    ∃ W, W = w.alloc (.cells #[.int .u64 (a : Int), .int .u64 (b : Int), .int .u64 (c : Int)] 23) ∧ Ext w W ∧ Fs W (some ⟨w.heap.size, 0, none⟩) 3 3 [a, b, c] := by
  refine ⟨_, rfl, (Below.refl _ w).alloc (Nat.le_refl _) _, ⟨rfl, Nat.le_refl _, ?_, fun _ => ⟨w.heap.size, 0, rfl, fun j hj => ?_⟩⟩⟩
  · intro x hx
    simp only [List.mem_cons, List.not_mem_nil, or_false] at hx
    rcases hx with rfl | rfl | rfl <;> assumption
  · rw [cell_of_row _ w.heap.size _ _ _ _ (heap_alloc_new w _)]
    match j, hj with
    | 0, _ => rfl
    | 1, _ => rfl
    | 2, _ => rfl

set_option maxRecDepth 100000 in
set_option maxHeartbeats 4000000 in
theorem aawake_any (w : World) (hT : Table w) (hT6 : Table64 w) : Calls Tryz.prog 48 #[] w fun e w' => e = .returned (.bool true) ∧ Ext w w' := by
  have HT := Lib.hid hT; clear hT
  have HT6 := Lib.hid hT6; clear hT6
  go_enter Tryz.func48, Tryz.ntmps48
  go_wp2_with fail
  refine (refFromInt_60 w HT.out).mono ?_
  rintro e w1 ⟨rfl, h1⟩
  go_wp2_with fail
  refine (refFNeg_any 4877398396442247168 (by decide) (by decide) (by decide) w1).mono ?_
  rintro e w1' ⟨rfl, rfl⟩
  go_wp2_with fail
  obtain ⟨W, hW, hE, hfs⟩ := three_made w1 4877398396442247168 4607182418800017408 14100770433297022976 (by decide) (by decide) (by decide)
  have hW' : W = w1.alloc (.cells #[.int .u64 4877398396442247168, .int .u64 4607182418800017408, .int .u64 14100770433297022976] 23) := hW
  rw [← hW']
  clear hW hW'
  have h2 := Ext.trans h1 hE
  refine (asum_any _ _ _ _ W hfs (HT.out.below h2) (HT6.out.below h2) (by omega)).mono ?_
  rintro e w2 ⟨v, rfl, hv, hw2⟩
  rw [aw_sum] at hv
  have h3 := Ext.trans h2 hw2
  obtain ⟨rb, rn, ro, rk, rc, re, rfl⟩ := hv.parts
  clear hfs h1 h2 hE hw2
  go_upto_region 3 with fail
  obtain ⟨V, hV, hVB, hvx, hvz⟩ := dbox_new w2 rb rn ro rk rc re
  rw [← hV]
  clear hV
  have hv := hv.ext hVB
  have h4 := Ext.trans h3 hVB
  clear h3 hVB
  generalize w2.heap.size = C at *
  go_wp2_with fail
  refine (twoSum_any 4877398396442247168 4607182418800017408 (by decide) (by decide) V (HT.out.below h4) (HT6.out.below h4) 4877398396442247168 4607182418800017408 true aw_two aw_rest.2 aw_rest.1).mono ?_
  rintro e w3 ⟨rfl, hw3⟩
  have hv := hv.ext hw3
  have hvx := hvx.below hw3
  have h5 := Ext.trans h4 hw3
  have k0 := hvx.c0
  have k1 := hvx.c1
  have k2 := hvx.c2
  have k3 := hvx.c3
  clear h4 hw3
  rw [show pairV 4877398396442247168 4607182418800017408 true = .tuple #[.int .u64 4877398396442247168, .int .u64 4607182418800017408, .bool true] from rfl]
  go_wp2_with fail
  obtain ⟨V3, hV, hE3, hb3⟩ := limb_made w3 1 (by omega) (by omega)
  rw [show (Value.int IntKind.u32 ((1 : Nat) : Int)) = .int .u32 1 from rfl] at hV
  rw [← hV]
  clear hV
  refine (kitDyad_same _ _ _ _ (hv.ext hE3) (dn_lit (f := 0) hb3 (Or.inr ⟨by decide, by decide, by decide⟩))).mono ?_
  rintro e w4 ⟨rfl, hw4⟩
  have h6 := Lib.hid (Ext.trans (Ext.trans h5 hE3) hw4)
  clear k0 k1 k2 k3 hvx hv hb3 hE3 hw4 h5
  go_wp2
  go_ret
  exact ⟨rfl, h6.out⟩
end Go.Proofs.YtolghagbpnjpgaaGreatDoor

namespace Go.Proofs.YtolghagbpnjpgaaGreatDoor
open Go Go.RowKit

theorem Tryz.infoFloat : (Tryz.prog.info? 23).map (fun i => (i.zero, i.size, i.bytes)) = some (some (.int .u64 0), 1, 8) := by kernel_rfl

set_option maxRecDepth 100000 in
set_option maxHeartbeats 2000000 in
theorem refFinite_any (ao : Option Addr) (n cap : Nat) (l : List Nat) (w : World) (h : Fs w ao n cap l) (hn : n ≤ 1000000) (b : Bool) (hb : l.all finB = b) :
    Calls Tryz.prog 123 #[.slice ao n cap] w fun e w' => e = .returned (.bool b) ∧ w = w' := by
  have HL := Lib.hid h.len
  have HB := Lib.hid hb
  clear hb
  go_enter Tryz.func123, Tryz.ntmps123
  go_wp2
  go_loopw [3] (fun ix wr => ∃ j : Nat, j ≤ n ∧ ix = .int .i64 j ∧ wr = w ∧ (l.take j).all finB = true) (fun ix _ => n - (intOf ix).toNat)
  case atStart => exact ⟨0, Nat.zero_le _, rfl, rfl, rfl⟩
  case round =>
    obtain ⟨j, hj, rfl, hw, hall⟩ := hrel
    subst hw
    by_cases hlt : j < n
    · obtain ⟨b', off, rfl, hc⟩ := h.cells (by omega)
      have hcj := hc j hlt
      have hfl := h.getD_lt j
      have hnext : (l.take (j + 1)).all finB = (finB (l.getD j 0)) := by
        rw [List.take_succ_eq_append_getElem (by rw [HL.out]; exact hlt), List.all_append, hall]
        simp [List.getD, show j < l.length by rw [HL.out]; exact hlt]
      obtain ⟨x, hx⟩ : ∃ x, l.getD j 0 = x := ⟨_, rfl⟩
      have hmem : x ∈ l := by
        rw [← hx]; simp only [List.getD, List.getElem?_eq_getElem (show j < l.length by rw [HL.out]; exact hlt), Option.getD_some]; exact List.getElem_mem _
      rw [hx] at hcj hfl hnext
      have HN := Lib.hid hnext
      clear hc hx hnext hall
      cases hf : finB x with
      | false =>
        obtain rfl : b = false := by
          rw [← HB.out]
          exact List.all_eq_false.2 ⟨x, hmem, by simp [hf]⟩
        have C := Lib.hid (refFin_any x hfl false hf)
        go_wp2_with fail
        refine (C.out _).mono ?_
        rintro e w1 ⟨rfl, rfl⟩
        go_wp2
        go_ret
        exact ⟨rfl, rfl⟩
      | true =>
        have C := Lib.hid (refFin_any x hfl true hf)
        rw [hf] at HN
        clear hf
        go_wp2_with fail
        refine (C.out _).mono ?_
        rintro e w1 ⟨rfl, rfl⟩
        go_wp2
        go_roundw
        case rel => exact ⟨j + 1, by omega, by go_num, by first | rfl | trivial, HN.out⟩
        case measure => simp [intOf] <;> omega
    · obtain rfl : j = n := by omega
      rw [List.take_of_length_le (by rw [HL.out]; exact Nat.le_refl _)] at hall
      obtain rfl : b = true := by rw [← HB.out]; exact hall
      clear hall
      go_wp2
      go_ret
      exact ⟨rfl, rfl⟩

theorem all_fin {l : List Nat} (h : l.all finB = true) : ∀ f ∈ l, finB f = true := fun f hf => List.all_eq_true.1 h f hf
end Go.Proofs.YtolghagbpnjpgaaGreatDoor
