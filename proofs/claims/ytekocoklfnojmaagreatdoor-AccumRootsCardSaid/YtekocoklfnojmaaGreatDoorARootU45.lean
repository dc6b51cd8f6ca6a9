import Derived.Test.YtekocoklfnojmaaGreatDoorARootU44
import Derived.Test.YtekocoklfnojmaaGreatDoorARootU43
import Derived.Test.YtekocoklfnojmaaGreatDoorARootU37
import Derived.Test.YtekocoklfnojmaaGreatDoorARootU34
import Derived.Test.YtekocoklfnojmaaGreatDoorARootU38
import Derived.Test.YtekocoklfnojmaaGreatDoorARootU36
import Derived.Test.YtekocoklfnojmaaGreatDoorARootU42
import Derived.Test.YtekocoklfnojmaaGreatDoorARootU28
import Derived.Test.YtekocoklfnojmaaGreatDoorARootU25
import Derived.Test.YtekocoklfnojmaaGreatDoorARootU5
import Derived.Test.YtekocoklfnojmaaGreatDoorARootU3
import Derived.Test.YtekocoklfnojmaaGreatDoorARootU20
import Derived.Test.YtekocoklfnojmaaGreatDoorARootU2
import Derived.Test.YtekocoklfnojmaaGreatDoorARootU6
import Derived.Deep.QuietTactic
import Derived.BigQuiet
import Derived.Test.YtekocoklfnojmaaGreatDoorARootU21
import Derived.Deep.RegionHeld3
import Derived.Test.YtekocoklfnojmaaGreatDoorARootU40
import Derived.Test.YtekocoklfnojmaaGreatDoorARootU41
import Derived.Deep.CutRange
import Derived.Test.YtekocoklfnojmaaGreatDoorARootU26
import Derived.Test.YtekocoklfnojmaaGreatDoorARootU35
namespace Go.Proofs.YtekocoklfnojmaaGreatDoor
open Go Go.RowKit

theorem refFNeg_any (f : Nat) (hf : f < 18446744073709551616) (hn : nanB f = false) (hs : fneg f = false) (w : World) :
    Calls Tryz.prog 68 #[.int .u64 (f : Int)] w fun e w' => e = .returned (.int .u64 ((9223372036854775808 + f : Nat) : Int)) ∧ w = w' := by
  have hlt : f < 9223372036854775808 := by unfold fneg at hs; simpa using hs
  have hx : bits BinOp.xor IntKind.u64 (f : Int) 9223372036854775808 = ((9223372036854775808 + f : Nat) : Int) := by
    rw [xor_sign hf, hs, show fmag f = f from Nat.mod_eq_of_lt hlt]; rfl
  clear hlt
  go_enter Tryz.func68, Tryz.ntmps68
  go_wp2_with fail
  refine (refNan_any f hf false hn w).mono ?_
  rintro e w1 ⟨rfl, rfl⟩
  go_wp2
  go_ret
  exact ⟨rfl, rfl⟩

theorem dmk_60 : dmk 1152921504606846976 0 = some (1, 60) := by
  have := dmk_shift 1 0 60
  rw [show (1 : Int) * 2 ^ 60 = 1152921504606846976 by decide] at this
  rw [this]
  exact dmk_norm (Or.inr ⟨by decide, by decide, by decide⟩)

set_option maxRecDepth 100000 in
set_option maxHeartbeats 4000000 in
theorem refRounded_60 (nb : Bool) (ao : Option Addr) (n ca : Nat) (w : World) (h : Bg w nb ao n ca 1) :
    Calls Tryz.prog 146 #[.bool false, .agg #[.bool nb, .slice ao n ca], .int .i64 60, .bool false, .int .i64 0] w fun e w' => e = .returned (.int .u64 4877398396442247168) ∧ Ext w w' := by
  go_enter Tryz.func146, Tryz.ntmps146
  go_upto_region 1 with fail
  obtain ⟨W, hW, hB, hbx, hz⟩ := box_new w nb ao n ca
  rw [← hW]
  clear hW
  have h := h.below hB
  generalize hBe : w.heap.size = B at *
  have HBe := Lib.hid hBe
  clear hBe
  have k0 := hbx.c0
  have k1 := hbx.c1
  go_wp2_with fail
  refine (refBitLen_any _ _ _ _ _ _ h).mono ?_
  rintro e w1 ⟨rfl, hw1⟩
  rw [show ((blen (1 : Int).natAbs : Nat) : Int) = 1 by decide]
  have hbx := hbx.below hw1
  have h := h.below hw1
  obtain ⟨hE, hE'⟩ := bnext hB (by omega) hw1
  clear k0 k1 hw1 hB
  have k0 := hbx.c0
  have k1 := hbx.c1
  have hmx : max (8 : Int) (-1074) = 8 := by decide
  go_upto_region 6 with fail
  obtain ⟨V, hV, hVB, hvx, hvz⟩ := box_new w1 false none 0 0
  rw [← hV]
  clear hV
  have hbx := hbx.below hVB
  have h := h.below hVB
  obtain ⟨hE, hE2⟩ := bnext hE hE' hVB
  clear k0 k1 hVB
  generalize w1.heap.size = C at *
  have k0 := hbx.c0
  have k1 := hbx.c1
  go_wp2_with fail
  refine (refShift_up _ _ _ _ _ 52 _ h (by omega)).mono ?_
  rintro e w2 ⟨nr, ro, k, cr, rfl, hr, _, hw2⟩
  rw [show (1 : Int) * 2 ^ 52 = 4503599627370496 by decide] at hr
  have hvx := hvx.below hw2
  obtain ⟨hE, hE2⟩ := bnext hE hE2 hw2
  clear k0 k1 hbx h hvz hz hw2
  have v0 := hvx.c0
  have v1 := hvx.c1
  have f0 := hvx.f 0
  have f1 := hvx.f 1
  have hfit : fitsI 4503599627370496 = true ∧ intOut 4503599627370496 = 4503599627370496 := fits_yes (by omega)
  go_upto_region 9 with fail
  have ho := only_set2 w2 C (.bool nr) (.slice ro k cr)
  have hr := hr.only_box hvx ho
  have hvx := hvx.stored nr ro k cr
  have hE3 := hE.trans (ho.below (B := B) hE')
  have hz3 := ho.size
  clear ho v0 v1 f0 f1 hE
  generalize (w2.setCell ⟨C, 0, none⟩ (.bool nr)).setCell ⟨C, 1, none⟩ (.slice ro k cr) = w3 at *
  have v0 := hvx.c0
  have v1 := hvx.c1
  go_wp2_with fail
  refine (refInt_any _ _ _ _ _ _ (bn_bg_of hr (by decide))).mono ?_
  rintro e w4 ⟨rfl, hw4⟩
  rw [hfit.1, hfit.2]
  obtain ⟨hE4, _⟩ := bnext hE3 (by omega) hw4
  have HE := Lib.hid (show Ext w w4 by unfold Ext; rw [HBe.out]; exact hE4)
  clear hfit hr hvx v0 v1 hw4 hE4 hE3
  have hbor : bits BinOp.or IntKind.u64 4877398396442247168 0 = 4877398396442247168 := by decide
  go_wp2
  go_ret
  exact ⟨rfl, HE.out⟩

set_option maxRecDepth 100000 in
set_option maxHeartbeats 4000000 in
theorem refRound_60 (v : Value) (w : World) (hv : Dn w v (some (1, 60))) (hT : Table w) :
    Calls Tryz.prog 90 #[v, .int .i64 0] w fun e w' => e = .returned (.int .u64 4877398396442247168) ∧ Ext w w' := by
  obtain ⟨ub, un, uo, uk, uc, uf, rfl⟩ := hv.parts
  go_enter Tryz.func90, Tryz.ntmps90
  go_upto_region 1 with fail
  obtain ⟨W, hW, hB, hbx, hz⟩ := dbox_new w ub un uo uk uc uf
  rw [← hW]
  clear hW
  have hv := hv.ext hB
  have HT := Lib.hid (hT.below hB)
  generalize hBe : w.heap.size = B at *
  have HBe := Lib.hid hBe
  clear hBe hT
  have k0 := hbx.c0
  have k1 := hbx.c1
  have k2 := hbx.c2
  have k3 := hbx.c3
  go_wp2_with fail
  refine (refDNorm_any _ _ _ hv.dl HT.out).mono ?_
  rintro e w1 ⟨r, rfl, hr, hw1⟩
  obtain ⟨rb, rn, ro, rk, rc, re, rfl⟩ := hr.parts
  have hbx := hbx.below hw1
  obtain ⟨hE, hE'⟩ := bnext hB (by omega) hw1
  clear k0 k1 k2 k3 hv hB hz hw1 HT
  have k0 := hbx.c0
  have k1 := hbx.c1
  have k2 := hbx.c2
  have k3 := hbx.c3
  have f0 := hbx.f 0
  have f1 := hbx.f 1
  have f2 := hbx.f 2
  have f3 := hbx.f 3
  go_upto_region 2 with fail
  have ho := only_set4 w1 B (.bool rb) (.bool rn) (.slice ro rk rc) (.int .i64 re)
  have hr := hr.only_dbox hbx ho
  have bx := hbx.stored rb rn ro rk rc re
  have hE3 := hE.trans (ho.below (B := B) (Nat.le_refl _))
  have hz2 := ho.size
  clear f0 f1 f2 f3 k0 k1 k2 k3 hE ho hbx
  generalize (((w1.setCell ⟨B, 0, none⟩ (.bool rb)).setCell ⟨B, 1, none⟩ (.bool rn)).setCell ⟨B, 2, none⟩ (.slice ro rk rc)).setCell ⟨B, 3, none⟩ (.int .i64 re) = w3 at *
  obtain ⟨g1, g2, g3⟩ := hr.get
  obtain rfl : rb = false := g1
  obtain rfl : re = 60 := g2
  have g3 : Bn w3 rn ro rk rc 1 := g3
  obtain rfl : rn = false := g3.neg
  have hg := bn_bg_of g3 (by decide)
  have k0 := bx.c0
  have k1 := bx.c1
  have k2 := bx.c2
  have k3 := bx.c3
  have hs1 : (sgn3 1 0 == 0) = false := by decide
  go_wp2_with fail
  refine (refSign_any _ _ _ _ _ _ hg).mono ?_
  rintro e w4 ⟨rfl, hw4⟩
  have bx := bx.below hw4
  have hg := hg.below hw4
  obtain ⟨hE4, hE4'⟩ := bnext hE3 (by omega) hw4
  clear k0 k1 k2 k3 hw4 hE3 g3 hr
  have k0 := bx.c0
  have k1 := bx.c1
  have k2 := bx.c2
  have k3 := bx.c3
  have HC : ∀ wx, Ext w4 wx → wx.cell? ⟨B, 0, none⟩ = some (.bool false) ∧ wx.cell? ⟨B, 1, none⟩ = some (.bool false) ∧ wx.cell? ⟨B, 2, none⟩ = some (.slice ro rk rc) ∧ wx.cell? ⟨B, 3, none⟩ = some (.int .i64 60) := fun wx h => ⟨(bx.ext h).c0, (bx.ext h).c1, (bx.ext h).c2, (bx.ext h).c3⟩
  have HC := Lib.hid HC
  have hex : Ext w4 w4.drew := (Below.refl _ _).drew
  go_upto_region 6 with fail
  go_region_held3 (fun wx => wx.cell? ⟨B, 0, none⟩ = some (.bool false) ∧ wx.cell? ⟨B, 1, none⟩ = some (.bool false) ∧ wx.cell? ⟨B, 2, none⟩ = some (.slice ro rk rc) ∧ wx.cell? ⟨B, 3, none⟩ = some (.int .i64 60))
    (first | exact HC.out _ (by assumption))
    (first
      | (go_at_call 147; refine (refAbs_any _ _ _ _ _ _ (by exact hg.below hex)).mono ?_; rintro e w5 ⟨nr, ao, k, cr, rfl, ha, _, hw5⟩; have ex5 : Ext w4 w5 := Ext.trans hex hw5)
      | (go_at_call 146; refine (refRounded_60 _ _ _ _ _ (by exact bn_bg_of ha (by decide))).mono ?_; rintro e w6 ⟨rfl, hw6⟩; have ex6 : Ext w4 w6 := Ext.trans ex5 hw6))
  obtain ⟨hE6, _⟩ := bnext hE4 hE4' ex6
  have HE := Lib.hid (show Ext w w6 by unfold Ext; rw [HBe.out]; exact hE6)
  go_wp2
  go_ret
  exact ⟨rfl, HE.out⟩

set_option maxRecDepth 100000 in
set_option maxHeartbeats 4000000 in
theorem refFromInt_60 (w : World) (hT : Table w) :
    Calls Tryz.prog 120 #[.int .i64 1152921504606846976, .int .i64 0] w fun e w' => e = .returned (.int .u64 4877398396442247168) ∧ Ext w w' := by
  have C := Lib.hid (refDFromInt_any 1152921504606846976 w (by omega) (by omega) hT)
  rw [dmk_60] at C
  have HT := Lib.hid hT
  clear hT
  go_enter Tryz.func120, Tryz.ntmps120
  go_wp2_with fail
  refine C.out.mono ?_
  rintro e w1 ⟨v, rfl, hv, hw1⟩
  go_wp2_with fail
  refine (refRound_60 v w1 hv (HT.out.below hw1)).mono ?_
  rintro e w2 ⟨rfl, hw2⟩
  go_wp2
  go_ret
  exact ⟨rfl, Ext.trans hw1 hw2⟩
end Go.Proofs.YtekocoklfnojmaaGreatDoor

namespace Go.Proofs.YtekocoklfnojmaaGreatDoor
open Go Go.RowKit

theorem fin_60 : finB 4877398396442247168 = true := by decide
theorem aw_sum : dtotal ([4877398396442247168, 4607182418800017408, 14100770433297022976].map fdy) = some (1, 0) := by
  have h : ∀ f ∈ [4877398396442247168, 4607182418800017408, 14100770433297022976], finB f = true := by decide
  have h1 := sumF_dy h (by decide)
  have h2 : sumF [4877398396442247168, 4607182418800017408, 14100770433297022976] = fzs 4607182418800017408 := by decide +kernel
  rw [h2] at h1
  rw [h1.unique (fdy_is (by decide)), fdy_one]
theorem aw_two : faddF 4877398396442247168 4607182418800017408 0 = 4877398396442247168 := by decide +kernel
theorem aw_rest : restB 4877398396442247168 (dadd (fdy 4877398396442247168) (fdy 4607182418800017408)) = true ∧ rest 4877398396442247168 (dadd (fdy 4877398396442247168) (fdy 4607182418800017408)) = 4607182418800017408 := by
  obtain ⟨h1, _⟩ := free_sum (a := 4877398396442247168) (b := 4607182418800017408) fin_60 (by decide) (by decide) aw_two
  refine ⟨by rw [h1]; decide, ?_⟩
  have hV : Is (dadd (fdy 4877398396442247168) (fdy 4607182418800017408)) 1074 (fzs 4877398396442247168 + fzs 4607182418800017408) := (fdy_is fin_60).add (fdy_is (by decide)) (by omega) (abs_add_lt (fzs_lt fin_60) (fzs_lt (by decide))) (by rw [low46_le]; omega)
  have hR := Is.sub hV (fdy_is fin_60) (by omega) (B := 52 + low46 + 1 + 1) (abs_sub_lt (abs_add_lt (fzs_lt fin_60) (fzs_lt (by decide))) (lt_up (fzs_lt fin_60))) (by rw [low46_le]; omega)
  rw [show fzs 4877398396442247168 + fzs 4607182418800017408 - fzs 4877398396442247168 = fzs 4607182418800017408 by omega] at hR
  have e := hR.unique (fdy_is (by decide))
  unfold rest
  rw [e, fdy_one]
  decide +kernel

/-- three floats in a block of their own -/
theorem three_made (w : World) (a b c : Nat) (ha : a < 18446744073709551616) (hb : b < 18446744073709551616) (hc : c < 18446744073709551616) :
    ∃ W, W = w.alloc (.cells #[.int .u64 (a : Int), .int .u64 (b : Int), .int .u64 (c : Int)] 23) ∧ Ext w W ∧ Fs W (some ⟨w.heap.size, 0, none⟩) 3 3 [a, b, c] := by
  refine ⟨_, rfl, (Below.refl _ w).alloc (Nat.le_refl _) _, ⟨rfl, Nat.le_refl _, ?_, fun _ => ⟨w.heap.size, 0, rfl, fun j hj => ?_⟩⟩⟩
  · intro x hx
    simp only [List.mem_cons, List.not_mem_nil, or_false] at hx
    rcases hx with rfl | rfl | rfl <;> assumption
  · rw [cell_of_row _ w.heap.size _ _ _ _ (heap_alloc_new w _)]
    match j, hj with
    | 0, _ => rfl
    | 1, _ => rfl
    | 2, _ => rfl

set_option maxRecDepth 100000 in
set_option maxHeartbeats 4000000 in
theorem aawake_any (w : World) (hT : Table w) (hT6 : Table64 w) : Calls Tryz.prog 58 #[] w fun e w' => e = .returned (.bool true) ∧ Ext w w' := by
  have HT := Lib.hid hT; clear hT
  have HT6 := Lib.hid hT6; clear hT6
  go_enter Tryz.func58, Tryz.ntmps58
  go_wp2_with fail
  refine (refFromInt_60 w HT.out).mono ?_
  rintro e w1 ⟨rfl, h1⟩
  go_wp2_with fail
  refine (refFNeg_any 4877398396442247168 (by decide) (by decide) (by decide) w1).mono ?_
  rintro e w1' ⟨rfl, rfl⟩
  go_wp2_with fail
  obtain ⟨W, hW, hE, hfs⟩ := three_made w1 4877398396442247168 4607182418800017408 14100770433297022976 (by decide) (by decide) (by decide)
  have hW' : W = w1.alloc (.cells #[.int .u64 4877398396442247168, .int .u64 4607182418800017408, .int .u64 14100770433297022976] 23) := hW
  rw [← hW']
  clear hW hW'
  have h2 := Ext.trans h1 hE
  refine (asum_any _ _ _ _ W hfs (HT.out.below h2) (HT6.out.below h2) (by omega)).mono ?_
  rintro e w2 ⟨v, rfl, hv, hw2⟩
  rw [aw_sum] at hv
  have h3 := Ext.trans h2 hw2
  obtain ⟨rb, rn, ro, rk, rc, re, rfl⟩ := hv.parts
  clear hfs h1 h2 hE hw2
  go_upto_region 3 with fail
  obtain ⟨V, hV, hVB, hvx, hvz⟩ := dbox_new w2 rb rn ro rk rc re
  rw [← hV]
  clear hV
  have hv := hv.ext hVB
  have h4 := Ext.trans h3 hVB
  clear h3 hVB
  generalize w2.heap.size = C at *
  go_wp2_with fail
  refine (twoSum_any 4877398396442247168 4607182418800017408 (by decide) (by decide) V (HT.out.below h4) (HT6.out.below h4) 4877398396442247168 4607182418800017408 true aw_two aw_rest.2 aw_rest.1).mono ?_
  rintro e w3 ⟨rfl, hw3⟩
  have hv := hv.ext hw3
  have hvx := hvx.below hw3
  have h5 := Ext.trans h4 hw3
  have k0 := hvx.c0
  have k1 := hvx.c1
  have k2 := hvx.c2
  have k3 := hvx.c3
  clear h4 hw3
  rw [show pairV 4877398396442247168 4607182418800017408 true = .tuple #[.int .u64 4877398396442247168, .int .u64 4607182418800017408, .bool true] from rfl]
  go_wp2_with fail
  obtain ⟨V3, hV, hE3, hb3⟩ := limb_made w3 1 (by omega) (by omega)
  rw [show (Value.int IntKind.u32 ((1 : Nat) : Int)) = .int .u32 1 from rfl] at hV
  rw [← hV]
  clear hV
  refine (kitDyad_same _ _ _ _ (hv.ext hE3) (dn_lit (f := 0) hb3 (Or.inr ⟨by decide, by decide, by decide⟩))).mono ?_
  rintro e w4 ⟨rfl, hw4⟩
  have h6 := Lib.hid (Ext.trans (Ext.trans h5 hE3) hw4)
  clear k0 k1 k2 k3 hvx hv hb3 hE3 hw4 h5
  go_wp2
  go_ret
  exact ⟨rfl, h6.out⟩
end Go.Proofs.YtekocoklfnojmaaGreatDoor

namespace Go.Proofs.YtekocoklfnojmaaGreatDoor
open Go Go.RowKit

set_option maxRecDepth 100000 in
set_option maxHeartbeats 2000000 in
theorem refFinite_any (ao : Option Addr) (n cap : Nat) (l : List Nat) (w : World) (h : Fs w ao n cap l) (hn : n ≤ 1000000) (b : Bool) (hb : l.all finB = b) :
    Calls Tryz.prog 57 #[.slice ao n cap] w fun e w' => e = .returned (.bool b) ∧ w = w' := by
  have HL := Lib.hid h.len
  have HB := Lib.hid hb
  clear hb
  go_enter Tryz.func57, Tryz.ntmps57
  go_wp2
  go_loopw [3] (fun ix wr => ∃ j : Nat, j ≤ n ∧ ix = .int .i64 j ∧ wr = w ∧ (l.take j).all finB = true) (fun ix _ => n - (intOf ix).toNat)
  case atStart => exact ⟨0, Nat.zero_le _, rfl, rfl, rfl⟩
  case round =>
    obtain ⟨j, hj, rfl, hw, hall⟩ := hrel
    subst hw
    by_cases hlt : j < n
    · obtain ⟨b', off, rfl, hc⟩ := h.cells (by omega)
      have hcj := hc j hlt
      have hfl := h.getD_lt j
      have hnext : (l.take (j + 1)).all finB = (finB (l.getD j 0)) := by
        rw [List.take_succ_eq_append_getElem (by rw [HL.out]; exact hlt), List.all_append, hall]
        simp [List.getD, show j < l.length by rw [HL.out]; exact hlt]
      obtain ⟨x, hx⟩ : ∃ x, l.getD j 0 = x := ⟨_, rfl⟩
      have hmem : x ∈ l := by
        rw [← hx]; simp only [List.getD, List.getElem?_eq_getElem (show j < l.length by rw [HL.out]; exact hlt), Option.getD_some]; exact List.getElem_mem _
      rw [hx] at hcj hfl hnext
      have HN := Lib.hid hnext
      clear hc hx hnext hall
      cases hf : finB x with
      | false =>
        obtain rfl : b = false := by
          rw [← HB.out]
          exact List.all_eq_false.2 ⟨x, hmem, by simp [hf]⟩
        have C := Lib.hid (refFin_any x hfl false hf)
        go_wp2_with fail
        refine (C.out _).mono ?_
        rintro e w1 ⟨rfl, rfl⟩
        go_wp2
        go_ret
        exact ⟨rfl, rfl⟩
      | true =>
        have C := Lib.hid (refFin_any x hfl true hf)
        rw [hf] at HN
        clear hf
        go_wp2_with fail
        refine (C.out _).mono ?_
        rintro e w1 ⟨rfl, rfl⟩
        go_wp2
        go_roundw
        case rel => exact ⟨j + 1, by omega, by go_num, by first | rfl | trivial, HN.out⟩
        case measure => simp [intOf] <;> omega
    · obtain rfl : j = n := by omega
      rw [List.take_of_length_le (by rw [HL.out]; exact Nat.le_refl _)] at hall
      obtain rfl : b = true := by rw [← HB.out]; exact hall
      clear hall
      go_wp2
      go_ret
      exact ⟨rfl, rfl⟩

end Go.Proofs.YtekocoklfnojmaaGreatDoor

namespace Go.Proofs.YtekocoklfnojmaaGreatDoor
open Go Go.RowKit

set_option maxRecDepth 100000 in
set_option maxHeartbeats 4000000 in
theorem adot_len (ao bo : Option Addr) (n m cap cb : Nat) (w : World) (hnm : ¬ n = m) :
    Calls Tryz.prog 60 #[.slice ao n cap, .slice bo m cb] w fun e w' => ∃ v, e = .returned (.tuple #[v, .int .i64 2]) ∧ Dn w' v (some (0, 0)) ∧ Ext w w' := by
  go_enter Tryz.func60, Tryz.ntmps60
  go_upto_region 1 with fail
  obtain ⟨W, hW, hB, hbx, hz⟩ := dbox_new w false false none 0 0 0
  rw [← hW]
  clear hW
  generalize hBe : w.heap.size = B at *
  have HBe := Lib.hid hBe
  clear hBe
  have q0 := hbx.c0
  have q1 := hbx.c1
  have q2 := hbx.c2
  have q3 := hbx.c3
  have f0 := hbx.f 0
  have f1 := hbx.f 1
  have f2 := hbx.f 2
  have f3 := hbx.f 3
  have hres := dn_stored hbx (dn_zero W) w hB (Nat.le_refl B)
  have z3 := hbx.stored false false none 0 0 0
  have z0 := z3.c0
  have z1 := z3.c1
  have z2 := z3.c2
  have z4 := z3.c3
  have HRES := Lib.hid hres
  clear hres z3
  go_wp2
  refine bodyPost_ret (v := .tuple #[.agg #[.bool false, .bool false, .slice none 0 0, .int .i64 0], .int .i64 2]) (by simp [results, Tryz.results60, go_sem, z0, z1, z2, z4]) rfl ⟨_, rfl, ?_, ?_⟩
  · exact HRES.out.1
  · show Below _ _ _; rw [HBe.out]; exact HRES.out.2

theorem adotR_any (ao bo : Option Addr) (n m cap cb : Nat) (x y : List Nat) (w : World) (h : Fs w ao n cap x) (h' : Fs w bo m cb y) (hT : Table w) (hT6 : Table64 w) (hn : n ≤ 1000000) (D : Dy) (E : Int) (hR : dotR x y = (D, E)) :
    Calls Tryz.prog 60 #[.slice ao n cap, .slice bo m cb] w fun e w' => ∃ v, e = .returned (.tuple #[v, .int .i64 E]) ∧ Dn w' v D ∧ Ext w w' := by
  have hl := h.len
  have hl' := h'.len
  rcases Nat.decEq n m with hnm | hnm
  · unfold dotR at hR
    rw [if_pos (by omega)] at hR
    obtain ⟨rfl, rfl⟩ := Prod.mk.inj hR
    exact adot_len ao bo n m cap cb w hnm
  · subst hnm
    unfold dotR at hR
    rw [if_neg (by omega)] at hR
    obtain ⟨rfl, rfl⟩ := Prod.mk.inj hR
    exact adot_any ao bo n cap cb x y w h h' hT hT6 hn

end Go.Proofs.YtekocoklfnojmaaGreatDoor

namespace Go.Proofs.YtekocoklfnojmaaGreatDoor

theorem root_cut {Z m : Nat} : isq Z / 2 ^ m = isq (Z / (2 ^ m * 2 ^ m)) ∧ (decide (isq Z * isq Z ≠ Z) || decide (isq Z % 2 ^ m ≠ 0)) = (decide (Z % (2 ^ m * 2 ^ m) ≠ 0) || decide (isq (Z / (2 ^ m * 2 ^ m)) * isq (Z / (2 ^ m * 2 ^ m)) ≠ Z / (2 ^ m * 2 ^ m))) := by
  have hJ : 0 < 2 ^ m := Nat.pow_pos (by omega)
  generalize 2 ^ m = J at *
  have hJJ : 0 < J * J := Nat.mul_pos hJ hJ
  have hsq : ∀ c : Nat, c * c * (J * J) = (c * J) * (c * J) := fun c => by rw [Nat.mul_mul_mul_comm]
  have hL : ∀ c : Nat, c ≤ isq Z / J ↔ c ≤ isq (Z / (J * J)) := by
    intro c
    rw [Nat.le_div_iff_mul_le hJ, isq_le, isq_le, Nat.le_div_iff_mul_le hJJ, hsq]
  have hR : isq Z / J = isq (Z / (J * J)) := Nat.le_antisymm ((hL _).1 (Nat.le_refl _)) ((hL _).2 (Nat.le_refl _))
  refine ⟨hR, ?_⟩
  have hd := Nat.div_add_mod (isq Z) J
  have hz := Nat.div_add_mod Z (J * J)
  rw [hR] at hd
  rw [← Bool.decide_or, ← Bool.decide_or]
  apply decide_eq_decide.2
  constructor
  · intro h
    by_cases h1 : Z % (J * J) = 0
    · right
      intro h2
      rw [h1, Nat.add_zero, Nat.mul_comm, ← h2, hsq] at hz
      have h3 : isq Z = isq (Z / (J * J)) * J := by
        have h4 : isq ((isq (Z / (J * J)) * J) * (isq (Z / (J * J)) * J)) = isq (Z / (J * J)) * J := isq_sq _
        rw [hz] at h4
        exact h4
      rcases h with h | h
      · apply h; rw [h3, hz]
      · apply h; rw [h3]; exact Nat.mul_mod_left _ _
    · exact Or.inl h1
  · intro h
    by_cases h1 : isq Z % J = 0
    · left
      intro h2
      rw [h1, Nat.add_zero, Nat.mul_comm] at hd
      have h3 : Z = isq (Z / (J * J)) * isq (Z / (J * J)) * (J * J) := by rw [hsq, hd]; exact h2.symm
      rcases h with h | h
      · apply h; rw [h3]; exact Nat.mul_mod_left _ _
      · apply h
        have h5 : Z / (J * J) = isq (Z / (J * J)) * isq (Z / (J * J)) := by
          conv => lhs; rw [h3]
          exact Nat.mul_div_cancel _ hJJ
        exact h5.symm
    · exact Or.inr h1
/-- a root, and whether it is a little too small -/
structure RootG (A : Nat) (ea : Int) (r : Nat) (E : Int) (T : Bool) : Prop where
  r2 : 4611686018427387904 ≤ r
  r3 : r < 9223372036854775808
  val : ∃ a b : Nat, ea - (a : Int) + b = 2 * E ∧ r = isq (A * 2 ^ a / 2 ^ b) ∧ T = (decide (A * 2 ^ a % 2 ^ b ≠ 0) || decide (r * r ≠ A * 2 ^ a / 2 ^ b))
theorem RootG.fla {A r : Nat} {ea E : Int} {T : Bool} (h : RootG A ea r E T) (hA : A ≠ 0) (mode : Int) : fla false r E T mode = rootV (some ((A : Int), ea)) mode := by
  obtain ⟨r2, r3, a, b, hE, hr, hT⟩ := h
  have hp : 0 < 2 ^ b := Nat.pow_pos (by omega)
  have hZ : A * 2 ^ (a + b) = A * 2 ^ a * 2 ^ b := by rw [Nat.pow_add, Nat.mul_assoc]
  obtain ⟨c1, c2⟩ := root_cut (Z := A * 2 ^ (a + b)) (m := b)
  have d1 : A * 2 ^ (a + b) / (2 ^ b * 2 ^ b) = A * 2 ^ a / 2 ^ b := by rw [hZ, Nat.mul_div_mul_right _ _ hp]
  have d2 : decide (A * 2 ^ (a + b) % (2 ^ b * 2 ^ b) ≠ 0) = decide (A * 2 ^ a % 2 ^ b ≠ 0) := by
    rw [hZ, Nat.mul_mod_mul_right]
    apply decide_eq_decide.2
    constructor
    · intro h1 h2; exact h1 (by rw [h2, Nat.zero_mul])
    · intro h1 h2
      rcases Nat.mul_eq_zero.1 h2 with h3 | h3
      · exact h1 h3
      · omega
  rw [d1] at c1 c2
  rw [d2, ← hr, ← hT] at c2
  rw [← hr] at c1
  have h53 : 2 ^ 53 ≤ r := Nat.le_trans (by decide) r2
  have h1 := fla_tail false (N := isq (A * 2 ^ (a + b))) ((ea - ((a + b : Nat) : Int)) / 2) (decide (isq (A * 2 ^ (a + b)) * isq (A * 2 ^ (a + b)) ≠ A * 2 ^ (a + b))) mode b (by rw [c1]; exact h53)
  rw [c1, c2] at h1
  have e1 : (ea - ((a + b : Nat) : Int)) / 2 + (b : Int) = E := by omega
  rw [e1] at h1
  rw [h1]
  unfold rootV
  dsimp only
  rw [if_neg (by omega), if_neg (by omega), Int.natAbs_natCast]
  obtain ⟨k1, k2⟩ := rootK_ok (A := A) (e := ea)
  refine fla_root_any (by omega) k2 ?_ (big_53 (root_big hA k1))
  have h2 : r ≤ isq (A * 2 ^ (a + b)) := by rw [← c1]; exact Nat.div_le_self _ _
  exact Nat.le_trans h53 h2
theorem rootG_of {A j N k d r : Nat} {e ea E : Int} {t : Bool} (hN : N = A / 2 ^ j) (ht : t = decide (A % 2 ^ j ≠ 0)) (hk : t = true → k = 0) (he : e = ea + j) (hE : e - k + d = 2 * E) (hr : r = isq (N * 2 ^ k / 2 ^ d)) (r2 : 4611686018427387904 ≤ r) (r3 : r < 9223372036854775808) :
    RootG A ea r E (t || decide (N * 2 ^ k % 2 ^ d ≠ 0) || decide (r * r ≠ N * 2 ^ k / 2 ^ d)) := by
  have hj : 0 < 2 ^ j := Nat.pow_pos (by omega)
  have hd : 0 < 2 ^ d := Nat.pow_pos (by omega)
  have key : A * 2 ^ k / 2 ^ (j + d) = N * 2 ^ k / 2 ^ d ∧ decide (A * 2 ^ k % 2 ^ (j + d) ≠ 0) = (t || decide (N * 2 ^ k % 2 ^ d ≠ 0)) := by
    cases htt : t with
    | false =>
      rw [htt] at ht
      have h0 : A % 2 ^ j = 0 := by simpa using of_decide_eq_false ht.symm
      have hA : A = N * 2 ^ j := by
        have := Nat.div_add_mod A (2 ^ j)
        rw [h0, ← hN, Nat.add_zero, Nat.mul_comm] at this
        exact this.symm
      have e1 : A * 2 ^ k = N * 2 ^ k * 2 ^ j := by rw [hA]; exact Nat.mul_right_comm _ _ _
      have e2 : 2 ^ (j + d) = 2 ^ d * 2 ^ j := by rw [Nat.add_comm, Nat.pow_add]
      rw [e1, e2, Nat.mul_div_mul_right _ _ hj, Nat.mul_mod_mul_right, Bool.false_or]
      refine ⟨rfl, decide_eq_decide.2 ⟨fun h1 h2 => h1 (by rw [h2, Nat.zero_mul]), fun h1 h2 => ?_⟩⟩
      rcases Nat.mul_eq_zero.1 h2 with h3 | h3
      · exact h1 h3
      · omega
    | true =>
      rw [hk htt, Nat.pow_zero, Nat.mul_one, Nat.mul_one, hN, Nat.div_div_eq_div_mul, ← Nat.pow_add, Bool.true_or]
      refine ⟨rfl, decide_eq_true ?_⟩
      have h0 : A % 2 ^ j ≠ 0 := of_decide_eq_true (by rw [← ht, htt])
      intro h1
      apply h0
      rw [Nat.pow_add, Nat.mod_mul] at h1
      omega
  exact ⟨r2, r3, k, j + d, by omega, by rw [key.1]; exact hr, by rw [key.1, key.2]⟩
theorem isq_top {M d : Nat} (hd : d = 2 ∨ d = 3) (h0 : 2 ^ 127 ≤ M) (h1 : M < 2 ^ 128) : 2 ^ 124 ≤ M / 2 ^ d ∧ M / 2 ^ d < 2 ^ 126 ∧ 4611686018427387904 ≤ isq (M / 2 ^ d) ∧ isq (M / 2 ^ d) < 9223372036854775808 := by
  have a : 2 ^ 124 ≤ M / 2 ^ d ∧ M / 2 ^ d < 2 ^ 126 := by rcases hd with rfl | rfl <;> omega
  refine ⟨a.1, a.2, isq_le.2 (by omega), ?_⟩
  rcases Nat.lt_or_ge (isq (M / 2 ^ d)) 9223372036854775808 with h | h
  · exact h
  · have := isq_le.1 h
    omega
end Go.Proofs.YtekocoklfnojmaaGreatDoor
