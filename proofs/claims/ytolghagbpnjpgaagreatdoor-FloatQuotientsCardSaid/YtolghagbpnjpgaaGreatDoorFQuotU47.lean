import Derived.Test.YtolghagbpnjpgaaGreatDoorFQuotU28
import Derived.Test.YtolghagbpnjpgaaGreatDoorFQuotU39
import Derived.Test.YtolghagbpnjpgaaGreatDoorFQuotU46
import Derived.Test.YtolghagbpnjpgaaGreatDoorFQuotU22
import Derived.Test.YtolghagbpnjpgaaGreatDoorFQuotU27
import Derived.Test.YtolghagbpnjpgaaGreatDoorFQuotU36
import Derived.Test.YtolghagbpnjpgaaGreatDoorFQuotU38
import Derived.Deep.RegionHeld3
import Derived.Test.YtolghagbpnjpgaaGreatDoorFQuotU30
import Derived.Test.YtolghagbpnjpgaaGreatDoorFQuotU32
import Derived.Test.YtolghagbpnjpgaaGreatDoorFQuotU45
namespace Go.Proofs.YtolghagbpnjpgaaGreatDoor
open Go Go.RowKit

set_option maxRecDepth 100000 in
set_option maxHeartbeats 4000000 in
theorem refRootF_any (u : Value) (d : Dy) (mode : Int) (w : World) (hu : Dl w u d) (hT : Table w) :
    Calls Tryz.prog 26 #[u, .int .i64 mode] w fun e w' => e = .returned (.int .u64 ((rootV d mode : Nat) : Int)) ∧ Ext w w' := by
  obtain ⟨R, hR⟩ : ∃ R, rootV d mode = R := ⟨_, rfl⟩
  rw [hR]
  have HR := Lib.hid hR
  clear hR
  have hu0 := hu
  obtain ⟨ub, un, uo, uk, uc, _, uf, rfl, -⟩ := hu0
  have HTw := Lib.hid hT
  go_enter Tryz.func26, Tryz.ntmps26
  go_upto_region 1 with fail
  obtain ⟨W, hW, hB, hbx, hz⟩ := dbox_new w ub un uo uk uc uf
  rw [← hW]
  clear hW
  have hu := hu.ext hB
  have HT := Lib.hid (hT.below hB)
  generalize hBe : w.heap.size = B at *
  have HBe := Lib.hid hBe; clear hBe hT
  have k0 := hbx.c0
  have k1 := hbx.c1
  have k2 := hbx.c2
  have k3 := hbx.c3
  go_wp2_with fail
  refine (refDNorm_any _ _ _ hu HT.out).mono ?_
  rintro e w1 ⟨r1, rfl, hr, hw1⟩
  have bx := hbx.below hw1
  obtain ⟨hB1, hB1'⟩ := bnext hB (by omega) hw1
  have hz1 := hw1.size
  obtain ⟨xb, xn, xo, xk, xc, xe, rfl⟩ := hr.parts
  clear k0 k1 k2 k3 hbx hB hw1 hu HT
  have k0 := bx.c0
  have k1 := bx.c1
  have k2 := bx.c2
  have k3 := bx.c3
  have f0 := bx.f 0
  have f1 := bx.f 1
  have f2 := bx.f 2
  have f3 := bx.f 3
  go_upto_region 2 with fail
  have ho := only_set4 w1 B (.bool xb) (.bool xn) (.slice xo xk xc) (.int .i64 xe)
  have hr := hr.only_dbox bx ho
  have bx := bx.stored xb xn xo xk xc xe
  have hB2 := hB1.trans (ho.below (B := B) (Nat.le_refl _))
  have hz2 := ho.size
  have hz3 : B + 1 ≤ ((((w1.setCell ⟨B, 0, none⟩ (.bool xb)).setCell ⟨B, 1, none⟩ (.bool xn)).setCell ⟨B, 2, none⟩ (.slice xo xk xc)).setCell ⟨B, 3, none⟩ (.int .i64 xe)).heap.size := by omega
  have hTf := HTw.out.below (w' := (((w1.setCell ⟨B, 0, none⟩ (.bool xb)).setCell ⟨B, 1, none⟩ (.bool xn)).setCell ⟨B, 2, none⟩ (.slice xo xk xc)).setCell ⟨B, 3, none⟩ (.int .i64 xe)) (by rw [HBe.out]; exact hB2)
  clear k0 k1 k2 k3 f0 f1 f2 f3 hB1 ho hz2
  generalize (((w1.setCell ⟨B, 0, none⟩ (.bool xb)).setCell ⟨B, 1, none⟩ (.bool xn)).setCell ⟨B, 2, none⟩ (.slice xo xk xc)).setCell ⟨B, 3, none⟩ (.int .i64 xe) = w2 at *
  have HT := Lib.hid hTf; clear hTf
  have k0 := bx.c0
  have k1 := bx.c1
  have k2 := bx.c2
  have k3 := bx.c3
  cases d with
  | none =>
    obtain rfl := dn_none hr
    obtain rfl : R = 9221120237041090560 := HR.out.symm
    go_wp2
    go_ret
    refine ⟨rfl, ?_⟩
    show Below _ _ _; rw [HBe.out]; exact hB2
  | some q =>
    obtain ⟨m, f⟩ := q
    obtain ⟨rfl, rfl, hm⟩ := dn_some hr
    have hnx := nd_blen hr.1
    simp only [dm, dx, Option.getD_some] at hnx
    obtain ⟨hnx, hx0, hx1⟩ := hnx
    have gm := bn_bg_of hm (by omega)
    clear hm hr
    obtain ⟨sg, hsg⟩ : ∃ sg, sgn3 m 0 = sg := ⟨_, rfl⟩
    have CS := refSign_any _ _ _ _ _ w2 gm
    rw [hsg] at CS
    have CS := Lib.hid CS
    have hsl : (decide (sg < 0)) = decide (m < 0) := by
      rw [← hsg]; unfold sgn3
      apply decide_eq_decide.2
      split
      · omega
      · split <;> omega
    by_cases h3 : m < 0
    · have hR : R = 9221120237041090560 := by
        rw [← HR.out]; unfold rootV; dsimp only
        rw [if_pos h3]
      subst hR
      have hs0 : sg < 0 := by rw [decide_eq_true h3] at hsl; exact of_decide_eq_true hsl
      clear hsl hsg
      go_wp2_with fail
      refine CS.out.mono ?_
      rintro e w3 ⟨rfl, hw3⟩
      obtain ⟨hB3, hB3'⟩ := bnext hB2 (by omega) hw3
      clear k0 k1 k2 k3 CS
      go_wp2
      go_ret
      refine ⟨rfl, ?_⟩
      show Below _ _ _; rw [HBe.out]; exact hB3
    · have hs0 : ¬ sg < 0 := by rw [decide_eq_false h3] at hsl; exact of_decide_eq_false hsl
      clear hsl
      go_wp2_with fail
      refine CS.out.mono ?_
      rintro e w3 ⟨rfl, hw3⟩
      have hw3 : Ext w2 w3 := hw3
      have bx := bx.ext hw3
      have gm := gm.below hw3
      have HT := Lib.hid (HT.out.below hw3)
      obtain ⟨hB3, hB3'⟩ := bnext hB2 (by omega) hw3
      have hz4 := Below.size hw3
      clear k0 k1 k2 k3 CS hw3 hB2
      have k0 := bx.c0
      have k1 := bx.c1
      have k2 := bx.c2
      have k3 := bx.c3
      have CS := refSign_any _ _ _ _ _ w3 gm
      rw [hsg] at CS
      have CS := Lib.hid CS
      by_cases h4 : m = 0
      · subst h4
        obtain rfl : sg = 0 := by rw [← hsg]; rfl
        have hR : R = 0 := by
          rw [← HR.out]; unfold rootV; dsimp only
          rw [if_neg (by omega), if_pos rfl]
        subst hR
        clear hsg
        go_wp2_with fail
        refine CS.out.mono ?_
        rintro e w4 ⟨rfl, hw4⟩
        obtain ⟨hB4, hB4'⟩ := bnext hB3 (by omega) hw4
        clear k0 k1 k2 k3 CS
        go_wp2
        go_ret
        refine ⟨rfl, ?_⟩
        show Below _ _ _; rw [HBe.out]; exact hB4
      · have hs1 : (sg == 0) = false := by
          rw [← hsg]; unfold sgn3
          split
          · rfl
          · split <;> first | rfl | omega
        obtain ⟨A, rfl⟩ := Int.eq_ofNat_of_zero_le (show 0 ≤ m by omega)
        rw [Int.natAbs_natCast] at hnx
        have hA0 : A ≠ 0 := by omega
        have HAb := Lib.hid (show blen A ≤ 140000 by omega)
        have HDS := Lib.hid (fun (k : Nat) (hk : 2 * ((60 : Nat) : Int) + 4 - (blen A : Int) ≤ (k : Nat)) (hev : (xe - (k : Int)) % 2 = 0) => (rootV_any (mode := mode) (e := xe) (k := k) hA0 hk hev).trans HR.out)
        have HBG := Lib.hid (fun (k : Nat) (hk : 2 * ((60 : Nat) : Int) + 4 - (blen A : Int) ≤ (k : Nat)) => root_big (k := k) hA0 hk)
        clear hsg h3 h4 HR hA0
        go_wp2_with fail
        refine CS.out.mono ?_
        rintro e w4 ⟨rfl, hw4⟩
        have hw4 : Ext w3 w4 := hw4
        have bx := bx.ext hw4
        have gm := gm.below hw4
        have HT := Lib.hid (HT.out.below hw4)
        obtain ⟨hB4, hB4'⟩ := bnext hB3 (by omega) hw4
        have hz5 := Below.size hw4
        clear k0 k1 k2 k3 CS hw4 hB3
        have k0 := bx.c0
        have k1 := bx.c1
        have k2 := bx.c2
        have k3 := bx.c3
        have CR : Calls Tryz.prog 93 #[.agg #[.bool xn, .slice xo xk xc], .int .i64 xe, .int .i64 60] w4 fun r w' => ∃ k qn qo qk qc, 2 * ((60 : Nat) : Int) + 4 - (blen A : Int) ≤ (k : Nat) ∧ (xe - (k : Int)) % 2 = 0 ∧ k ≤ 9001 ∧ r = .returned (.tuple #[.agg #[.bool qn, .slice qo qk qc], .int .i64 ((xe - (k : Int)) / 2), .bool (decide (isq (A * 2 ^ k) * isq (A * 2 ^ k) ≠ A * 2 ^ k))]) ∧ Bn w' qn qo qk qc ((isq (A * 2 ^ k) : Nat) : Int) ∧ Ext w4 w' := refRoot_any A _ _ _ _ 60 xe w4 gm HAb.out (by omega) (by omega)
        have CR := Lib.hid CR
        go_wp2_with fail
        refine CR.out.mono ?_
        rintro r w5 ⟨k, qn, qo, qk, qc, hk, hev, hk9, rfl, hq, hw5⟩
        have HV := HDS.out k hk hev
        have HBIG := HBG.out k hk
        have hIb : blen (isq (A * 2 ^ k)) ≤ 900000 := by
          have h2 := blen_lt A
          have h3 : A * 2 ^ k < 2 ^ (blen A + k) := by rw [Nat.pow_add]; exact Nat.mul_lt_mul_of_pos_right h2 (Nat.pow_pos (by omega))
          have h4 : isq (A * 2 ^ k) ≤ A * 2 ^ k := by
            have h5 := (isq_spec (A * 2 ^ k)).1
            rcases Nat.eq_zero_or_pos (isq (A * 2 ^ k)) with h | h
            · omega
            · exact Nat.le_trans (Nat.le_mul_of_pos_left _ h) h5
          exact Nat.le_trans (blen_le_of_lt (Nat.lt_of_le_of_lt h4 h3)) (by have := HAb.out; omega)
        clear hk hev
        obtain ⟨t, ht⟩ : ∃ t, decide (isq (A * 2 ^ k) * isq (A * 2 ^ k) ≠ A * 2 ^ k) = t := ⟨_, rfl⟩
        obtain ⟨Q, hQ⟩ : ∃ Q, isq (A * 2 ^ k) = Q := ⟨_, rfl⟩
        rw [ht] at HV
        rw [hQ] at HV hq hIb HBIG
        rw [ht]
        clear ht hQ
        have bx := bx.ext hw5
        have HT := Lib.hid (HT.out.below hw5)
        obtain ⟨hB5, hB5'⟩ := bnext hB4 (by omega) hw5
        have hz6 := Below.size hw5
        have HV := Lib.hid HV
        have HIb := Lib.hid hIb
        have HBIG := Lib.hid HBIG
        obtain ⟨E, hE⟩ : ∃ E : Int, (xe - (k : Int)) / 2 = E := ⟨_, rfl⟩
        have hEb : -1000000 ≤ E ∧ E ≤ 1000000 := by omega
        rw [hE] at HV
        rw [hE]
        clear k0 k1 k2 k3 CR hw5 hB4 hE hk9 hIb bx
        go_upto_region 7 with fail
        obtain ⟨U, hU, hu, hG, hzu⟩ := box_new w5 qn qo qk qc
        rw [← hU]
        clear hU
        have hq := hq.below hu
        have HT := Lib.hid (HT.out.below hu)
        obtain ⟨hB6, hB6'⟩ := bnext hB5 (by omega) hu
        have g0 := hG.c0
        have g1 := hG.c1
        have CR := refRoundedT_any false qn qo qk qc Q E t mode U (bn_bg_of hq (by rw [Int.natAbs_natCast]; have := HIb.out; omega)) (big_ne HBIG.out) (big_place HBIG.out) HIb.out hEb.1 hEb.2 HT.out
        rw [HV.out] at CR
        have CR := Lib.hid CR
        clear hu hq HBIG
        go_wp2_with fail
        with_reducible refine CR.out.mono ?_
        rintro r w7 ⟨rfl, hw7⟩
        have hB7 : Below B w w7 := (bnext hB6 (by omega) hw7).1
        have HF := Lib.hid hB7
        clear g0 g1 CR hB6
        go_wp2
        go_ret
        refine ⟨rfl, ?_⟩
        show Below _ _ _; rw [HBe.out]; exact HF.out
end Go.Proofs.YtolghagbpnjpgaaGreatDoor

namespace Go.Proofs.YtolghagbpnjpgaaGreatDoor
open Go Go.RowKit

set_option maxRecDepth 100000 in
set_option maxHeartbeats 4000000 in
theorem refRound_any (u : Value) (d : Dy) (mode : Int) (w : World) (hu : Dl w u d) (hT : Table w) :
    Calls Tryz.prog 22 #[u, .int .i64 mode] w fun e w' => e = .returned (.int .u64 ((frdF d mode : Nat) : Int)) ∧ Ext w w' := by
  obtain ⟨R, hR⟩ : ∃ R, frdF d mode = R := ⟨_, rfl⟩
  rw [hR]
  have HR := Lib.hid hR
  clear hR
  have hu0 := hu
  obtain ⟨ub, un, uo, uk, uc, _, uf, rfl, -⟩ := hu0
  have HTw := Lib.hid hT
  go_enter Tryz.func22, Tryz.ntmps22
  go_upto_region 1 with fail
  obtain ⟨W, hW, hB, hbx, hz⟩ := dbox_new w ub un uo uk uc uf
  rw [← hW]
  clear hW
  have hu := hu.ext hB
  have HT := Lib.hid (hT.below hB)
  generalize hBe : w.heap.size = B at *
  have HBe := Lib.hid hBe; clear hBe hT
  have k0 := hbx.c0
  have k1 := hbx.c1
  have k2 := hbx.c2
  have k3 := hbx.c3
  go_wp2_with fail
  refine (refDNorm_any _ _ _ hu HT.out).mono ?_
  rintro e w1 ⟨r1, rfl, hr, hw1⟩
  have bx := hbx.below hw1
  obtain ⟨hB1, hB1'⟩ := bnext hB (by omega) hw1
  have hz1 := hw1.size
  obtain ⟨xb, xn, xo, xk, xc, xe, rfl⟩ := hr.parts
  clear k0 k1 k2 k3 hbx hB hw1 hu HT
  have k0 := bx.c0
  have k1 := bx.c1
  have k2 := bx.c2
  have k3 := bx.c3
  have f0 := bx.f 0
  have f1 := bx.f 1
  have f2 := bx.f 2
  have f3 := bx.f 3
  go_upto_region 2 with fail
  have ho := only_set4 w1 B (.bool xb) (.bool xn) (.slice xo xk xc) (.int .i64 xe)
  have hr := hr.only_dbox bx ho
  have bx := bx.stored xb xn xo xk xc xe
  have hB2 := hB1.trans (ho.below (B := B) (Nat.le_refl _))
  have hz2 := ho.size
  have hz3 : B + 1 ≤ ((((w1.setCell ⟨B, 0, none⟩ (.bool xb)).setCell ⟨B, 1, none⟩ (.bool xn)).setCell ⟨B, 2, none⟩ (.slice xo xk xc)).setCell ⟨B, 3, none⟩ (.int .i64 xe)).heap.size := by omega
  have hTf := HTw.out.below (w' := (((w1.setCell ⟨B, 0, none⟩ (.bool xb)).setCell ⟨B, 1, none⟩ (.bool xn)).setCell ⟨B, 2, none⟩ (.slice xo xk xc)).setCell ⟨B, 3, none⟩ (.int .i64 xe)) (by rw [HBe.out]; exact hB2)
  clear k0 k1 k2 k3 f0 f1 f2 f3 hB1 ho hz2
  generalize (((w1.setCell ⟨B, 0, none⟩ (.bool xb)).setCell ⟨B, 1, none⟩ (.bool xn)).setCell ⟨B, 2, none⟩ (.slice xo xk xc)).setCell ⟨B, 3, none⟩ (.int .i64 xe) = w2 at *
  have HT := Lib.hid hTf; clear hTf
  have hE2 : Ext w w2 := by show Below _ _ _; rw [HBe.out]; exact hB2
  have k0 := bx.c0
  have k1 := bx.c1
  have k2 := bx.c2
  have k3 := bx.c3
  cases d with
  | none =>
    obtain rfl := dn_none hr
    clear hr
    obtain rfl : R = 9221120237041090560 := HR.out.symm
    clear HR
    go_wp2
    go_ret
    exact ⟨rfl, hE2⟩
  | some p =>
    obtain ⟨m, f⟩ := p
    obtain ⟨rfl, rfl, hm⟩ := dn_some hr
    have HNEG := Lib.hid hm.neg
    have hnx := nd_blen hr.1
    simp only [dm, dx, Option.getD_some] at hnx
    obtain ⟨hnx, hx0, hx1⟩ := hnx
    have gm := bn_bg_of hm (by omega)
    clear hr hm
    go_wp2_with fail
    refine (refSign_any _ _ _ _ _ _ gm).mono ?_
    rintro e w3 ⟨rfl, hw3⟩
    have gm := gm.below hw3
    have bx := bx.below hw3
    have hE3 := Ext.trans hE2 hw3
    have HT3 := Lib.hid (fun W (hW : Ext w3 W) => (HT.out.below hw3).below hW)
    clear k0 k1 k2 k3 hB2 hE2
    have k0 := bx.c0
    have k1 := bx.c1
    have k2 := bx.c2
    have k3 := bx.c3
    by_cases h0 : m = 0
    · have hs0 : (sgn3 m 0 == 0) = true := by simp [sgn3, h0]
      have hV : R = 0 := by rw [← HR.out]; show rz m xe mode = 0; unfold rz; rw [if_pos h0]
      subst hV
      clear h0 HR
      go_wp2
      go_ret
      exact ⟨rfl, hE3⟩
    · have hs0 : (sgn3 m 0 == 0) = false := by
        have : sgn3 m 0 ≠ 0 := fun h => h0 (sgn3_zero h)
        simpa using this
      have HV : Hid (flr xn m.natAbs xe false mode = R) := Lib.hid (by
        rw [← HR.out]
        show _ = rz m xe mode
        unfold rz rnd
        rw [if_neg h0, HNEG.out])
      have HNA := Lib.hid (show m.natAbs ≠ 0 by omega)
      clear h0 HR
      have HC := Lib.hid (show ∀ wx, Ext w3 wx → (wx.cell? ⟨B, 0, none⟩ = some (.bool false) ∧ wx.cell? ⟨B, 1, none⟩ = some (.bool xn) ∧ wx.cell? ⟨B, 2, none⟩ = some (.slice xo xk xc) ∧ wx.cell? ⟨B, 3, none⟩ = some (.int .i64 xe)) from fun wx h => ⟨(bx.ext h).c0, (bx.ext h).c1, (bx.ext h).c2, (bx.ext h).c3⟩)
      have ex0 : Ext w3 w3.drew := (Below.refl _ _).drew
      go_upto_region 6 with fail
      go_region_held3 (fun wx => (wx.cell? ⟨B, 0, none⟩ = some (.bool false) ∧ wx.cell? ⟨B, 1, none⟩ = some (.bool xn) ∧ wx.cell? ⟨B, 2, none⟩ = some (.slice xo xk xc) ∧ wx.cell? ⟨B, 3, none⟩ = some (.int .i64 xe)))
        (first | exact HC.out _ (by assumption))
        (first
          | (go_at_call 89; refine (refAbs_any _ _ _ _ _ _ (by exact gm.drew)).mono ?_; rintro e w4 ⟨nr, ro, l, cr, rfl, hq, -, hw4⟩; have ex1 : Ext w3 w4 := ex0.trans hw4)
          | (go_at_call 88; refine (refRounded_any _ _ _ _ _ m.natAbs _ _ _ (bn_bg_of hq (by rw [Int.natAbs_natCast]; omega)) HNA.out (by omega) (by omega) (by omega) (HT3.out _ ex1)).mono ?_; rw [HV.out]; rintro e w5 ⟨rfl, hw5⟩; have ex2 : Ext w3 w5 := ex1.trans hw5))
      have HF := Lib.hid (Ext.trans hE3 ex2)
      go_wp2
      go_ret
      exact ⟨rfl, HF.out⟩
end Go.Proofs.YtolghagbpnjpgaaGreatDoor

namespace Go.Proofs.YtolghagbpnjpgaaGreatDoor
open Go.RowKit

theorem retR {A : Nat} {R : Int} {f : Nat} {args : Array Value} {w : World} (hR : (A : Int) = R) (h : Calls Tryz.prog f args w fun e w' => e = .returned (.int .u64 (A : Int)) ∧ Ext w w') : Calls Tryz.prog f args w fun e w' => e = .returned (.int .u64 R) ∧ Ext w w' := by rw [← hR]; exact h

set_option maxRecDepth 100000 in
set_option maxHeartbeats 8000000 in
theorem fquotL_any (ab an : Bool) (ao : Option Addr) (ak ac : Nat) (ae : Int) (bb bn : Bool) (bo : Option Addr) (bk bc : Nat) (be : Int) (mode : Int) (w : World) (ha : RawD w ab an ao ak ac ae) (hb : RawD w bb bn bo bk bc be) (hT : Table w) :
    Calls Tryz.prog 4 #[.agg #[.bool ab, .bool an, .slice ao ak ac, .int .i64 ae], .agg #[.bool bb, .bool bn, .slice bo bk bc, .int .i64 be], .int .i64 mode] w fun e w' => e = .returned (.bool true) ∧ Ext w w' := by
  go_enter Tryz.func4, Tryz.ntmps4
  go_upto_region 1 with fail
  obtain ⟨W, hW, hB, hx, hy, hz⟩ := boxes_two_d w ab an ao ak ac ae bb bn bo bk bc be
  rw [← hW]
  clear hW
  have ha : RawD W ab an ao ak ac ae := ⟨ha.1, ha.2.1, fun h => by obtain ⟨zs, hs⟩ := ha.2.2 h; exact ⟨zs, hs.below hB⟩⟩
  have hb : RawD W bb bn bo bk bc be := ⟨hb.1, hb.2.1, fun h => by obtain ⟨zs, hs⟩ := hb.2.2 h; exact ⟨zs, hs.below hB⟩⟩
  have HT := Lib.hid (hT.below hB)
  have HB := Lib.hid (show Ext w W from hB)
  have EX := Lib.hid (Ext.refl W)
  clear hB hT hz
  generalize w.heap.size = B at *
  have HC := Lib.hid (show ∀ wx, Ext W wx → (wx.cell? ⟨B, 0, none⟩ = some (.bool ab) ∧ wx.cell? ⟨B, 1, none⟩ = some (.bool an) ∧ wx.cell? ⟨B, 2, none⟩ = some (.slice ao ak ac) ∧ wx.cell? ⟨B, 3, none⟩ = some (.int .i64 ae)) ∧ (wx.cell? ⟨B + 1, 0, none⟩ = some (.bool bb) ∧ wx.cell? ⟨B + 1, 1, none⟩ = some (.bool bn) ∧ wx.cell? ⟨B + 1, 2, none⟩ = some (.slice bo bk bc) ∧ wx.cell? ⟨B + 1, 3, none⟩ = some (.int .i64 be)) from fun wx h => ⟨⟨(hx.ext h).c0, (hx.ext h).c1, (hx.ext h).c2, (hx.ext h).c3⟩, (hy.ext h).c0, (hy.ext h).c1, (hy.ext h).c2, (hy.ext h).c3⟩)
  clear hx hy
  obtain ⟨⟨a0, a1, a2, a3⟩, b0, b1, b2, b3⟩ := HC.out W (Ext.refl _)
  cases hsa : slimSays ak ae 20 3000 with
  | false =>
    have CLA := Lib.hid (fun w => slim_no_at ab an ao ak ac ae w false hsa)
    clear hsa ha hb
    go_wp2_with fail
    refine (CLA.out _).mono ?_
    rintro r w1 ⟨rfl, hE⟩
    clear a0 a1 a2 a3 b0 b1 b2 b3
    have EX := Lib.hid (Ext.trans EX.out hE)
    clear hE
    go_wp2_with fail
    refine (fawake_any _ (HT.out.below EX.out)).mono ?_
    rintro r wz ⟨rfl, hE⟩
    go_wp2
    go_ret
    exact ⟨rfl, HB.out.trans (Ext.trans EX.out hE)⟩
  | true =>
    have CLA := Lib.hid (fun w => slim_no_at ab an ao ak ac ae w true hsa)
    obtain ⟨d, hda, -, -⟩ := ha.dl hsa (by omega)
    have HDA := Lib.hid (fun wx (h : Ext W wx) => hda.ext h)
    clear hsa ha hda
    cases hsb : slimSays bk be 20 3000 with
    | false =>
      have CLB := Lib.hid (fun w => slim_no_at bb bn bo bk bc be w false hsb)
      clear hsb hb
      go_wp2_with fail
      refine (CLA.out _).mono ?_
      rintro r w1 ⟨rfl, hE⟩
      clear a0 a1 a2 a3 b0 b1 b2 b3
      have EX := Lib.hid (Ext.trans EX.out hE)
      clear hE
      obtain ⟨⟨a0, a1, a2, a3⟩, b0, b1, b2, b3⟩ := HC.out _ EX.out
      go_wp2_with fail
      refine (CLB.out _).mono ?_
      rintro r w2 ⟨rfl, hE⟩
      clear a0 a1 a2 a3 b0 b1 b2 b3
      have EX := Lib.hid (Ext.trans EX.out hE)
      clear hE
      go_wp2_with fail
      refine (fawake_any _ (HT.out.below EX.out)).mono ?_
      rintro r wz ⟨rfl, hE⟩
      go_wp2
      go_ret
      exact ⟨rfl, HB.out.trans (Ext.trans EX.out hE)⟩
    | true =>
      have CLB := Lib.hid (fun w => slim_no_at bb bn bo bk bc be w true hsb)
      obtain ⟨d', hdb, -, -⟩ := hb.dl hsb (by omega)
      have HDB := Lib.hid (fun wx (h : Ext W wx) => hdb.ext h)
      clear hsb hb hdb
      obtain ⟨R1, r1⟩ : ∃ R : Int, ((frdF d mode : Nat) : Int) = R := ⟨_, rfl⟩
      obtain ⟨R2, r2⟩ : ∃ R : Int, ((quoV d d' mode : Nat) : Int) = R := ⟨_, rfl⟩
      obtain ⟨R3, r3⟩ : ∃ R : Int, ((rootV d mode : Nat) : Int) = R := ⟨_, rfl⟩
      have C1 := Lib.hid (fun wx (h : Ext W wx) => retR r1 (frd_any _ d mode wx (HDA.out wx h).dg (HT.out.below h)))
      have D1 := Lib.hid (fun wx (h : Ext W wx) => retR r1 (refRound_any _ d mode wx (HDA.out wx h) (HT.out.below h)))
      have C2 := Lib.hid (fun wx (h : Ext W wx) => retR r2 (fquoD_any _ _ d d' mode wx (HDA.out wx h).dg (HDB.out wx h).dg (HT.out.below h)))
      have D2 := Lib.hid (fun wx (h : Ext W wx) => retR r2 (refQuoF_any _ _ d d' mode wx (HDA.out wx h) (HDB.out wx h) (HT.out.below h)))
      have C3 := Lib.hid (fun wx (h : Ext W wx) => retR r3 (frootd_any _ d mode wx (HDA.out wx h).dg (HT.out.below h)))
      have D3 := Lib.hid (fun wx (h : Ext W wx) => retR r3 (refRootF_any _ d mode wx (HDA.out wx h) (HT.out.below h)))
      have e1 : (R1 == R1) = true := by simp
      have e2 : (R2 == R2) = true := by simp
      have e3 : (R3 == R3) = true := by simp
      clear r1 r2 r3
      go_wp2_with fail
      refine (CLA.out _).mono ?_
      rintro r w1 ⟨rfl, hE⟩
      clear a0 a1 a2 a3 b0 b1 b2 b3
      have EX := Lib.hid (Ext.trans EX.out hE)
      clear hE
      obtain ⟨⟨a0, a1, a2, a3⟩, b0, b1, b2, b3⟩ := HC.out _ EX.out
      go_wp2_with fail
      refine (CLB.out _).mono ?_
      rintro r w2 ⟨rfl, hE⟩
      clear a0 a1 a2 a3 b0 b1 b2 b3
      have EX := Lib.hid (Ext.trans EX.out hE)
      clear hE
      obtain ⟨⟨a0, a1, a2, a3⟩, b0, b1, b2, b3⟩ := HC.out _ EX.out
      have ex0 : Ext W w2.drew := Ext.trans EX.out ((Below.refl _ _).drew)
      go_upto_region 3 with fail
      go_region_held3 (fun wx => (wx.cell? ⟨B, 0, none⟩ = some (.bool ab) ∧ wx.cell? ⟨B, 1, none⟩ = some (.bool an) ∧ wx.cell? ⟨B, 2, none⟩ = some (.slice ao ak ac) ∧ wx.cell? ⟨B, 3, none⟩ = some (.int .i64 ae)) ∧ (wx.cell? ⟨B + 1, 0, none⟩ = some (.bool bb) ∧ wx.cell? ⟨B + 1, 1, none⟩ = some (.bool bn) ∧ wx.cell? ⟨B + 1, 2, none⟩ = some (.slice bo bk bc) ∧ wx.cell? ⟨B + 1, 3, none⟩ = some (.int .i64 be)))
        (first | exact HC.out _ (by assumption))
        (first
          | (go_at_call 21; refine (C1.out _ (by assumption)).mono ?_; rintro e v1 ⟨rfl, h1⟩; have x1 : Ext W v1 := Ext.trans (by assumption) h1)
          | (go_at_call 22; refine (D1.out _ (by assumption)).mono ?_; rintro e v2 ⟨rfl, h2⟩; have x2 : Ext W v2 := Ext.trans (by assumption) h2)
          | (go_at_call 23; refine (C2.out _ (by assumption)).mono ?_; rintro e v3 ⟨rfl, h3⟩; have x3 : Ext W v3 := Ext.trans (by assumption) h3)
          | (go_at_call 24; refine (D2.out _ (by assumption)).mono ?_; rintro e v4 ⟨rfl, h4⟩; have x4 : Ext W v4 := Ext.trans (by assumption) h4)
          | (go_at_call 25; refine (C3.out _ (by assumption)).mono ?_; rintro e v5 ⟨rfl, h5⟩; have x5 : Ext W v5 := Ext.trans (by assumption) h5)
          | (go_at_call 26; refine (D3.out _ (by assumption)).mono ?_; rintro e v6 ⟨rfl, h6⟩; have x6 : Ext W v6 := Ext.trans (by assumption) h6)
          | (go_at_call 19; refine (fawake_any _ (HT.out.below (by assumption))).mono ?_; rintro e v7 ⟨rfl, h7⟩; have x7 : Ext W v7 := Ext.trans (by assumption) h7))
      have HF := Lib.hid (HB.out.trans x7)
      go_wp2
      go_ret
      exact ⟨rfl, HF.out⟩
end Go.Proofs.YtolghagbpnjpgaaGreatDoor
