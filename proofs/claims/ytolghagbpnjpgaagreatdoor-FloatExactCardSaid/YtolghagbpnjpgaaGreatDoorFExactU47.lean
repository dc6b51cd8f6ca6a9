import Derived.Test.YtolghagbpnjpgaaGreatDoorFExactU26
import Derived.Test.YtolghagbpnjpgaaGreatDoorFExactU37
import Derived.Test.YtolghagbpnjpgaaGreatDoorFExactU46
import Derived.Test.YtolghagbpnjpgaaGreatDoorFExactU20
import Derived.Test.YtolghagbpnjpgaaGreatDoorFExactU24
import Derived.Test.YtolghagbpnjpgaaGreatDoorFExactU30
import Derived.Test.YtolghagbpnjpgaaGreatDoorFExactU34
import Derived.Test.YtolghagbpnjpgaaGreatDoorFExactU4
import Derived.Test.YtolghagbpnjpgaaGreatDoorFExactU44
import Derived.Test.YtolghagbpnjpgaaGreatDoorFExactU45
import Derived.Test.YtolghagbpnjpgaaGreatDoorFExactU21
namespace Go.Proofs.YtolghagbpnjpgaaGreatDoor
open Go Go.RowKit

set_option maxRecDepth 100000 in
set_option maxHeartbeats 4000000 in
theorem refRootF_any (u : Value) (d : Dy) (mode : Int) (w : World) (hu : Dl w u d) (hT : Table w) :
    Calls Tryz.prog 26 #[u, .int .i64 mode] w fun e w' => e = .returned (.int .u64 ((rootV d mode : Nat) : Int)) ∧ Ext w w' := by
  obtain ⟨R, hR⟩ : ∃ R, rootV d mode = R := ⟨_, rfl⟩
  rw [hR]
  have HR := Lib.hid hR
  clear hR
  have hu0 := hu
  obtain ⟨ub, un, uo, uk, uc, _, uf, rfl, -⟩ := hu0
  have HTw := Lib.hid hT
  go_enter Tryz.func26, Tryz.ntmps26
  go_upto_region 1 with fail
  obtain ⟨W, hW, hB, hbx, hz⟩ := dbox_new w ub un uo uk uc uf
  rw [← hW]
  clear hW
  have hu := hu.ext hB
  have HT := Lib.hid (hT.below hB)
  generalize hBe : w.heap.size = B at *
  have HBe := Lib.hid hBe; clear hBe hT
  have k0 := hbx.c0
  have k1 := hbx.c1
  have k2 := hbx.c2
  have k3 := hbx.c3
  go_wp2_with fail
  refine (refDNorm_any _ _ _ hu HT.out).mono ?_
  rintro e w1 ⟨r1, rfl, hr, hw1⟩
  have bx := hbx.below hw1
  obtain ⟨hB1, hB1'⟩ := bnext hB (by omega) hw1
  have hz1 := hw1.size
  obtain ⟨xb, xn, xo, xk, xc, xe, rfl⟩ := hr.parts
  clear k0 k1 k2 k3 hbx hB hw1 hu HT
  have k0 := bx.c0
  have k1 := bx.c1
  have k2 := bx.c2
  have k3 := bx.c3
  have f0 := bx.f 0
  have f1 := bx.f 1
  have f2 := bx.f 2
  have f3 := bx.f 3
  go_upto_region 2 with fail
  have ho := only_set4 w1 B (.bool xb) (.bool xn) (.slice xo xk xc) (.int .i64 xe)
  have hr := hr.only_dbox bx ho
  have bx := bx.stored xb xn xo xk xc xe
  have hB2 := hB1.trans (ho.below (B := B) (Nat.le_refl _))
  have hz2 := ho.size
  have hz3 : B + 1 ≤ ((((w1.setCell ⟨B, 0, none⟩ (.bool xb)).setCell ⟨B, 1, none⟩ (.bool xn)).setCell ⟨B, 2, none⟩ (.slice xo xk xc)).setCell ⟨B, 3, none⟩ (.int .i64 xe)).heap.size := by omega
  have hTf := HTw.out.below (w' := (((w1.setCell ⟨B, 0, none⟩ (.bool xb)).setCell ⟨B, 1, none⟩ (.bool xn)).setCell ⟨B, 2, none⟩ (.slice xo xk xc)).setCell ⟨B, 3, none⟩ (.int .i64 xe)) (by rw [HBe.out]; exact hB2)
  clear k0 k1 k2 k3 f0 f1 f2 f3 hB1 ho hz2
  generalize (((w1.setCell ⟨B, 0, none⟩ (.bool xb)).setCell ⟨B, 1, none⟩ (.bool xn)).setCell ⟨B, 2, none⟩ (.slice xo xk xc)).setCell ⟨B, 3, none⟩ (.int .i64 xe) = w2 at *
  have HT := Lib.hid hTf; clear hTf
  have k0 := bx.c0
  have k1 := bx.c1
  have k2 := bx.c2
  have k3 := bx.c3
  cases d with
  | none =>
    obtain rfl := dn_none hr
    obtain rfl : R = 9221120237041090560 := HR.out.symm
    go_wp2
    go_ret
    refine ⟨rfl, ?_⟩
    show Below _ _ _; rw [HBe.out]; exact hB2
  | some q =>
    obtain ⟨m, f⟩ := q
    obtain ⟨rfl, rfl, hm⟩ := dn_some hr
    have hnx := nd_blen hr.1
    simp only [dm, dx, Option.getD_some] at hnx
    obtain ⟨hnx, hx0, hx1⟩ := hnx
    have gm := bn_bg_of hm (by omega)
    clear hm hr
    obtain ⟨sg, hsg⟩ : ∃ sg, sgn3 m 0 = sg := ⟨_, rfl⟩
    have CS := refSign_any _ _ _ _ _ w2 gm
    rw [hsg] at CS
    have CS := Lib.hid CS
    have hsl : (decide (sg < 0)) = decide (m < 0) := by
      rw [← hsg]; unfold sgn3
      apply decide_eq_decide.2
      split
      · omega
      · split <;> omega
    by_cases h3 : m < 0
    · have hR : R = 9221120237041090560 := by
        rw [← HR.out]; unfold rootV; dsimp only
        rw [if_pos h3]
      subst hR
      have hs0 : sg < 0 := by rw [decide_eq_true h3] at hsl; exact of_decide_eq_true hsl
      clear hsl hsg
      go_wp2_with fail
      refine CS.out.mono ?_
      rintro e w3 ⟨rfl, hw3⟩
      obtain ⟨hB3, hB3'⟩ := bnext hB2 (by omega) hw3
      clear k0 k1 k2 k3 CS
      go_wp2
      go_ret
      refine ⟨rfl, ?_⟩
      show Below _ _ _; rw [HBe.out]; exact hB3
    · have hs0 : ¬ sg < 0 := by rw [decide_eq_false h3] at hsl; exact of_decide_eq_false hsl
      clear hsl
      go_wp2_with fail
      refine CS.out.mono ?_
      rintro e w3 ⟨rfl, hw3⟩
      have hw3 : Ext w2 w3 := hw3
      have bx := bx.ext hw3
      have gm := gm.below hw3
      have HT := Lib.hid (HT.out.below hw3)
      obtain ⟨hB3, hB3'⟩ := bnext hB2 (by omega) hw3
      have hz4 := Below.size hw3
      clear k0 k1 k2 k3 CS hw3 hB2
      have k0 := bx.c0
      have k1 := bx.c1
      have k2 := bx.c2
      have k3 := bx.c3
      have CS := refSign_any _ _ _ _ _ w3 gm
      rw [hsg] at CS
      have CS := Lib.hid CS
      by_cases h4 : m = 0
      · subst h4
        obtain rfl : sg = 0 := by rw [← hsg]; rfl
        have hR : R = 0 := by
          rw [← HR.out]; unfold rootV; dsimp only
          rw [if_neg (by omega), if_pos rfl]
        subst hR
        clear hsg
        go_wp2_with fail
        refine CS.out.mono ?_
        rintro e w4 ⟨rfl, hw4⟩
        obtain ⟨hB4, hB4'⟩ := bnext hB3 (by omega) hw4
        clear k0 k1 k2 k3 CS
        go_wp2
        go_ret
        refine ⟨rfl, ?_⟩
        show Below _ _ _; rw [HBe.out]; exact hB4
      · have hs1 : (sg == 0) = false := by
          rw [← hsg]; unfold sgn3
          split
          · rfl
          · split <;> first | rfl | omega
        obtain ⟨A, rfl⟩ := Int.eq_ofNat_of_zero_le (show 0 ≤ m by omega)
        rw [Int.natAbs_natCast] at hnx
        have hA0 : A ≠ 0 := by omega
        have HAb := Lib.hid (show blen A ≤ 140000 by omega)
        have HDS := Lib.hid (fun (k : Nat) (hk : 2 * ((60 : Nat) : Int) + 4 - (blen A : Int) ≤ (k : Nat)) (hev : (xe - (k : Int)) % 2 = 0) => (rootV_any (mode := mode) (e := xe) (k := k) hA0 hk hev).trans HR.out)
        have HBG := Lib.hid (fun (k : Nat) (hk : 2 * ((60 : Nat) : Int) + 4 - (blen A : Int) ≤ (k : Nat)) => root_big (k := k) hA0 hk)
        clear hsg h3 h4 HR hA0
        go_wp2_with fail
        refine CS.out.mono ?_
        rintro e w4 ⟨rfl, hw4⟩
        have hw4 : Ext w3 w4 := hw4
        have bx := bx.ext hw4
        have gm := gm.below hw4
        have HT := Lib.hid (HT.out.below hw4)
        obtain ⟨hB4, hB4'⟩ := bnext hB3 (by omega) hw4
        have hz5 := Below.size hw4
        clear k0 k1 k2 k3 CS hw4 hB3
        have k0 := bx.c0
        have k1 := bx.c1
        have k2 := bx.c2
        have k3 := bx.c3
        have CR : Calls Tryz.prog 93 #[.agg #[.bool xn, .slice xo xk xc], .int .i64 xe, .int .i64 60] w4 fun r w' => ∃ k qn qo qk qc, 2 * ((60 : Nat) : Int) + 4 - (blen A : Int) ≤ (k : Nat) ∧ (xe - (k : Int)) % 2 = 0 ∧ k ≤ 9001 ∧ r = .returned (.tuple #[.agg #[.bool qn, .slice qo qk qc], .int .i64 ((xe - (k : Int)) / 2), .bool (decide (isq (A * 2 ^ k) * isq (A * 2 ^ k) ≠ A * 2 ^ k))]) ∧ Bn w' qn qo qk qc ((isq (A * 2 ^ k) : Nat) : Int) ∧ Ext w4 w' := refRoot_any A _ _ _ _ 60 xe w4 gm HAb.out (by omega) (by omega)
        have CR := Lib.hid CR
        go_wp2_with fail
        refine CR.out.mono ?_
        rintro r w5 ⟨k, qn, qo, qk, qc, hk, hev, hk9, rfl, hq, hw5⟩
        have HV := HDS.out k hk hev
        have HBIG := HBG.out k hk
        have hIb : blen (isq (A * 2 ^ k)) ≤ 900000 := by
          have h2 := blen_lt A
          have h3 : A * 2 ^ k < 2 ^ (blen A + k) := by rw [Nat.pow_add]; exact Nat.mul_lt_mul_of_pos_right h2 (Nat.pow_pos (by omega))
          have h4 : isq (A * 2 ^ k) ≤ A * 2 ^ k := by
            have h5 := (isq_spec (A * 2 ^ k)).1
            rcases Nat.eq_zero_or_pos (isq (A * 2 ^ k)) with h | h
            · omega
            · exact Nat.le_trans (Nat.le_mul_of_pos_left _ h) h5
          exact Nat.le_trans (blen_le_of_lt (Nat.lt_of_le_of_lt h4 h3)) (by have := HAb.out; omega)
        clear hk hev
        obtain ⟨t, ht⟩ : ∃ t, decide (isq (A * 2 ^ k) * isq (A * 2 ^ k) ≠ A * 2 ^ k) = t := ⟨_, rfl⟩
        obtain ⟨Q, hQ⟩ : ∃ Q, isq (A * 2 ^ k) = Q := ⟨_, rfl⟩
        rw [ht] at HV
        rw [hQ] at HV hq hIb HBIG
        rw [ht]
        clear ht hQ
        have bx := bx.ext hw5
        have HT := Lib.hid (HT.out.below hw5)
        obtain ⟨hB5, hB5'⟩ := bnext hB4 (by omega) hw5
        have hz6 := Below.size hw5
        have HV := Lib.hid HV
        have HIb := Lib.hid hIb
        have HBIG := Lib.hid HBIG
        obtain ⟨E, hE⟩ : ∃ E : Int, (xe - (k : Int)) / 2 = E := ⟨_, rfl⟩
        have hEb : -1000000 ≤ E ∧ E ≤ 1000000 := by omega
        rw [hE] at HV
        rw [hE]
        clear k0 k1 k2 k3 CR hw5 hB4 hE hk9 hIb bx
        go_upto_region 7 with fail
        obtain ⟨U, hU, hu, hG, hzu⟩ := box_new w5 qn qo qk qc
        rw [← hU]
        clear hU
        have hq := hq.below hu
        have HT := Lib.hid (HT.out.below hu)
        obtain ⟨hB6, hB6'⟩ := bnext hB5 (by omega) hu
        have g0 := hG.c0
        have g1 := hG.c1
        have CR := refRoundedT_any false qn qo qk qc Q E t mode U (bn_bg_of hq (by rw [Int.natAbs_natCast]; have := HIb.out; omega)) (big_ne HBIG.out) (big_place HBIG.out) HIb.out hEb.1 hEb.2 HT.out
        rw [HV.out] at CR
        have CR := Lib.hid CR
        clear hu hq HBIG
        go_wp2_with fail
        with_reducible refine CR.out.mono ?_
        rintro r w7 ⟨rfl, hw7⟩
        have hB7 : Below B w w7 := (bnext hB6 (by omega) hw7).1
        have HF := Lib.hid hB7
        clear g0 g1 CR hB6
        go_wp2
        go_ret
        refine ⟨rfl, ?_⟩
        show Below _ _ _; rw [HBe.out]; exact HF.out
end Go.Proofs.YtolghagbpnjpgaaGreatDoor

namespace Go.Proofs.YtolghagbpnjpgaaGreatDoor
open Go.RowKit

set_option maxRecDepth 100000 in
theorem refSqrt_nan (f : Nat) (mode : Int) (hf : f < 18446744073709551616) (nf : nanB f = true) (w : World) :
    Calls Tryz.prog 18 #[.int .u64 (f : Int), .int .i64 mode] w fun x w' => x = .returned (.int .u64 ((9221120237041090560 : Nat) : Int)) ∧ Ext w w' := by
  have NF := Lib.hid (refNan_any f hf true (nf))
  clear nf hf
  go_enter Tryz.func18, Tryz.ntmps18
  go_wp2_with (first | (go_at_call 56; (with_reducible refine (NF.out _).mono ?_); rintro e w' ⟨rfl, rfl⟩))
  go_ret
  exact ⟨rfl, Below.refl _ _⟩

set_option maxRecDepth 100000 in
theorem refSqrt_zero (f : Nat) (mode : Int) (hf : f < 18446744073709551616) (nf : nanB f = false) (zf : zeroB f = true) (w : World) :
    Calls Tryz.prog 18 #[.int .u64 (f : Int), .int .i64 mode] w fun x w' => x = .returned (.int .u64 ((f : Nat) : Int)) ∧ Ext w w' := by
  have NF := Lib.hid (refNan_any f hf false (nf))
  have ZF := Lib.hid (refZero_any f hf true ((kind_zero f).trans zf))
  clear nf zf hf
  go_enter Tryz.func18, Tryz.ntmps18
  go_wp2_with (first | (go_at_call 56; (with_reducible refine (NF.out _).mono ?_); rintro e w' ⟨rfl, rfl⟩) | (go_at_call 58; (with_reducible refine (ZF.out _).mono ?_); rintro e w' ⟨rfl, rfl⟩))
  go_ret
  exact ⟨rfl, Below.refl _ _⟩

set_option maxRecDepth 100000 in
theorem refSqrt_inf (f : Nat) (mode : Int) (hf : f < 18446744073709551616) (nf : nanB f = false) (zf : zeroB f = false) (h : f = 9218868437227405312) (w : World) :
    Calls Tryz.prog 18 #[.int .u64 (f : Int), .int .i64 mode] w fun x w' => x = .returned (.int .u64 ((f : Nat) : Int)) ∧ Ext w w' := by
  have NF := Lib.hid (refNan_any f hf false (nf))
  have ZF := Lib.hid (refZero_any f hf false ((kind_zero f).trans zf))
  have hi : ((f : Int) == 9218868437227405312) = true := by rw [h]; rfl
  clear nf zf hf h
  go_enter Tryz.func18, Tryz.ntmps18
  go_wp2_with (first | (go_at_call 56; (with_reducible refine (NF.out _).mono ?_); rintro e w' ⟨rfl, rfl⟩) | (go_at_call 58; (with_reducible refine (ZF.out _).mono ?_); rintro e w' ⟨rfl, rfl⟩))
  go_ret
  exact ⟨rfl, Below.refl _ _⟩

set_option maxRecDepth 100000 in
theorem refSqrt_neg (f : Nat) (mode : Int) (hf : f < 18446744073709551616) (nf : nanB f = false) (zf : zeroB f = false) (h : f ≠ 9218868437227405312) (hg : fneg f = true) (w : World) :
    Calls Tryz.prog 18 #[.int .u64 (f : Int), .int .i64 mode] w fun x w' => x = .returned (.int .u64 ((9221120237041090560 : Nat) : Int)) ∧ Ext w w' := by
  have NF := Lib.hid (refNan_any f hf false (nf))
  have ZF := Lib.hid (refZero_any f hf false ((kind_zero f).trans zf))
  have MA := Lib.hid (refMinus_any f hf _ hg)
  have hi : ((f : Int) == 9218868437227405312) = false := by rw [beq_eq_false_iff_ne]; omega
  clear nf zf hf h hg
  go_enter Tryz.func18, Tryz.ntmps18
  go_wp2_with (first | (go_at_call 56; (with_reducible refine (NF.out _).mono ?_); rintro e w' ⟨rfl, rfl⟩) | (go_at_call 58; (with_reducible refine (ZF.out _).mono ?_); rintro e w' ⟨rfl, rfl⟩) | (go_at_call 66; (with_reducible refine (MA.out _).mono ?_); rintro e w' ⟨rfl, rfl⟩))
  go_ret
  exact ⟨rfl, Below.refl _ _⟩

set_option maxRecDepth 100000 in
set_option maxHeartbeats 2000000 in
theorem refSqrt_fin (f : Nat) (mode : Int) (hf : f < 18446744073709551616) (nf : nanB f = false) (zf : zeroB f = false) (h : f ≠ 9218868437227405312) (hg : fneg f = false) (w : World) (hT : Table w) :
    Calls Tryz.prog 18 #[.int .u64 (f : Int), .int .i64 mode] w fun x w' => x = .returned (.int .u64 ((rootV (fdy f) mode : Nat) : Int)) ∧ Ext w w' := by
  have NF := Lib.hid (refNan_any f hf false (nf))
  have ZF := Lib.hid (refZero_any f hf false ((kind_zero f).trans zf))
  have MA := Lib.hid (refMinus_any f hf _ hg)
  have hi : ((f : Int) == 9218868437227405312) = false := by rw [beq_eq_false_iff_ne]; omega
  have OA := Lib.hid (fun W (hE : Ext w W) => refOf_any f hf W (hT.below hE))
  have HTT := Lib.hid (fun W (hE : Ext w W) => hT.below hE)
  clear nf zf h hg hf hT
  generalize fdy f = d at *
  go_enter Tryz.func18, Tryz.ntmps18
  go_wp2_with (first | (go_at_call 56; (with_reducible refine (NF.out _).mono ?_); rintro e w' ⟨rfl, rfl⟩) | (go_at_call 58; (with_reducible refine (ZF.out _).mono ?_); rintro e w' ⟨rfl, rfl⟩) | (go_at_call 66; (with_reducible refine (MA.out _).mono ?_); rintro e w' ⟨rfl, rfl⟩))
  refine (OA.out _ (Below.refl _ _)).mono ?_
  rintro e w1 ⟨v, rfl, hv, hw1⟩
  go_wp2_with fail
  refine (refRootF_any _ _ mode w1 hv.dl (HTT.out _ hw1)).mono ?_
  rintro e w2 ⟨rfl, hw2⟩
  have H2 := Lib.hid (Ext.trans hw1 hw2)
  clear hv hw1 hw2
  go_wp2
  go_ret
  exact ⟨rfl, H2.out⟩

theorem refFSqrt_any (f : Nat) (mode : Int) (hf : f < 18446744073709551616) (w : World) (hT : Table w) :
    Calls Tryz.prog 18 #[.int .u64 (f : Int), .int .i64 mode] w fun x w' => x = .returned (.int .u64 ((fsqrtF f mode : Nat) : Int)) ∧ Ext w w' := by
  unfold fsqrtF
  cases hz : zeroB f with
  | true => simp only [Bool.true_or, if_true]; exact refSqrt_zero f mode hf (zero_not hz).1 hz w
  | false =>
    by_cases h : f = 9218868437227405312
    · rw [decide_eq_true h]; simp only [Bool.or_true, if_true]; exact refSqrt_inf f mode hf (by rw [h]; decide) hz h w
    · rw [decide_eq_false h]
      cases hn : nanB f with
      | true => simp only [Bool.or_false, Bool.true_or, if_true, Bool.false_eq_true, if_false]; exact refSqrt_nan f mode hf hn w
      | false =>
        cases hg : fneg f with
        | true => simp only [Bool.or_false, Bool.or_true, if_true, Bool.false_eq_true, if_false]; exact refSqrt_neg f mode hf hn hz h hg w
        | false => simp only [Bool.or_false, Bool.false_eq_true, if_false]; exact refSqrt_fin f mode hf hn hz h hg w hT
end Go.Proofs.YtolghagbpnjpgaaGreatDoor

namespace Go.Proofs.YtolghagbpnjpgaaGreatDoor
open Go Go.RowKit

set_option maxRecDepth 100000 in
theorem refNegF_any (f : Nat) (hf : f < 18446744073709551616) (w : World) :
    Calls Tryz.prog 64 #[.int .u64 (f : Int)] w fun e w' => e = .returned (.int .u64 ((fnegF f : Nat) : Int)) ∧ w = w' := by
  have ha := xor_sign hf
  have hcall := fun b hb => refNan_any f hf b hb
  unfold fnegF
  generalize sgz (!fneg f) + fmag f = v at *
  cases hn : nanB f
  all_goals
    have HN := Lib.hid (hcall _ hn)
    clear hn hcall hf
    go_enter Tryz.func64, Tryz.ntmps64
    go_wp2_with (first | (go_at_call 56; (with_reducible refine (HN.out _).mono ?_); rintro e w' ⟨rfl, rfl⟩))
    go_ret
    exact ⟨rfl, rfl⟩

end Go.Proofs.YtolghagbpnjpgaaGreatDoor

namespace Go.Proofs.YtolghagbpnjpgaaGreatDoor
open Go.RowKit

set_option maxRecDepth 100000 in
theorem xsub_at {aI bI : Int} (a b : Nat) (mode : Int) (ha : a < 18446744073709551616) (hb : b < 18446744073709551616) (hA : (a : Int) = aI) (hB : (b : Int) = bI) (R : Nat) (hR : faddF a (fnegF b) mode = R) (w : World) : Calls Tryz.prog 9 #[.int .u64 aI, .int .u64 bI, .int .i64 mode] w fun e w' => e = .returned (.int .u64 (R : Int)) ∧ Ext w w' := by
  rw [← hA, ← hB, ← hR]
  have CN := Lib.hid (fun w => negF_any b hb w)
  have CA := Lib.hid (fun w => fadd_any a (fnegF b) mode ha fnegF_lt w)
  clear ha hb hR hA hB
  generalize faddF a (fnegF b) mode = S at *
  generalize fnegF b = n at *
  go_enter Tryz.func9, Tryz.ntmps9
  go_wp2_with fail
  refine (CN.out _).mono ?_
  rintro e w1 ⟨rfl, rfl⟩
  go_wp2_with fail
  refine (CA.out _).mono ?_
  rintro e w2 ⟨rfl, hE⟩
  go_wp2
  go_ret
  exact ⟨rfl, hE⟩
set_option maxRecDepth 100000 in
theorem rsub_at {aI bI : Int} (a b : Nat) (mode : Int) (ha : a < 18446744073709551616) (hb : b < 18446744073709551616) (hA : (a : Int) = aI) (hB : (b : Int) = bI) (R : Nat) (hR : faddF a (fnegF b) mode = R) (w : World) (hT : Table w) : Calls Tryz.prog 10 #[.int .u64 aI, .int .u64 bI, .int .i64 mode] w fun e w' => e = .returned (.int .u64 (R : Int)) ∧ Ext w w' := by
  rw [← hA, ← hB, ← hR]
  have CN := Lib.hid (fun w => refNegF_any b hb w)
  have CA := Lib.hid (refFAdd_any a (fnegF b) mode ha fnegF_lt w hT)
  clear ha hb hR hA hB hT
  generalize faddF a (fnegF b) mode = S at *
  generalize fnegF b = n at *
  go_enter Tryz.func10, Tryz.ntmps10
  go_wp2_with fail
  refine (CN.out _).mono ?_
  rintro e w1 ⟨rfl, rfl⟩
  go_wp2_with fail
  refine CA.out.mono ?_
  rintro e w2 ⟨rfl, hE⟩
  go_wp2
  go_ret
  exact ⟨rfl, hE⟩
theorem xadd_at {aI bI : Int} (a b : Nat) (mode : Int) (ha : a < 18446744073709551616) (hb : b < 18446744073709551616) (hA : (a : Int) = aI) (hB : (b : Int) = bI) (R : Nat) (hR : faddF a b mode = R) (w : World) :
    Calls Tryz.prog 7 #[.int .u64 aI, .int .u64 bI, .int .i64 mode] w fun r w' => r = .returned (.int .u64 (R : Int)) ∧ Ext w w' := by
  rw [← hA, ← hB, ← hR]; exact fadd_any a b mode ha hb w
theorem xmul_at {aI bI : Int} (a b : Nat) (mode : Int) (ha : a < 18446744073709551616) (hb : b < 18446744073709551616) (hA : (a : Int) = aI) (hB : (b : Int) = bI) (R : Nat) (hR : fmulF a b mode = R) (w : World) :
    Calls Tryz.prog 11 #[.int .u64 aI, .int .u64 bI, .int .i64 mode] w fun r w' => r = .returned (.int .u64 (R : Int)) ∧ Ext w w' := by
  rw [← hA, ← hB, ← hR]; exact fmul_any a b mode ha hb w
theorem xdiv_at {aI bI : Int} (a b : Nat) (mode : Int) (ha : a < 18446744073709551616) (hb : b < 18446744073709551616) (hA : (a : Int) = aI) (hB : (b : Int) = bI) (R : Nat) (hR : fdivF a b mode = R) (w : World) :
    Calls Tryz.prog 13 #[.int .u64 aI, .int .u64 bI, .int .i64 mode] w fun r w' => r = .returned (.int .u64 (R : Int)) ∧ Ext w w' := by
  rw [← hA, ← hB, ← hR]; exact fdiv_any a b mode ha hb w
theorem xfma_at {aI bI cI : Int} (a b c : Nat) (mode : Int) (ha : a < 18446744073709551616) (hb : b < 18446744073709551616) (hc : c < 18446744073709551616) (hA : (a : Int) = aI) (hB : (b : Int) = bI) (hC : (c : Int) = cI) (R : Nat) (hR : fmaF a b c mode = R) (w : World) :
    Calls Tryz.prog 15 #[.int .u64 aI, .int .u64 bI, .int .u64 cI, .int .i64 mode] w fun r w' => r = .returned (.int .u64 (R : Int)) ∧ Ext w w' := by
  rw [← hA, ← hB, ← hC, ← hR]; exact ffma_any a b c mode ha hb hc w
theorem xsqrt_at {aI : Int} (a : Nat) (mode : Int) (ha : a < 18446744073709551616) (hA : (a : Int) = aI) (R : Nat) (hR : fsqrtF a mode = R) (w : World) :
    Calls Tryz.prog 17 #[.int .u64 aI, .int .i64 mode] w fun r w' => r = .returned (.int .u64 (R : Int)) ∧ Ext w w' := by
  rw [← hA, ← hR]; exact fsqrt_any a mode ha w
theorem radd_at {aI bI : Int} (a b : Nat) (mode : Int) (ha : a < 18446744073709551616) (hb : b < 18446744073709551616) (hA : (a : Int) = aI) (hB : (b : Int) = bI) (R : Nat) (hR : faddF a b mode = R) (w : World) (hT : Table w) :
    Calls Tryz.prog 8 #[.int .u64 aI, .int .u64 bI, .int .i64 mode] w fun r w' => r = .returned (.int .u64 (R : Int)) ∧ Ext w w' := by
  rw [← hA, ← hB, ← hR]; exact refFAdd_any a b mode ha hb w hT
theorem rmul_at {aI bI : Int} (a b : Nat) (mode : Int) (ha : a < 18446744073709551616) (hb : b < 18446744073709551616) (hA : (a : Int) = aI) (hB : (b : Int) = bI) (R : Nat) (hR : fmulF a b mode = R) (w : World) (hT : Table w) :
    Calls Tryz.prog 12 #[.int .u64 aI, .int .u64 bI, .int .i64 mode] w fun r w' => r = .returned (.int .u64 (R : Int)) ∧ Ext w w' := by
  rw [← hA, ← hB, ← hR]; exact refFMul_any a b mode ha hb w hT
theorem rdiv_at {aI bI : Int} (a b : Nat) (mode : Int) (ha : a < 18446744073709551616) (hb : b < 18446744073709551616) (hA : (a : Int) = aI) (hB : (b : Int) = bI) (R : Nat) (hR : fdivF a b mode = R) (w : World) (hT : Table w) :
    Calls Tryz.prog 14 #[.int .u64 aI, .int .u64 bI, .int .i64 mode] w fun r w' => r = .returned (.int .u64 (R : Int)) ∧ Ext w w' := by
  rw [← hA, ← hB, ← hR]; exact refFDiv_any a b mode ha hb w hT
theorem rfma_at {aI bI cI : Int} (a b c : Nat) (mode : Int) (ha : a < 18446744073709551616) (hb : b < 18446744073709551616) (hc : c < 18446744073709551616) (hA : (a : Int) = aI) (hB : (b : Int) = bI) (hC : (c : Int) = cI) (R : Nat) (hR : fmaF a b c mode = R) (w : World) (hT : Table w) :
    Calls Tryz.prog 16 #[.int .u64 aI, .int .u64 bI, .int .u64 cI, .int .i64 mode] w fun r w' => r = .returned (.int .u64 (R : Int)) ∧ Ext w w' := by
  rw [← hA, ← hB, ← hC, ← hR]; exact refFFma_any a b c mode ha hb hc w hT
theorem rsqrt_at {aI : Int} (a : Nat) (mode : Int) (ha : a < 18446744073709551616) (hA : (a : Int) = aI) (R : Nat) (hR : fsqrtF a mode = R) (w : World) (hT : Table w) :
    Calls Tryz.prog 18 #[.int .u64 aI, .int .i64 mode] w fun r w' => r = .returned (.int .u64 (R : Int)) ∧ Ext w w' := by
  rw [← hA, ← hR]; exact refFSqrt_any a mode ha w hT

set_option maxRecDepth 100000 in
set_option maxHeartbeats 4000000 in
theorem fexactL_any (a b c : Nat) (mode : Int) (ha : a < 18446744073709551616) (hb : b < 18446744073709551616) (hc : c < 18446744073709551616) (w : World) (hT : Table w) :
    Calls Tryz.prog 3 #[.int .u64 (a : Int), .int .u64 (b : Int), .int .u64 (c : Int), .int .i64 mode] w fun e w' => e = .returned (.bool true) ∧ Ext w w' := by
  have HT := Lib.hid hT
  have EX := Lib.hid (Ext.refl w)
  clear hT
  obtain ⟨R1, r1⟩ : ∃ R, faddF a b mode = R := ⟨_, rfl⟩
  obtain ⟨R2, r2⟩ : ∃ R, faddF a (fnegF b) mode = R := ⟨_, rfl⟩
  obtain ⟨R3, r3⟩ : ∃ R, fmulF a b mode = R := ⟨_, rfl⟩
  obtain ⟨R4, r4⟩ : ∃ R, fdivF a b mode = R := ⟨_, rfl⟩
  obtain ⟨R5, r5⟩ : ∃ R, fmaF a b c mode = R := ⟨_, rfl⟩
  obtain ⟨R6, r6⟩ : ∃ R, fsqrtF a mode = R := ⟨_, rfl⟩
  have C1 := Lib.hid (xadd_at a b mode ha hb rfl rfl R1 r1)
  have D1 := Lib.hid (radd_at a b mode ha hb rfl rfl R1 r1)
  have C2 := Lib.hid (xsub_at a b mode ha hb rfl rfl R2 r2)
  have D2 := Lib.hid (rsub_at a b mode ha hb rfl rfl R2 r2)
  have C3 := Lib.hid (xmul_at a b mode ha hb rfl rfl R3 r3)
  have D3 := Lib.hid (rmul_at a b mode ha hb rfl rfl R3 r3)
  have C4 := Lib.hid (xdiv_at a b mode ha hb rfl rfl R4 r4)
  have D4 := Lib.hid (rdiv_at a b mode ha hb rfl rfl R4 r4)
  have C5 := Lib.hid (xfma_at a b c mode ha hb hc rfl rfl rfl R5 r5)
  have D5 := Lib.hid (rfma_at a b c mode ha hb hc rfl rfl rfl R5 r5)
  have C6 := Lib.hid (xsqrt_at a mode ha rfl R6 r6)
  have D6 := Lib.hid (rsqrt_at a mode ha rfl R6 r6)
  have e1 : ((R1 : Int) != R1) = false := by simp
  have e2 : ((R2 : Int) != R2) = false := by simp
  have e3 : ((R3 : Int) != R3) = false := by simp
  have e4 : ((R4 : Int) == R4) = true := by simp
  have e5 : ((R5 : Int) == R5) = true := by simp
  have e6 : ((R6 : Int) == R6) = true := by simp
  clear r1 r2 r3 r4 r5 r6 ha hb hc
  go_enter Tryz.func3, Tryz.ntmps3
  go_wp2_with fail
  refine (C1.out _).mono ?_
  rintro r wa1 ⟨rfl, hE⟩
  have EX := Lib.hid (Ext.trans EX.out hE)
  clear hE
  go_wp2_with fail
  refine (D1.out _ (HT.out.below EX.out)).mono ?_
  rintro r wb1 ⟨rfl, hE⟩
  have EX := Lib.hid (Ext.trans EX.out hE)
  clear hE
  go_wp2_with fail
  refine (C2.out _).mono ?_
  rintro r wa2 ⟨rfl, hE⟩
  have EX := Lib.hid (Ext.trans EX.out hE)
  clear hE
  go_wp2_with fail
  refine (D2.out _ (HT.out.below EX.out)).mono ?_
  rintro r wb2 ⟨rfl, hE⟩
  have EX := Lib.hid (Ext.trans EX.out hE)
  clear hE
  go_wp2_with fail
  refine (C3.out _).mono ?_
  rintro r wa3 ⟨rfl, hE⟩
  have EX := Lib.hid (Ext.trans EX.out hE)
  clear hE
  go_wp2_with fail
  refine (D3.out _ (HT.out.below EX.out)).mono ?_
  rintro r wb3 ⟨rfl, hE⟩
  have EX := Lib.hid (Ext.trans EX.out hE)
  clear hE
  go_wp2_with fail
  refine (C4.out _).mono ?_
  rintro r wa4 ⟨rfl, hE⟩
  have EX := Lib.hid (Ext.trans EX.out hE)
  clear hE
  go_wp2_with fail
  refine (D4.out _ (HT.out.below EX.out)).mono ?_
  rintro r wb4 ⟨rfl, hE⟩
  have EX := Lib.hid (Ext.trans EX.out hE)
  clear hE
  go_wp2_with fail
  refine (C5.out _).mono ?_
  rintro r wa5 ⟨rfl, hE⟩
  have EX := Lib.hid (Ext.trans EX.out hE)
  clear hE
  go_wp2_with fail
  refine (D5.out _ (HT.out.below EX.out)).mono ?_
  rintro r wb5 ⟨rfl, hE⟩
  have EX := Lib.hid (Ext.trans EX.out hE)
  clear hE
  go_wp2_with fail
  refine (C6.out _).mono ?_
  rintro r wa6 ⟨rfl, hE⟩
  have EX := Lib.hid (Ext.trans EX.out hE)
  clear hE
  go_wp2_with fail
  refine (D6.out _ (HT.out.below EX.out)).mono ?_
  rintro r wb6 ⟨rfl, hE⟩
  have EX := Lib.hid (Ext.trans EX.out hE)
  clear hE
  go_wp2_with fail
  refine (fawake_any _ (HT.out.below EX.out)).mono ?_
  rintro r wz ⟨rfl, hE⟩
  go_wp2
  go_ret
  exact ⟨rfl, Ext.trans EX.out hE⟩

theorem fexactL_int (i j l : Int) (mode : Int) (w : World) (hi0 : 0 ≤ i) (hi1 : i ≤ 18446744073709551615) (hj0 : 0 ≤ j) (hj1 : j ≤ 18446744073709551615) (hl0 : 0 ≤ l) (hl1 : l ≤ 18446744073709551615) (hT : Table w) :
    Calls Tryz.prog 3 #[.int .u64 i, .int .u64 j, .int .u64 l, .int .i64 mode] w fun e w' => e = .returned (.bool true) ∧ Ext w w' := by
  have h := fexactL_any i.toNat j.toNat l.toNat mode (by omega) (by omega) (by omega) w hT
  rw [Int.toNat_of_nonneg hi0, Int.toNat_of_nonneg hj0, Int.toNat_of_nonneg hl0] at h
  exact h
end Go.Proofs.YtolghagbpnjpgaaGreatDoor
