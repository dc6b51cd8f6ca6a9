import Derived.Test.YtapcecjbmcoliaaGreatDoorACauU15
namespace Go.Proofs.YtapcecjbmcoliaaGreatDoor
open Go.RowKit

/-- the least exponent -/
def low74 : Nat := 1074
/-- the fused product, rounded once -/
def fmaF (a b c : Nat) (mode : Int) : Nat :=
  if nanB a || nanB b || nanB c || (infB a || infB b) && (zeroB a || zeroB b) then 9221120237041090560
  else if (infB a || infB b) && infB c && decide (c ≠ 9218868437227405312 + sgz (fneg a != fneg b)) then 9221120237041090560
  else if infB a || infB b then 9218868437227405312 + sgz (fneg a != fneg b)
  else if (zeroB a || zeroB b) && zeroB c && decide (c ≠ sgz (fneg a != fneg b)) then cancel mode
  else if infB c || (zeroB a || zeroB b) then c
  else rsum (sgi (fneg a != fneg b) (fz a * fz b) + sgi (fneg c) (fz c * 2 ^ low74)) (-2148) mode

theorem fz_mul (a b : Nat) : fz a * fz b = sig a * sig b * 2 ^ (fsh a + fsh b) := by
  unfold fz
  rw [Nat.pow_add, Nat.mul_mul_mul_comm]
theorem fz_up (c k : Nat) : fz c * 2 ^ k = sig c * 2 ^ (fsh c + k) := by unfold fz; rw [Nat.pow_add, Nat.mul_assoc]
theorem sgi_zero (s : Bool) : sgi s 0 = 0 := by unfold sgi; split <;> rfl

theorem fma_product {a b c H L : Nat} {mode : Int} (s : Bool) (hv : H * 18446744073709551616 + L = sig a * sig b) (h0 : H * 18446744073709551616 + L ≠ 0) (hc : fz c = 0) :
    sgz s + fla s (H * 18446744073709551616 + L) (-1074 + (fsh a : Int) + (-1074 + (fsh b : Int))) false mode = rsum (sgi s (fz a * fz b) + sgi (fneg c) (fz c * 2 ^ low74)) (-2148) mode := by
  have hn := Num.unit (H * 18446744073709551616 + L) (fsh a + fsh b) (e := -1074 + (fsh a : Int) + (-1074 + (fsh b : Int))) (m := -2148) (by push_cast; omega)
  rw [hn.fla h0, hc, Nat.zero_mul, sgi_zero, Int.add_zero, fz_mul, ← hv]
  unfold rsum
  have h1 : (H * 18446744073709551616 + L) * 2 ^ (fsh a + fsh b) ≠ 0 := Nat.mul_ne_zero h0 (Nat.pos_iff_ne_zero.1 (Nat.pow_pos (by omega)))
  generalize (H * 18446744073709551616 + L) * 2 ^ (fsh a + fsh b) = A at *
  rw [if_neg (by unfold sgi; split <;> omega), rnd_sgi s h1]

set_option maxRecDepth 100000 in
set_option maxHeartbeats 8000000 in
theorem ffma_any (a b c : Nat) (mode : Int) (ha : a < 18446744073709551616) (hb : b < 18446744073709551616) (hc : c < 18446744073709551616) (w : World) :
    Calls Tryz.prog 66 #[.int .u64 (a : Int), .int .u64 (b : Int), .int .u64 (c : Int), .int .i64 mode] w fun r w' => r = .returned (.int .u64 ((fmaF a b c mode : Nat) : Int)) ∧ Ext w w' := by
  have hx : a ^^^ b < 18446744073709551616 := Nat.xor_lt_two_pow (n := 64) (by omega) (by omega)
  have h1 := bits_xor_u64_nat a b ha hb
  have CS := signOf_any (a ^^^ b) hx
  have CC := Lib.hid (signOf_any c hc)
  rw [fneg_xor ha hb] at CS
  generalize a ^^^ b = x at *
  obtain ⟨R, hR⟩ : ∃ R, fmaF a b c mode = R := ⟨_, rfl⟩
  rw [hR]
  unfold fmaF at hR
  obtain ⟨s, hs⟩ : ∃ s, (fneg a != fneg b) = s := ⟨_, rfl⟩
  rw [hs] at hR CS
  obtain ⟨z, hz⟩ : ∃ z, sgz s = z := ⟨_, rfl⟩
  have hz1 := sgz_le s
  rw [hz] at hR CS hz1
  have h2 : bits BinOp.or IntKind.u64 9218868437227405312 (z : Int) = ((9218868437227405312 + z : Nat) : Int) := by
    have := or_sign' (s := s) (a := 9218868437227405312) (by omega)
    rw [hz, Nat.add_comm] at this
    exact this
  obtain ⟨I, hI⟩ : ∃ I, 9218868437227405312 + z = I := ⟨_, rfl⟩
  rw [hI] at hR h2
  have CI := Lib.hid (fun f h w => isInf_any f h w)
  have NA := isNaN_any a ha
  have NB := isNaN_any b hb
  have NC := isNaN_any c hc
  have IA := isInf_any a ha
  have IB := isInf_any b hb
  have IC := isInf_any c hc
  have ZA := isZero_any a ha
  have ZB := isZero_any b hb
  have ZC := isZero_any c hc
  have za0 : zeroB a = false → sig a ≠ 0 := fun h h3 => (of_decide_eq_false h) ((sig_zero a).1 h3)
  have zb0 : zeroB b = false → sig b ≠ 0 := fun h h3 => (of_decide_eq_false h) ((sig_zero b).1 h3)
  have zc0 : zeroB c = false → sig c ≠ 0 := fun h h3 => (of_decide_eq_false h) ((sig_zero c).1 h3)
  have zc1 : zeroB c = true → fz c = 0 := fun h => (fz_zero c).2 (of_decide_eq_true h)
  obtain ⟨na, hna⟩ : ∃ q, nanB a = q := ⟨_, rfl⟩
  obtain ⟨nb, hnb⟩ : ∃ q, nanB b = q := ⟨_, rfl⟩
  obtain ⟨nc, hnc⟩ : ∃ q, nanB c = q := ⟨_, rfl⟩
  obtain ⟨ia, hia⟩ : ∃ q, infB a = q := ⟨_, rfl⟩
  obtain ⟨ib, hib⟩ : ∃ q, infB b = q := ⟨_, rfl⟩
  obtain ⟨ic, hic⟩ : ∃ q, infB c = q := ⟨_, rfl⟩
  obtain ⟨za, hza⟩ : ∃ q, zeroB a = q := ⟨_, rfl⟩
  obtain ⟨zb, hzb⟩ : ∃ q, zeroB b = q := ⟨_, rfl⟩
  obtain ⟨zc, hzc⟩ : ∃ q, zeroB c = q := ⟨_, rfl⟩
  rw [hna, hnb, hnc, hia, hib, hic, hza, hzb, hzc] at hR
  rw [hna] at NA
  rw [hnb] at NB
  rw [hnc] at NC
  rw [hia] at IA
  rw [hib] at IB
  rw [hic] at IC
  rw [hza] at ZA za0
  rw [hzb] at ZB zb0
  rw [hzc] at ZC zc0 zc1
  clear hna hnb hnc hia hib hic hza hzb hzc hs
  have NA := Lib.hid NA; have NB := Lib.hid NB; have NC := Lib.hid NC
  have IA := Lib.hid IA; have IB := Lib.hid IB; have IC := Lib.hid IC
  have ZA := Lib.hid ZA; have ZB := Lib.hid ZB; have ZC := Lib.hid ZC
  have CS := Lib.hid CS
  have ZS := Lib.hid hz
  have HR := Lib.hid hR
  have Z0 := Lib.hid (And.intro za0 (And.intro zb0 (And.intro zc0 zc1)))
  have HA := Lib.hid ha; have HB := Lib.hid hb; have HC := Lib.hid hc
  have CM := Lib.hid (fun w => cancelled_any mode w)
  clear hz hR za0 zb0 zc0 zc1 ha hb hc hx hz1 hI CI
  go_enter Tryz.func66, Tryz.ntmps66
  go_wp2_with fail
  refine (CS.out _).mono ?_
  rintro r w1 ⟨rfl, rfl⟩
  go_upto_region 2 with fail
  go_cut [10, 11] from 12 (fun p q wx => p = .bool (ia || ib) ∧ q = .bool (za || zb) ∧ wx = w)
  case first =>
    cases ia <;> cases za
    all_goals
      go_wp2_with (first | ((with_reducible refine (IA.out _).mono ?_); rintro r w1 ⟨rfl, rfl⟩) | ((with_reducible refine (IB.out _).mono ?_); rintro r w1 ⟨rfl, rfl⟩) | ((with_reducible refine (ZA.out _).mono ?_); rintro r w1 ⟨rfl, rfl⟩) | ((with_reducible refine (ZB.out _).mono ?_); rintro r w1 ⟨rfl, rfl⟩))
      go_meet
      exact ⟨by first | rfl | simp, by first | rfl | simp, rfl⟩
  case rest =>
    obtain ⟨rfl, rfl, rfl⟩ := hcut
    obtain ⟨hi, hhi⟩ : ∃ q, (ia || ib) = q := ⟨_, rfl⟩
    obtain ⟨hz, hhz⟩ : ∃ q, (za || zb) = q := ⟨_, rfl⟩
    have HZ0 := Lib.hid (show hz = false → za = false ∧ zb = false by rw [← hhz]; cases za <;> cases zb <;> simp)
    have hR := HR.out
    rw [hhi, hhz] at hR
    rw [hhi, hhz]
    have HR := Lib.hid hR
    clear hR hhi hhz
    cases na with
    | true =>
      go_wp2_with (first | ((with_reducible refine (NA.out _).mono ?_); rintro r w1 ⟨rfl, rfl⟩) | ((with_reducible refine (NB.out _).mono ?_); rintro r w1 ⟨rfl, rfl⟩) | ((with_reducible refine (NC.out _).mono ?_); rintro r w1 ⟨rfl, rfl⟩) | ((with_reducible refine (IC.out _).mono ?_); rintro r w1 ⟨rfl, rfl⟩) | ((with_reducible refine (ZC.out _).mono ?_); rintro r w1 ⟨rfl, rfl⟩) | ((with_reducible refine (CM.out _).mono ?_); rintro r w1 ⟨rfl, rfl⟩))
      go_ret
      refine ⟨ret_int ?_, Below.refl _ _⟩
      rw [← HR.out]
      simp
    | false =>
      cases nb with
      | true =>
        go_wp2_with (first | ((with_reducible refine (NA.out _).mono ?_); rintro r w1 ⟨rfl, rfl⟩) | ((with_reducible refine (NB.out _).mono ?_); rintro r w1 ⟨rfl, rfl⟩) | ((with_reducible refine (NC.out _).mono ?_); rintro r w1 ⟨rfl, rfl⟩) | ((with_reducible refine (IC.out _).mono ?_); rintro r w1 ⟨rfl, rfl⟩) | ((with_reducible refine (ZC.out _).mono ?_); rintro r w1 ⟨rfl, rfl⟩) | ((with_reducible refine (CM.out _).mono ?_); rintro r w1 ⟨rfl, rfl⟩))
        go_ret
        refine ⟨ret_int ?_, Below.refl _ _⟩
        rw [← HR.out]
        simp
      | false =>
        cases nc with
        | true =>
          go_wp2_with (first | ((with_reducible refine (NA.out _).mono ?_); rintro r w1 ⟨rfl, rfl⟩) | ((with_reducible refine (NB.out _).mono ?_); rintro r w1 ⟨rfl, rfl⟩) | ((with_reducible refine (NC.out _).mono ?_); rintro r w1 ⟨rfl, rfl⟩) | ((with_reducible refine (IC.out _).mono ?_); rintro r w1 ⟨rfl, rfl⟩) | ((with_reducible refine (ZC.out _).mono ?_); rintro r w1 ⟨rfl, rfl⟩) | ((with_reducible refine (CM.out _).mono ?_); rintro r w1 ⟨rfl, rfl⟩))
          go_ret
          refine ⟨ret_int ?_, Below.refl _ _⟩
          rw [← HR.out]
          simp
        | false =>
          cases hi with
          | true =>
            cases hz with
            | true =>
              go_wp2_with (first | ((with_reducible refine (NA.out _).mono ?_); rintro r w1 ⟨rfl, rfl⟩) | ((with_reducible refine (NB.out _).mono ?_); rintro r w1 ⟨rfl, rfl⟩) | ((with_reducible refine (NC.out _).mono ?_); rintro r w1 ⟨rfl, rfl⟩) | ((with_reducible refine (IC.out _).mono ?_); rintro r w1 ⟨rfl, rfl⟩) | ((with_reducible refine (ZC.out _).mono ?_); rintro r w1 ⟨rfl, rfl⟩) | ((with_reducible refine (CM.out _).mono ?_); rintro r w1 ⟨rfl, rfl⟩))
              go_ret
              refine ⟨ret_int ?_, Below.refl _ _⟩
              rw [← HR.out]
              simp
            | false =>
              cases ic with
              | true =>
                by_cases he : c = I
                · have h5 : ((c : Int) != (I : Int)) = false := by rw [bne_eq_false_iff_eq]; omega
                  have HE := Lib.hid he
                  clear he
                  go_wp2_with (first | ((with_reducible refine (NA.out _).mono ?_); rintro r w1 ⟨rfl, rfl⟩) | ((with_reducible refine (NB.out _).mono ?_); rintro r w1 ⟨rfl, rfl⟩) | ((with_reducible refine (NC.out _).mono ?_); rintro r w1 ⟨rfl, rfl⟩) | ((with_reducible refine (IC.out _).mono ?_); rintro r w1 ⟨rfl, rfl⟩) | ((with_reducible refine (ZC.out _).mono ?_); rintro r w1 ⟨rfl, rfl⟩) | ((with_reducible refine (CM.out _).mono ?_); rintro r w1 ⟨rfl, rfl⟩))
                  go_ret
                  refine ⟨ret_int ?_, Below.refl _ _⟩
                  rw [← HR.out]
                  simp [HE.out]
                · have h5 : ((c : Int) != (I : Int)) = true := by rw [bne_iff_ne]; omega
                  have HE := Lib.hid he
                  clear he
                  go_wp2_with (first | ((with_reducible refine (NA.out _).mono ?_); rintro r w1 ⟨rfl, rfl⟩) | ((with_reducible refine (NB.out _).mono ?_); rintro r w1 ⟨rfl, rfl⟩) | ((with_reducible refine (NC.out _).mono ?_); rintro r w1 ⟨rfl, rfl⟩) | ((with_reducible refine (IC.out _).mono ?_); rintro r w1 ⟨rfl, rfl⟩) | ((with_reducible refine (ZC.out _).mono ?_); rintro r w1 ⟨rfl, rfl⟩) | ((with_reducible refine (CM.out _).mono ?_); rintro r w1 ⟨rfl, rfl⟩))
                  go_ret
                  refine ⟨ret_int ?_, Below.refl _ _⟩
                  rw [← HR.out]
                  simp [HE.out]
              | false =>
                go_wp2_with (first | ((with_reducible refine (NA.out _).mono ?_); rintro r w1 ⟨rfl, rfl⟩) | ((with_reducible refine (NB.out _).mono ?_); rintro r w1 ⟨rfl, rfl⟩) | ((with_reducible refine (NC.out _).mono ?_); rintro r w1 ⟨rfl, rfl⟩) | ((with_reducible refine (IC.out _).mono ?_); rintro r w1 ⟨rfl, rfl⟩) | ((with_reducible refine (ZC.out _).mono ?_); rintro r w1 ⟨rfl, rfl⟩) | ((with_reducible refine (CM.out _).mono ?_); rintro r w1 ⟨rfl, rfl⟩))
                go_ret
                refine ⟨ret_int ?_, Below.refl _ _⟩
                rw [← HR.out]
                simp
          | false =>
            cases hz with
            | true =>
              cases zc with
              | true =>
                by_cases he : c = z
                · have h5 : ((c : Int) != (z : Int)) = false := by rw [bne_eq_false_iff_eq]; omega
                  have HE := Lib.hid he
                  clear he
                  cases ic
                  all_goals
                    go_wp2_with (first | ((with_reducible refine (NA.out _).mono ?_); rintro r w1 ⟨rfl, rfl⟩) | ((with_reducible refine (NB.out _).mono ?_); rintro r w1 ⟨rfl, rfl⟩) | ((with_reducible refine (NC.out _).mono ?_); rintro r w1 ⟨rfl, rfl⟩) | ((with_reducible refine (IC.out _).mono ?_); rintro r w1 ⟨rfl, rfl⟩) | ((with_reducible refine (ZC.out _).mono ?_); rintro r w1 ⟨rfl, rfl⟩) | ((with_reducible refine (CM.out _).mono ?_); rintro r w1 ⟨rfl, rfl⟩))
                    go_ret
                    refine ⟨ret_int ?_, Below.refl _ _⟩
                    rw [← HR.out]
                    simp [HE.out]
                · have h5 : ((c : Int) != (z : Int)) = true := by rw [bne_iff_ne]; omega
                  have HE := Lib.hid he
                  clear he
                  go_wp2_with (first | ((with_reducible refine (NA.out _).mono ?_); rintro r w1 ⟨rfl, rfl⟩) | ((with_reducible refine (NB.out _).mono ?_); rintro r w1 ⟨rfl, rfl⟩) | ((with_reducible refine (NC.out _).mono ?_); rintro r w1 ⟨rfl, rfl⟩) | ((with_reducible refine (IC.out _).mono ?_); rintro r w1 ⟨rfl, rfl⟩) | ((with_reducible refine (ZC.out _).mono ?_); rintro r w1 ⟨rfl, rfl⟩) | ((with_reducible refine (CM.out _).mono ?_); rintro r w1 ⟨rfl, rfl⟩))
                  go_ret
                  refine ⟨ret_int ?_, Below.refl _ _⟩
                  rw [← HR.out]
                  simp [HE.out]
              | false =>
                cases ic
                all_goals
                  go_wp2_with (first | ((with_reducible refine (NA.out _).mono ?_); rintro r w1 ⟨rfl, rfl⟩) | ((with_reducible refine (NB.out _).mono ?_); rintro r w1 ⟨rfl, rfl⟩) | ((with_reducible refine (NC.out _).mono ?_); rintro r w1 ⟨rfl, rfl⟩) | ((with_reducible refine (IC.out _).mono ?_); rintro r w1 ⟨rfl, rfl⟩) | ((with_reducible refine (ZC.out _).mono ?_); rintro r w1 ⟨rfl, rfl⟩) | ((with_reducible refine (CM.out _).mono ?_); rintro r w1 ⟨rfl, rfl⟩))
                  go_ret
                  refine ⟨ret_int ?_, Below.refl _ _⟩
                  rw [← HR.out]
                  simp
            | false =>
              cases ic with
              | true =>
                go_wp2_with (first | ((with_reducible refine (NA.out _).mono ?_); rintro r w1 ⟨rfl, rfl⟩) | ((with_reducible refine (NB.out _).mono ?_); rintro r w1 ⟨rfl, rfl⟩) | ((with_reducible refine (NC.out _).mono ?_); rintro r w1 ⟨rfl, rfl⟩) | ((with_reducible refine (IC.out _).mono ?_); rintro r w1 ⟨rfl, rfl⟩) | ((with_reducible refine (ZC.out _).mono ?_); rintro r w1 ⟨rfl, rfl⟩) | ((with_reducible refine (CM.out _).mono ?_); rintro r w1 ⟨rfl, rfl⟩))
                go_ret
                refine ⟨ret_int ?_, Below.refl _ _⟩
                rw [← HR.out]
                simp
              | false =>
                have hab : sig a * sig b ≠ 0 := Nat.mul_ne_zero (Z0.out.1 (HZ0.out rfl).1) (Z0.out.2.1 (HZ0.out rfl).2)
                have CP := Lib.hid (fproduct_any a b HA.out HB.out)
                have hsa := sig_lt a
                have hsb := sig_lt b
                have hp : sig a * sig b < 2 ^ 106 := by
                  have := Nat.mul_lt_mul'' hsa hsb
                  exact Nat.lt_of_lt_of_le this (by decide)
                have hfa := fsh_lt a
                have hfb := fsh_lt b
                have hfc := fsh_lt c
                have hsc := sig_lt c
                have HP := Lib.hid (And.intro hab (And.intro hp (And.intro hfa (And.intro hfb (And.intro hfc hsc)))))
                clear hab hp hsa hsb hfa hfb hfc hsc
                cases zc with
                | true =>
                  go_wp2_with (first | ((with_reducible refine (NA.out _).mono ?_); rintro r w1 ⟨rfl, rfl⟩) | ((with_reducible refine (NB.out _).mono ?_); rintro r w1 ⟨rfl, rfl⟩) | ((with_reducible refine (NC.out _).mono ?_); rintro r w1 ⟨rfl, rfl⟩) | ((with_reducible refine (IC.out _).mono ?_); rintro r w1 ⟨rfl, rfl⟩) | ((with_reducible refine (ZC.out _).mono ?_); rintro r w1 ⟨rfl, rfl⟩))
                  refine (CP.out _).mono ?_
                  rintro r w2 ⟨H, L, rfl, hv, hH, hL, hE⟩
                  have hRR : z + fla s (H * 18446744073709551616 + L) (-1074 + (fsh a : Int) + (-1074 + (fsh b : Int))) false mode = R := by
                    rw [← ZS.out, fma_product (c := c) s hv (by rw [hv]; exact HP.out.1) (Z0.out.2.2.2 (by first | rfl | trivial)), ← HR.out]
                    simp
                  have CR := Lib.hid (fround_at H L (-1074 + (fsh a : Int) + (-1074 + (fsh b : Int))) false s mode hH hL (by rw [hv]; exact HP.out.1) (by simp) (by omega) (by have := HP.out.2.2.1; have := HP.out.2.2.2.1; omega) ZS.out R hRR)
                  clear hv hRR hH hL
                  have HE2 := Lib.hid hE
                  clear hE
                  go_wp2_with fail
                  refine (CR.out _).mono ?_
                  rintro r w3 ⟨rfl, hE⟩
                  go_wp2
                  go_ret
                  exact ⟨rfl, Ext.trans HE2.out hE⟩
                | false =>
                  have CSC := Lib.hid (fsplit_any c HC.out)
                  go_wp2_with (first | ((with_reducible refine (NA.out _).mono ?_); rintro r w1 ⟨rfl, rfl⟩) | ((with_reducible refine (NB.out _).mono ?_); rintro r w1 ⟨rfl, rfl⟩) | ((with_reducible refine (NC.out _).mono ?_); rintro r w1 ⟨rfl, rfl⟩) | ((with_reducible refine (IC.out _).mono ?_); rintro r w1 ⟨rfl, rfl⟩) | ((with_reducible refine (ZC.out _).mono ?_); rintro r w1 ⟨rfl, rfl⟩))
                  refine (CP.out _).mono ?_
                  rintro r w2 ⟨H, L, rfl, hv, hH, hL, hE⟩
                  have HE2 := Lib.hid hE
                  have HV := Lib.hid (And.intro hv (And.intro hH hL))
                  clear hE hv hH hL
                  go_wp2_with fail
                  refine (CSC.out _).mono ?_
                  rintro r w3 ⟨rfl, hE⟩
                  have HE3 := Lib.hid (Ext.trans HE2.out hE)
                  clear hE
                  go_wp2_with fail
                  refine (CC.out _).mono ?_
                  rintro r w4 ⟨rfl, rfl⟩
                  have CF := frsum_any H L 0 (sig c) (-1074 + (fsh a : Int) + (-1074 + (fsh b : Int))) (-1074 + (fsh c : Int)) s (fneg c) mode (fsh a + fsh b) (fsh c + low74) (-2148) HV.out.2.1 HV.out.2.2 (by omega) (by have := HP.out.2.2.2.2.2; omega)
                    (by push_cast; omega) (by unfold low74; push_cast; omega) (by omega) (by have := HP.out.2.2.1; have := HP.out.2.2.2.1; omega) (by omega) (by have := HP.out.2.2.2.2.1; omega) (by rw [HV.out.1]; exact HP.out.1) (by rw [Nat.zero_mul, Nat.zero_add]; exact Z0.out.2.2.1 (by first | rfl | trivial)) (by rw [HV.out.1]; exact HP.out.2.1) (by have := HP.out.2.2.2.2.2; omega)
                  rw [HV.out.1, ← fz_mul, Nat.zero_mul, Nat.zero_add, ← fz_up, ZS.out] at CF
                  have hRR : rsum (sgi s (fz a * fz b) + sgi (fneg c) (fz c * 2 ^ low74)) (-2148) mode = R := by rw [← HR.out]; simp
                  rw [hRR] at CF
                  have CF := Lib.hid CF
                  clear hRR
                  go_wp2_with fail
                  refine (CF.out _).mono ?_
                  rintro r w5 ⟨rfl, hE⟩
                  go_wp2
                  go_ret
                  exact ⟨rfl, Ext.trans HE3.out hE⟩
end Go.Proofs.YtapcecjbmcoliaaGreatDoor
