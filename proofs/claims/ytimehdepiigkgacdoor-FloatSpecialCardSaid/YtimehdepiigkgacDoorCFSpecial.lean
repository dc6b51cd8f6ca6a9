/- FloatSpecial returns true, from what its callees do. -/
import Derived.Test.YtimehdepiigkgacDoorCFNeigh
namespace Go.Proofs.YtimehdepiigkgacDoor
open Go.RowKit

/-- quotients that are no numbers, infinities or zeros -/
def fdivS (a b : Nat) : Nat := if nanB a || nanB b || (infB a && infB b) || (zeroB a && zeroB b) then 9221120237041090560 else if infB a || zeroB b then 9218868437227405312 + sgz (fneg a != fneg b) else sgz (fneg a != fneg b)

set_option maxRecDepth 100000 in
set_option maxHeartbeats 8000000 in
theorem fdivS_any (a b : Nat) (mode : Int) (ha : a < 18446744073709551616) (hb : b < 18446744073709551616) (hsp : (nanB a || nanB b || infB a || infB b || zeroB a || zeroB b) = true) (w : World) :
    Calls Tryd.prog 13 #[.int .u64 (a : Int), .int .u64 (b : Int), .int .i64 mode] w fun r w' => r = .returned (.int .u64 ((fdivS a b : Nat) : Int)) ∧ w = w' := by
  have hx : a ^^^ b < 18446744073709551616 := Nat.xor_lt_two_pow (n := 64) (by omega) (by omega)
  have h1 := bits_xor_u64_nat a b ha hb
  have CS := signOf_any (a ^^^ b) hx
  rw [fneg_xor ha hb] at CS
  generalize a ^^^ b = x at *
  obtain ⟨R, hR⟩ : ∃ R, fdivS a b = R := ⟨_, rfl⟩
  rw [hR]
  unfold fdivS at hR
  obtain ⟨s, hs⟩ : ∃ s, (fneg a != fneg b) = s := ⟨_, rfl⟩
  rw [hs] at hR CS
  obtain ⟨z, hz⟩ : ∃ z, sgz s = z := ⟨_, rfl⟩
  have h2 : bits BinOp.or IntKind.u64 9218868437227405312 (z : Int) = ((9218868437227405312 + z : Nat) : Int) := by
    have := or_sign' (s := s) (a := 9218868437227405312) (by omega)
    rw [hz, Nat.add_comm] at this
    exact this
  rw [hz] at hR CS
  obtain ⟨I, hI⟩ : ∃ I, 9218868437227405312 + z = I := ⟨_, rfl⟩
  rw [hI] at hR h2
  have NA := isNaN_any a ha
  have NB := isNaN_any b hb
  have IA := isInf_any a ha
  have IB := isInf_any b hb
  have ZA := isZero_any a ha
  have ZB := isZero_any b hb
  generalize nanB a = na at *
  generalize nanB b = nb at *
  generalize infB a = ia at *
  generalize infB b = ib at *
  generalize zeroB a = za at *
  generalize zeroB b = zb at *
  have NA := Lib.hid NA; have NB := Lib.hid NB; have IA := Lib.hid IA; have IB := Lib.hid IB; have ZA := Lib.hid ZA; have ZB := Lib.hid ZB
  have CS := Lib.hid CS
  have HR := Lib.hid hR
  have HSP := Lib.hid hsp
  clear hR hsp hs hz hI ha hb hx
  cases na <;> cases nb <;> cases ia <;> cases ib <;> cases za <;> cases zb
  all_goals first
    | (exfalso; exact absurd HSP.out (by decide))
    | (go_enter Tryd.func13, Tryd.ntmps13
       go_wp2_with (first | ((with_reducible refine (NA.out _).mono ?_); rintro r w1 ⟨rfl, rfl⟩) | ((with_reducible refine (NB.out _).mono ?_); rintro r w1 ⟨rfl, rfl⟩) | ((with_reducible refine (IA.out _).mono ?_); rintro r w1 ⟨rfl, rfl⟩) | ((with_reducible refine (IB.out _).mono ?_); rintro r w1 ⟨rfl, rfl⟩) | ((with_reducible refine (ZA.out _).mono ?_); rintro r w1 ⟨rfl, rfl⟩) | ((with_reducible refine (ZB.out _).mono ?_); rintro r w1 ⟨rfl, rfl⟩) | ((with_reducible refine (CS.out _).mono ?_); rintro r w1 ⟨rfl, rfl⟩))
       go_ret
       exact ⟨ret_int (by rw [← HR.out]; simp), rfl⟩)

set_option maxRecDepth 100000 in
theorem fsqrt_neg (mode : Int) (w : World) :
    Calls Tryd.prog 30 #[.int .u64 13830554455654793216, .int .i64 mode] w fun r w' => r = .returned (.int .u64 9221120237041090560) ∧ w = w' := by
  have Z := isZero_any 13830554455654793216 (by omega)
  have N := isNaN_any 13830554455654793216 (by omega)
  have S := isNegative_any 13830554455654793216 (by omega)
  rw [show zeroB 13830554455654793216 = false by decide +kernel, show ((13830554455654793216 : Nat) : Int) = 13830554455654793216 from rfl] at Z
  rw [show nanB 13830554455654793216 = false by decide +kernel, show ((13830554455654793216 : Nat) : Int) = 13830554455654793216 from rfl] at N
  rw [show fneg 13830554455654793216 = true by decide +kernel, show ((13830554455654793216 : Nat) : Int) = 13830554455654793216 from rfl] at S
  have Z := Lib.hid Z; have N := Lib.hid N; have S := Lib.hid S
  go_enter Tryd.func30, Tryd.ntmps30
  go_wp2_with (first | ((with_reducible refine (Z.out _).mono ?_); rintro r w1 ⟨rfl, rfl⟩) | ((with_reducible refine (N.out _).mono ?_); rintro r w1 ⟨rfl, rfl⟩) | ((with_reducible refine (S.out _).mono ?_); rintro r w1 ⟨rfl, rfl⟩))
  go_ret
  exact ⟨rfl, rfl⟩
set_option maxRecDepth 100000 in
theorem fsqrt_nz (mode : Int) (w : World) :
    Calls Tryd.prog 30 #[.int .u64 9223372036854775808, .int .i64 mode] w fun r w' => r = .returned (.int .u64 9223372036854775808) ∧ w = w' := by
  have Z := isZero_any 9223372036854775808 (by omega)
  rw [show zeroB 9223372036854775808 = true by decide +kernel, show ((9223372036854775808 : Nat) : Int) = 9223372036854775808 from rfl] at Z
  have Z := Lib.hid Z
  go_enter Tryd.func30, Tryd.ntmps30
  go_wp2_with ((with_reducible refine (Z.out _).mono ?_); rintro r w1 ⟨rfl, rfl⟩)
  go_ret
  exact ⟨rfl, rfl⟩

theorem fma_at {aI bI cI RI : Int} (a b c R : Nat) (mode : Int) (ha : a < 18446744073709551616) (hb : b < 18446744073709551616) (hc : c < 18446744073709551616) (h1 : (a : Int) = aI) (h2 : (b : Int) = bI) (h3 : (c : Int) = cI) (hR : fmaF a b c mode = R) (h4 : (R : Int) = RI) (w : World) :
    Calls Tryd.prog 31 #[.int .u64 aI, .int .u64 bI, .int .u64 cI, .int .i64 mode] w fun r w' => r = .returned (.int .u64 RI) ∧ Ext w w' := by
  rw [← h1, ← h2, ← h3, ← h4, ← hR]; exact ffma_any a b c mode ha hb hc w
theorem add_at {aI bI RI : Int} (a b R : Nat) (mode : Int) (ha : a < 18446744073709551616) (hb : b < 18446744073709551616) (h1 : (a : Int) = aI) (h2 : (b : Int) = bI) (hR : faddF a b mode = R) (h4 : (R : Int) = RI) (w : World) :
    Calls Tryd.prog 14 #[.int .u64 aI, .int .u64 bI, .int .i64 mode] w fun r w' => r = .returned (.int .u64 RI) ∧ Ext w w' := by
  rw [← h1, ← h2, ← h4, ← hR]; exact fadd_any a b mode ha hb w
theorem mul_at {aI bI RI : Int} (a b R : Nat) (mode : Int) (ha : a < 18446744073709551616) (hb : b < 18446744073709551616) (h1 : (a : Int) = aI) (h2 : (b : Int) = bI) (hR : fmulF a b mode = R) (h4 : (R : Int) = RI) (w : World) :
    Calls Tryd.prog 12 #[.int .u64 aI, .int .u64 bI, .int .i64 mode] w fun r w' => r = .returned (.int .u64 RI) ∧ Ext w w' := by
  rw [← h1, ← h2, ← h4, ← hR]; exact fmul_any a b mode ha hb w
theorem div_at {aI bI RI : Int} (a b R : Nat) (mode : Int) (ha : a < 18446744073709551616) (hb : b < 18446744073709551616) (hsp : (nanB a || nanB b || infB a || infB b || zeroB a || zeroB b) = true) (h1 : (a : Int) = aI) (h2 : (b : Int) = bI) (hR : fdivS a b = R) (h4 : (R : Int) = RI) (w : World) :
    Calls Tryd.prog 13 #[.int .u64 aI, .int .u64 bI, .int .i64 mode] w fun r w' => r = .returned (.int .u64 RI) ∧ w = w' := by
  rw [← h1, ← h2, ← h4, ← hR]; exact fdivS_any a b mode ha hb hsp w
theorem neg_at {aI RI : Int} (a R : Nat) (ha : a < 18446744073709551616) (h1 : (a : Int) = aI) (hR : fnegF a = R) (h4 : (R : Int) = RI) (w : World) :
    Calls Tryd.prog 11 #[.int .u64 aI] w fun r w' => r = .returned (.int .u64 RI) ∧ w = w' := by
  rw [← h1, ← h4, ← hR]; exact negF_any a ha w
set_option maxRecDepth 100000 in
theorem sub_at {aI bI nI RI : Int} (a b n R : Nat) (mode : Int) (ha : a < 18446744073709551616) (hb : b < 18446744073709551616) (hn : n < 18446744073709551616) (h1 : (a : Int) = aI) (h2 : (b : Int) = bI) (hn1 : fnegF b = n) (hn2 : (n : Int) = nI) (hR : faddF a n mode = R) (h4 : (R : Int) = RI) (w : World) :
    Calls Tryd.prog 26 #[.int .u64 aI, .int .u64 bI, .int .i64 mode] w fun r w' => r = .returned (.int .u64 RI) ∧ Ext w w' := by
  have C1 := Lib.hid (neg_at b n hb h2 hn1 hn2)
  have C2 := Lib.hid (add_at a n R mode ha hn h1 hn2 hR h4)
  clear h1 h2 hn1 hn2 hR h4 ha hb hn
  go_enter Tryd.func26, Tryd.ntmps26
  go_wp2_with fail
  refine (C1.out _).mono ?_
  rintro r w1 ⟨rfl, rfl⟩
  go_wp2_with fail
  refine (C2.out _).mono ?_
  rintro r w1 ⟨rfl, hE⟩
  go_wp2
  go_ret
  exact ⟨rfl, hE⟩

theorem nan_or {n : Nat} (hn : n < 18446744073709551616) : n ||| 9218868437227405313 < 18446744073709551616 ∧ nanB (n ||| 9218868437227405313) = true := by
  refine ⟨Nat.or_lt_two_pow (n := 64) (by omega) (by omega), ?_⟩
  unfold nanB fmag
  rw [show (9223372036854775808 : Nat) = 2 ^ 63 from rfl, Nat.or_mod_two_pow, decide_eq_true_iff]
  have h1 := @Nat.right_le_or (n % 2 ^ 63) (9218868437227405313 % 2 ^ 63)
  have h2 : 9218868437227405313 % 2 ^ 63 = 9218868437227405313 := by decide
  rw [h2] at h1 ⊢
  exact Nat.lt_of_lt_of_le (by decide) h1

theorem fma_one_none (mode : Int) : fmaF 4607182418800017408 4607182418800017408 13830554455654793216 mode = cancel mode := by
  unfold fmaF
  rw [if_neg (by decide +kernel), if_neg (by decide +kernel), if_neg (by decide +kernel), if_neg (by decide +kernel), if_neg (by decide +kernel)]
  unfold rsum
  rw [if_pos (by decide +kernel)]

set_option maxRecDepth 100000 in
set_option maxHeartbeats 8000000 in
theorem fspecial_any (n : Nat) (mode : Int) (hn : n < 18446744073709551616) (w : World) (hT : Table w) :
    Calls Tryd.prog 7 #[.int .u64 (n : Int), .int .i64 mode] w fun e w' => e = .returned (.bool true) ∧ Ext w w' := by
  have HT := Lib.hid hT
  have EX := Lib.hid (Ext.refl w)
  obtain ⟨hm, hnan⟩ := nan_or hn
  have hor := bits_or_u64_nat n 9218868437227405313 hn (by omega)
  rw [show ((9218868437227405313 : Nat) : Int) = 9218868437227405313 from rfl] at hor
  generalize n ||| 9218868437227405313 = m at *
  obtain ⟨c, hc⟩ : ∃ c, cancel mode = c := ⟨_, rfl⟩
  have C1 := Lib.hid (add_at (aI := (m : Int)) (bI := 4607182418800017408) (RI := 9221120237041090560) m 4607182418800017408 9221120237041090560 mode hm (by omega) rfl rfl (by unfold faddF fmaF; rw [if_pos (by rw [hnan]; rfl)]) rfl)
  have C2 := Lib.hid (mul_at (aI := 9218868437227405312) (bI := 9223372036854775808) (RI := 9221120237041090560) 9218868437227405312 9223372036854775808 9221120237041090560 mode (by omega) (by omega) rfl rfl (by unfold fmulF fmaF; rw [if_pos (by decide +kernel)]) rfl)
  have C3 := Lib.hid (sub_at (aI := 9218868437227405312) (bI := 9218868437227405312) (nI := 18442240474082181120) (RI := 9221120237041090560) 9218868437227405312 9218868437227405312 18442240474082181120 9221120237041090560 mode (by omega) (by omega) (by omega) rfl rfl (by decide +kernel) rfl (by unfold faddF fmaF; rw [if_neg (by decide +kernel), if_pos (by decide +kernel)]) rfl)
  have C4 := Lib.hid (div_at (aI := 0) (bI := 9223372036854775808) (RI := 9221120237041090560) 0 9223372036854775808 9221120237041090560 mode (by omega) (by omega) (by decide +kernel) rfl rfl (by decide +kernel) rfl)
  have C5 := Lib.hid (neg_at (aI := 4607182418800017408) (RI := 13830554455654793216) 4607182418800017408 13830554455654793216 (by omega) rfl (by decide +kernel) rfl)
  have C6 := Lib.hid (div_at (aI := 4607182418800017408) (bI := 9223372036854775808) (RI := 18442240474082181120) 4607182418800017408 9223372036854775808 18442240474082181120 mode (by omega) (by omega) (by decide +kernel) rfl rfl (by decide +kernel) rfl)
  have C7 := Lib.hid (div_at (aI := 4607182418800017408) (bI := 18442240474082181120) (RI := 9223372036854775808) 4607182418800017408 18442240474082181120 9223372036854775808 mode (by omega) (by omega) (by decide +kernel) rfl rfl (by decide +kernel) rfl)
  have C8 := Lib.hid (add_at (aI := 9223372036854775808) (bI := 9223372036854775808) (RI := 9223372036854775808) 9223372036854775808 9223372036854775808 9223372036854775808 mode (by omega) (by omega) rfl rfl (by unfold faddF fmaF; rw [if_neg (by decide +kernel), if_neg (by decide +kernel), if_neg (by decide +kernel), if_neg (by decide +kernel), if_pos (by decide +kernel)]) rfl)
  have C9 := Lib.hid (sub_at (aI := 4607182418800017408) (bI := 4607182418800017408) (nI := 13830554455654793216) (RI := (c : Int)) 4607182418800017408 4607182418800017408 13830554455654793216 c mode (by omega) (by omega) (by omega) rfl rfl (by decide +kernel) rfl (by unfold faddF; rw [fma_one_none, hc]) rfl)
  have C10 := Lib.hid (add_at (aI := 0) (bI := 9223372036854775808) (RI := (c : Int)) 0 9223372036854775808 c mode (by omega) (by omega) rfl rfl (by unfold faddF fmaF; rw [if_neg (by decide +kernel), if_neg (by decide +kernel), if_neg (by decide +kernel), if_pos (by decide +kernel), hc]) rfl)
  have C11 := Lib.hid (fma_at (aI := 4607182418800017408) (bI := 4607182418800017408) (cI := 13830554455654793216) (RI := (c : Int)) 4607182418800017408 4607182418800017408 13830554455654793216 c mode (by omega) (by omega) (by omega) rfl rfl rfl (by rw [fma_one_none, hc]) rfl)
  have C12 := Lib.hid (fma_at (aI := 9218868437227405312) (bI := 4607182418800017408) (cI := 18442240474082181120) (RI := 9221120237041090560) 9218868437227405312 4607182418800017408 18442240474082181120 9221120237041090560 mode (by omega) (by omega) (by omega) rfl rfl rfl (by unfold fmaF; rw [if_neg (by decide +kernel), if_pos (by decide +kernel)]) rfl)
  clear hnan hm hn hT
  unfold cancel at hc
  by_cases h1 : mode = 1
  · obtain rfl : 9223372036854775808 = c := by rw [← hc, if_pos h1]
    have h2 : (mode == 1) = true := by rw [beq_iff_eq]; exact h1
    rw [show ((9223372036854775808 : Nat) : Int) = 9223372036854775808 from rfl] at C9 C10 C11
    clear hc h1
    go_enter Tryd.func7, Tryd.ntmps7
    go_wp2_with fail
    refine (C1.out _).mono ?_
    rintro r w1 ⟨rfl, hE⟩
    have EX := Lib.hid (Ext.trans EX.out hE)
    clear hE
    go_wp2_with fail
    refine (C2.out _).mono ?_
    rintro r w2 ⟨rfl, hE⟩
    have EX := Lib.hid (Ext.trans EX.out hE)
    clear hE
    go_wp2_with fail
    refine (C3.out _).mono ?_
    rintro r w3 ⟨rfl, hE⟩
    have EX := Lib.hid (Ext.trans EX.out hE)
    clear hE
    go_wp2_with fail
    refine (C4.out _).mono ?_
    rintro r w4 ⟨rfl, rfl⟩
    go_wp2_with fail
    refine (C5.out _).mono ?_
    rintro r w5 ⟨rfl, rfl⟩
    go_wp2_with fail
    refine (fsqrt_neg mode _).mono ?_
    rintro r w6 ⟨rfl, rfl⟩
    go_wp2_with fail
    refine (C6.out _).mono ?_
    rintro r w7 ⟨rfl, rfl⟩
    go_wp2_with fail
    refine (C7.out _).mono ?_
    rintro r w8 ⟨rfl, rfl⟩
    go_wp2_with fail
    refine (fsqrt_nz mode _).mono ?_
    rintro r w9 ⟨rfl, rfl⟩
    go_wp2_with fail
    refine (C8.out _).mono ?_
    rintro r w10 ⟨rfl, hE⟩
    have EX := Lib.hid (Ext.trans EX.out hE)
    clear hE
    go_wp2_with fail
    refine (C9.out _).mono ?_
    rintro r w11 ⟨rfl, hE⟩
    have EX := Lib.hid (Ext.trans EX.out hE)
    clear hE
    go_wp2_with fail
    refine (C10.out _).mono ?_
    rintro r w12 ⟨rfl, hE⟩
    have EX := Lib.hid (Ext.trans EX.out hE)
    clear hE
    go_wp2_with fail
    refine (C5.out _).mono ?_
    rintro r w13 ⟨rfl, rfl⟩
    go_wp2_with fail
    refine (C11.out _).mono ?_
    rintro r w14 ⟨rfl, hE⟩
    have EX := Lib.hid (Ext.trans EX.out hE)
    clear hE
    go_wp2_with fail
    refine (C12.out _).mono ?_
    rintro r w15 ⟨rfl, hE⟩
    have EX := Lib.hid (Ext.trans EX.out hE)
    clear hE
    go_wp2_with fail
    refine (fawake_any _ (HT.out.below EX.out)).mono ?_
    rintro r wz ⟨rfl, hE⟩
    go_wp2
    go_ret
    exact ⟨rfl, Ext.trans EX.out hE⟩
  · obtain rfl : 0 = c := by rw [← hc, if_neg h1]
    rw [show ((0 : Nat) : Int) = 0 from rfl] at C9 C10 C11
    have h2 : (mode == 1) = false := beq_eq_false_iff_ne.2 h1
    clear hc h1
    go_enter Tryd.func7, Tryd.ntmps7
    go_wp2_with fail
    refine (C1.out _).mono ?_
    rintro r w1 ⟨rfl, hE⟩
    have EX := Lib.hid (Ext.trans EX.out hE)
    clear hE
    go_wp2_with fail
    refine (C2.out _).mono ?_
    rintro r w2 ⟨rfl, hE⟩
    have EX := Lib.hid (Ext.trans EX.out hE)
    clear hE
    go_wp2_with fail
    refine (C3.out _).mono ?_
    rintro r w3 ⟨rfl, hE⟩
    have EX := Lib.hid (Ext.trans EX.out hE)
    clear hE
    go_wp2_with fail
    refine (C4.out _).mono ?_
    rintro r w4 ⟨rfl, rfl⟩
    go_wp2_with fail
    refine (C5.out _).mono ?_
    rintro r w5 ⟨rfl, rfl⟩
    go_wp2_with fail
    refine (fsqrt_neg mode _).mono ?_
    rintro r w6 ⟨rfl, rfl⟩
    go_wp2_with fail
    refine (C6.out _).mono ?_
    rintro r w7 ⟨rfl, rfl⟩
    go_wp2_with fail
    refine (C7.out _).mono ?_
    rintro r w8 ⟨rfl, rfl⟩
    go_wp2_with fail
    refine (fsqrt_nz mode _).mono ?_
    rintro r w9 ⟨rfl, rfl⟩
    go_wp2_with fail
    refine (C8.out _).mono ?_
    rintro r w10 ⟨rfl, hE⟩
    have EX := Lib.hid (Ext.trans EX.out hE)
    clear hE
    go_wp2_with fail
    refine (C9.out _).mono ?_
    rintro r w11 ⟨rfl, hE⟩
    have EX := Lib.hid (Ext.trans EX.out hE)
    clear hE
    go_wp2_with fail
    refine (C10.out _).mono ?_
    rintro r w12 ⟨rfl, hE⟩
    have EX := Lib.hid (Ext.trans EX.out hE)
    clear hE
    go_wp2_with fail
    refine (C5.out _).mono ?_
    rintro r w13 ⟨rfl, rfl⟩
    go_wp2_with fail
    refine (C11.out _).mono ?_
    rintro r w14 ⟨rfl, hE⟩
    have EX := Lib.hid (Ext.trans EX.out hE)
    clear hE
    go_wp2_with fail
    refine (C12.out _).mono ?_
    rintro r w15 ⟨rfl, hE⟩
    have EX := Lib.hid (Ext.trans EX.out hE)
    clear hE
    go_wp2_with fail
    refine (fawake_any _ (HT.out.below EX.out)).mono ?_
    rintro r wz ⟨rfl, hE⟩
    go_wp2
    go_ret
    exact ⟨rfl, Ext.trans EX.out hE⟩

theorem fspecial_int (i j : Int) (w : World) (hi0 : 0 ≤ i) (hi1 : i ≤ 18446744073709551615) (hT : Table w) :
    Calls Tryd.prog 7 #[.int .u64 i, .int .i64 j] w fun e w' => e = .returned (.bool true) ∧ Ext w w' := by
  have h := fspecial_any i.toNat j (by omega) w hT
  rw [Int.toNat_of_nonneg hi0] at h
  exact h
end Go.Proofs.YtimehdepiigkgacDoor
