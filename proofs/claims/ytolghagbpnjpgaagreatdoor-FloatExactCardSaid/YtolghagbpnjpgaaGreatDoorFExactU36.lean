import Derived.Test.YtolghagbpnjpgaaGreatDoorFExactU35
namespace Go.Proofs.YtolghagbpnjpgaaGreatDoor
open Go.RowKit

theorem sgz_facts (s : Bool) : nanB (sgz s) = false ∧ infB (sgz s) = false ∧ zeroB (sgz s) = true ∧ fz (sgz s) = 0 := by
  cases s
  · exact ⟨by decide, by decide, by decide, (fz_zero _).2 (by decide)⟩
  · exact ⟨by decide, by decide, by decide, (fz_zero _).2 (by decide)⟩
theorem mul_form (a b : Nat) (mode : Int) : fmulF a b mode =
    if nanB a || nanB b || (infB a || infB b) && (zeroB a || zeroB b) then 9221120237041090560
    else if infB a || infB b then sgz (fneg a != fneg b) + 9218868437227405312
    else if zeroB a || zeroB b then sgz (fneg a != fneg b) + 0
    else rsum (sgi (fneg a != fneg b) (fz a * fz b)) (-2148) mode := by
  unfold fmulF fmaF
  generalize (fneg a != fneg b) = s
  obtain ⟨h1, h2, h3, h4⟩ := sgz_facts s
  rw [h1, h2, h3, h4, Nat.zero_mul, sgi_zero, Int.add_zero, Nat.add_comm 9218868437227405312]
  simp
theorem frdF_of2 {d : Dy} {R : Int} {S : Nat} (h : Is d S R) (hR : R ≠ 0) (mode : Int) : frdF d mode = rnd R (-(S : Int)) mode := by
  obtain ⟨m, e, rfl, _, h2, rfl⟩ := h
  have hm : m ≠ 0 := by rintro rfl; simp at hR
  show rz m e mode = _
  unfold rz
  rw [if_neg hm]
  have := rnd_up hm (e + (S : Int)).toNat e mode
  rw [← this]
  congr 1
  omega
theorem fzs_prod (a b : Nat) : fzs a * fzs b = sgi (fneg a != fneg b) (fz a * fz b) := by
  unfold fzs sgi
  cases fneg a <;> cases fneg b <;> simp [Int.neg_mul, Int.mul_neg]
theorem fmul_fin {a b : Nat} {mode : Int} (fa : finB a = true) (fb : finB b = true) (za : zeroB a = false) (zb : zeroB b = false) : fmulF a b mode = frdF (dmul (fdy a) (fdy b)) mode := by
  have h1 := fzs_lt fa
  have h2 := fzs_lt fb
  have hi : Is (dmul (fdy a) (fdy b)) (1074 + 1074) (fzs a * fzs b) := (fdy_is fa).mul (fdy_is fb) (by omega) (B := (52 + low46) + (52 + low46)) (by rw [Int.natAbs_mul, Nat.pow_add]; exact Nat.mul_lt_mul'' h1 h2) (by decide)
  have hne : fzs a * fzs b ≠ 0 := Int.mul_ne_zero (nz_fzs za) (nz_fzs zb)
  rw [frdF_of2 hi hne, mul_form, (fin_not fa).1, (fin_not fa).2, (fin_not fb).1, (fin_not fb).2, za, zb, ← fzs_prod]
  simp only [Bool.or_false, Bool.false_and, Bool.false_eq_true, if_false]
  unfold rsum
  rw [if_neg hne]
  rfl

set_option maxRecDepth 100000 in
set_option maxHeartbeats 4000000 in
theorem refMul_nanA (a b : Nat) (mode : Int) (ha : a < 18446744073709551616) (hb : b < 18446744073709551616) (na : nanB a = true) (w : World) :
    Calls Tryz.prog 12 #[.int .u64 (a : Int), .int .u64 (b : Int), .int .i64 mode] w fun e w' => e = .returned (.int .u64 ((fmulF a b mode : Nat) : Int)) ∧ Ext w w' := by
  have hR : fmulF a b mode = 9221120237041090560 := by rw [mul_form]; simp [na]
  rw [hR]
  have MA := Lib.hid (refMinus_any a ha _ rfl)
  have MB := Lib.hid (refMinus_any b hb _ rfl)
  have NA := Lib.hid (refNan_any a ha true (na))
  clear hR na
  generalize fneg a = sa at *
  generalize fneg b = sb at *
  clear ha hb
  cases sa <;> cases sb
  all_goals
    go_enter Tryz.func12, Tryz.ntmps12
    go_wp2_with (first | (go_at_call 66; (with_reducible refine (MA.out _).mono ?_); rintro e w' ⟨rfl, rfl⟩) | (go_at_call 66; (with_reducible refine (MB.out _).mono ?_); rintro e w' ⟨rfl, rfl⟩) | (go_at_call 56; (with_reducible refine (NA.out _).mono ?_); rintro e w' ⟨rfl, rfl⟩))
    go_ret
    exact ⟨rfl, Below.refl _ _⟩

set_option maxRecDepth 100000 in
set_option maxHeartbeats 4000000 in
theorem refMul_nanB (a b : Nat) (mode : Int) (ha : a < 18446744073709551616) (hb : b < 18446744073709551616) (na : nanB a = false) (nb : nanB b = true) (w : World) :
    Calls Tryz.prog 12 #[.int .u64 (a : Int), .int .u64 (b : Int), .int .i64 mode] w fun e w' => e = .returned (.int .u64 ((fmulF a b mode : Nat) : Int)) ∧ Ext w w' := by
  have hR : fmulF a b mode = 9221120237041090560 := by rw [mul_form]; simp [na, nb]
  rw [hR]
  have MA := Lib.hid (refMinus_any a ha _ rfl)
  have MB := Lib.hid (refMinus_any b hb _ rfl)
  have NA := Lib.hid (refNan_any a ha false (na))
  have NB := Lib.hid (refNan_any b hb true (nb))
  clear hR na nb
  generalize fneg a = sa at *
  generalize fneg b = sb at *
  clear ha hb
  cases sa <;> cases sb
  all_goals
    go_enter Tryz.func12, Tryz.ntmps12
    go_wp2_with (first | (go_at_call 66; (with_reducible refine (MA.out _).mono ?_); rintro e w' ⟨rfl, rfl⟩) | (go_at_call 66; (with_reducible refine (MB.out _).mono ?_); rintro e w' ⟨rfl, rfl⟩) | (go_at_call 56; (with_reducible refine (NA.out _).mono ?_); rintro e w' ⟨rfl, rfl⟩) | (go_at_call 56; (with_reducible refine (NB.out _).mono ?_); rintro e w' ⟨rfl, rfl⟩))
    go_ret
    exact ⟨rfl, Below.refl _ _⟩

set_option maxRecDepth 100000 in
set_option maxHeartbeats 4000000 in
theorem refMul_infZ (a b : Nat) (mode : Int) (ha : a < 18446744073709551616) (hb : b < 18446744073709551616) (na : nanB a = false) (nb : nanB b = false) (ia : infB a = true) (zb : zeroB b = true) (w : World) :
    Calls Tryz.prog 12 #[.int .u64 (a : Int), .int .u64 (b : Int), .int .i64 mode] w fun e w' => e = .returned (.int .u64 ((fmulF a b mode : Nat) : Int)) ∧ Ext w w' := by
  have hR : fmulF a b mode = 9221120237041090560 := by rw [mul_form]; simp [na, nb, ia, zb]
  rw [hR]
  have MA := Lib.hid (refMinus_any a ha _ rfl)
  have MB := Lib.hid (refMinus_any b hb _ rfl)
  have NA := Lib.hid (refNan_any a ha false (na))
  have NB := Lib.hid (refNan_any b hb false (nb))
  have IA := Lib.hid (refInf_any a ha true ((kind_inf a).trans ia))
  have ZB := Lib.hid (refZero_any b hb true ((kind_zero b).trans zb))
  clear hR na nb ia zb
  generalize fneg a = sa at *
  generalize fneg b = sb at *
  clear ha hb
  cases sa <;> cases sb
  all_goals
    go_enter Tryz.func12, Tryz.ntmps12
    go_wp2_with (first | (go_at_call 66; (with_reducible refine (MA.out _).mono ?_); rintro e w' ⟨rfl, rfl⟩) | (go_at_call 66; (with_reducible refine (MB.out _).mono ?_); rintro e w' ⟨rfl, rfl⟩) | (go_at_call 56; (with_reducible refine (NA.out _).mono ?_); rintro e w' ⟨rfl, rfl⟩) | (go_at_call 56; (with_reducible refine (NB.out _).mono ?_); rintro e w' ⟨rfl, rfl⟩) | (go_at_call 57; (with_reducible refine (IA.out _).mono ?_); rintro e w' ⟨rfl, rfl⟩) | (go_at_call 58; (with_reducible refine (ZB.out _).mono ?_); rintro e w' ⟨rfl, rfl⟩))
    go_ret
    exact ⟨rfl, Below.refl _ _⟩

set_option maxRecDepth 100000 in
set_option maxHeartbeats 4000000 in
theorem refMul_zInf (a b : Nat) (mode : Int) (ha : a < 18446744073709551616) (hb : b < 18446744073709551616) (na : nanB a = false) (nb : nanB b = false) (ia : infB a = false) (za : zeroB a = true) (ib : infB b = true) (w : World) :
    Calls Tryz.prog 12 #[.int .u64 (a : Int), .int .u64 (b : Int), .int .i64 mode] w fun e w' => e = .returned (.int .u64 ((fmulF a b mode : Nat) : Int)) ∧ Ext w w' := by
  have hR : fmulF a b mode = 9221120237041090560 := by rw [mul_form]; simp [na, nb, ia, za, ib]
  rw [hR]
  have MA := Lib.hid (refMinus_any a ha _ rfl)
  have MB := Lib.hid (refMinus_any b hb _ rfl)
  have NA := Lib.hid (refNan_any a ha false (na))
  have NB := Lib.hid (refNan_any b hb false (nb))
  have IA := Lib.hid (refInf_any a ha false ((kind_inf a).trans ia))
  have ZA := Lib.hid (refZero_any a ha true ((kind_zero a).trans za))
  have IB := Lib.hid (refInf_any b hb true ((kind_inf b).trans ib))
  clear hR na nb ia za ib
  generalize fneg a = sa at *
  generalize fneg b = sb at *
  clear ha hb
  cases sa <;> cases sb
  all_goals
    go_enter Tryz.func12, Tryz.ntmps12
    go_wp2_with (first | (go_at_call 66; (with_reducible refine (MA.out _).mono ?_); rintro e w' ⟨rfl, rfl⟩) | (go_at_call 66; (with_reducible refine (MB.out _).mono ?_); rintro e w' ⟨rfl, rfl⟩) | (go_at_call 56; (with_reducible refine (NA.out _).mono ?_); rintro e w' ⟨rfl, rfl⟩) | (go_at_call 56; (with_reducible refine (NB.out _).mono ?_); rintro e w' ⟨rfl, rfl⟩) | (go_at_call 57; (with_reducible refine (IA.out _).mono ?_); rintro e w' ⟨rfl, rfl⟩) | (go_at_call 58; (with_reducible refine (ZA.out _).mono ?_); rintro e w' ⟨rfl, rfl⟩) | (go_at_call 57; (with_reducible refine (IB.out _).mono ?_); rintro e w' ⟨rfl, rfl⟩))
    go_ret
    exact ⟨rfl, Below.refl _ _⟩

set_option maxRecDepth 100000 in
set_option maxHeartbeats 4000000 in
theorem refMul_infA (a b : Nat) (mode : Int) (ha : a < 18446744073709551616) (hb : b < 18446744073709551616) (na : nanB a = false) (nb : nanB b = false) (ia : infB a = true) (zb : zeroB b = false) (za : zeroB a = false) (w : World) :
    Calls Tryz.prog 12 #[.int .u64 (a : Int), .int .u64 (b : Int), .int .i64 mode] w fun e w' => e = .returned (.int .u64 ((fmulF a b mode : Nat) : Int)) ∧ Ext w w' := by
  have hR : fmulF a b mode = sgz (fneg a != fneg b) + 9218868437227405312 := by rw [mul_form]; simp [na, nb, ia, zb, za]
  rw [hR]
  have MA := Lib.hid (refMinus_any a ha _ rfl)
  have MB := Lib.hid (refMinus_any b hb _ rfl)
  have NA := Lib.hid (refNan_any a ha false (na))
  have NB := Lib.hid (refNan_any b hb false (nb))
  have IA := Lib.hid (refInf_any a ha true ((kind_inf a).trans ia))
  have ZB := Lib.hid (refZero_any b hb false ((kind_zero b).trans zb))
  have ZA := Lib.hid (refZero_any a ha false ((kind_zero a).trans za))
  clear hR na nb ia zb za
  generalize fneg a = sa at *
  generalize fneg b = sb at *
  have SG := Lib.hid (show ∀ W, Calls Tryz.prog 67 #[.bool (sa != sb), .int .u64 9218868437227405312] W fun e w' => e = .returned (.int .u64 ((sgz (sa != sb) + 9218868437227405312 : Nat) : Int)) ∧ W = w' from fun W => refSigned_any (sa != sb) 9218868437227405312 (by omega) W)
  clear ha hb
  cases sa <;> cases sb
  all_goals
    go_enter Tryz.func12, Tryz.ntmps12
    go_wp2_with (first | (go_at_call 66; (with_reducible refine (MA.out _).mono ?_); rintro e w' ⟨rfl, rfl⟩) | (go_at_call 66; (with_reducible refine (MB.out _).mono ?_); rintro e w' ⟨rfl, rfl⟩) | (go_at_call 56; (with_reducible refine (NA.out _).mono ?_); rintro e w' ⟨rfl, rfl⟩) | (go_at_call 56; (with_reducible refine (NB.out _).mono ?_); rintro e w' ⟨rfl, rfl⟩) | (go_at_call 57; (with_reducible refine (IA.out _).mono ?_); rintro e w' ⟨rfl, rfl⟩) | (go_at_call 58; (with_reducible refine (ZB.out _).mono ?_); rintro e w' ⟨rfl, rfl⟩) | (go_at_call 58; (with_reducible refine (ZA.out _).mono ?_); rintro e w' ⟨rfl, rfl⟩) | (go_at_call 67; (refine (SG.out _).mono ?_); rintro e w' ⟨rfl, rfl⟩))
    go_ret
    exact ⟨rfl, Below.refl _ _⟩

set_option maxRecDepth 100000 in
set_option maxHeartbeats 4000000 in
theorem refMul_infB (a b : Nat) (mode : Int) (ha : a < 18446744073709551616) (hb : b < 18446744073709551616) (na : nanB a = false) (nb : nanB b = false) (ia : infB a = false) (ib : infB b = true) (zb : zeroB b = false) (za : zeroB a = false) (w : World) :
    Calls Tryz.prog 12 #[.int .u64 (a : Int), .int .u64 (b : Int), .int .i64 mode] w fun e w' => e = .returned (.int .u64 ((fmulF a b mode : Nat) : Int)) ∧ Ext w w' := by
  have hR : fmulF a b mode = sgz (fneg a != fneg b) + 9218868437227405312 := by rw [mul_form]; simp [na, nb, ia, ib, zb, za]
  rw [hR]
  have MA := Lib.hid (refMinus_any a ha _ rfl)
  have MB := Lib.hid (refMinus_any b hb _ rfl)
  have NA := Lib.hid (refNan_any a ha false (na))
  have NB := Lib.hid (refNan_any b hb false (nb))
  have IA := Lib.hid (refInf_any a ha false ((kind_inf a).trans ia))
  have IB := Lib.hid (refInf_any b hb true ((kind_inf b).trans ib))
  have ZB := Lib.hid (refZero_any b hb false ((kind_zero b).trans zb))
  have ZA := Lib.hid (refZero_any a ha false ((kind_zero a).trans za))
  clear hR na nb ia ib zb za
  generalize fneg a = sa at *
  generalize fneg b = sb at *
  have SG := Lib.hid (show ∀ W, Calls Tryz.prog 67 #[.bool (sa != sb), .int .u64 9218868437227405312] W fun e w' => e = .returned (.int .u64 ((sgz (sa != sb) + 9218868437227405312 : Nat) : Int)) ∧ W = w' from fun W => refSigned_any (sa != sb) 9218868437227405312 (by omega) W)
  clear ha hb
  cases sa <;> cases sb
  all_goals
    go_enter Tryz.func12, Tryz.ntmps12
    go_wp2_with (first | (go_at_call 66; (with_reducible refine (MA.out _).mono ?_); rintro e w' ⟨rfl, rfl⟩) | (go_at_call 66; (with_reducible refine (MB.out _).mono ?_); rintro e w' ⟨rfl, rfl⟩) | (go_at_call 56; (with_reducible refine (NA.out _).mono ?_); rintro e w' ⟨rfl, rfl⟩) | (go_at_call 56; (with_reducible refine (NB.out _).mono ?_); rintro e w' ⟨rfl, rfl⟩) | (go_at_call 57; (with_reducible refine (IA.out _).mono ?_); rintro e w' ⟨rfl, rfl⟩) | (go_at_call 57; (with_reducible refine (IB.out _).mono ?_); rintro e w' ⟨rfl, rfl⟩) | (go_at_call 58; (with_reducible refine (ZB.out _).mono ?_); rintro e w' ⟨rfl, rfl⟩) | (go_at_call 58; (with_reducible refine (ZA.out _).mono ?_); rintro e w' ⟨rfl, rfl⟩) | (go_at_call 67; (refine (SG.out _).mono ?_); rintro e w' ⟨rfl, rfl⟩))
    go_ret
    exact ⟨rfl, Below.refl _ _⟩

set_option maxRecDepth 100000 in
set_option maxHeartbeats 4000000 in
theorem refMul_zeroA (a b : Nat) (mode : Int) (ha : a < 18446744073709551616) (hb : b < 18446744073709551616) (na : nanB a = false) (nb : nanB b = false) (ia : infB a = false) (ib : infB b = false) (za : zeroB a = true) (w : World) :
    Calls Tryz.prog 12 #[.int .u64 (a : Int), .int .u64 (b : Int), .int .i64 mode] w fun e w' => e = .returned (.int .u64 ((fmulF a b mode : Nat) : Int)) ∧ Ext w w' := by
  have hR : fmulF a b mode = sgz (fneg a != fneg b) + 0 := by rw [mul_form]; simp [na, nb, ia, ib, za]
  rw [hR]
  have MA := Lib.hid (refMinus_any a ha _ rfl)
  have MB := Lib.hid (refMinus_any b hb _ rfl)
  have NA := Lib.hid (refNan_any a ha false (na))
  have NB := Lib.hid (refNan_any b hb false (nb))
  have IA := Lib.hid (refInf_any a ha false ((kind_inf a).trans ia))
  have IB := Lib.hid (refInf_any b hb false ((kind_inf b).trans ib))
  have ZA := Lib.hid (refZero_any a ha true ((kind_zero a).trans za))
  clear hR na nb ia ib za
  generalize fneg a = sa at *
  generalize fneg b = sb at *
  have SG := Lib.hid (show ∀ W, Calls Tryz.prog 67 #[.bool (sa != sb), .int .u64 0] W fun e w' => e = .returned (.int .u64 ((sgz (sa != sb) + 0 : Nat) : Int)) ∧ W = w' from fun W => refSigned_any (sa != sb) 0 (by omega) W)
  clear ha hb
  cases sa <;> cases sb
  all_goals
    go_enter Tryz.func12, Tryz.ntmps12
    go_wp2_with (first | (go_at_call 66; (with_reducible refine (MA.out _).mono ?_); rintro e w' ⟨rfl, rfl⟩) | (go_at_call 66; (with_reducible refine (MB.out _).mono ?_); rintro e w' ⟨rfl, rfl⟩) | (go_at_call 56; (with_reducible refine (NA.out _).mono ?_); rintro e w' ⟨rfl, rfl⟩) | (go_at_call 56; (with_reducible refine (NB.out _).mono ?_); rintro e w' ⟨rfl, rfl⟩) | (go_at_call 57; (with_reducible refine (IA.out _).mono ?_); rintro e w' ⟨rfl, rfl⟩) | (go_at_call 57; (with_reducible refine (IB.out _).mono ?_); rintro e w' ⟨rfl, rfl⟩) | (go_at_call 58; (with_reducible refine (ZA.out _).mono ?_); rintro e w' ⟨rfl, rfl⟩) | (go_at_call 67; (refine (SG.out _).mono ?_); rintro e w' ⟨rfl, rfl⟩))
    go_ret
    exact ⟨rfl, Below.refl _ _⟩

set_option maxRecDepth 100000 in
set_option maxHeartbeats 4000000 in
theorem refMul_zeroB (a b : Nat) (mode : Int) (ha : a < 18446744073709551616) (hb : b < 18446744073709551616) (na : nanB a = false) (nb : nanB b = false) (ia : infB a = false) (ib : infB b = false) (za : zeroB a = false) (zb : zeroB b = true) (w : World) :
    Calls Tryz.prog 12 #[.int .u64 (a : Int), .int .u64 (b : Int), .int .i64 mode] w fun e w' => e = .returned (.int .u64 ((fmulF a b mode : Nat) : Int)) ∧ Ext w w' := by
  have hR : fmulF a b mode = sgz (fneg a != fneg b) + 0 := by rw [mul_form]; simp [na, nb, ia, ib, za, zb]
  rw [hR]
  have MA := Lib.hid (refMinus_any a ha _ rfl)
  have MB := Lib.hid (refMinus_any b hb _ rfl)
  have NA := Lib.hid (refNan_any a ha false (na))
  have NB := Lib.hid (refNan_any b hb false (nb))
  have IA := Lib.hid (refInf_any a ha false ((kind_inf a).trans ia))
  have IB := Lib.hid (refInf_any b hb false ((kind_inf b).trans ib))
  have ZA := Lib.hid (refZero_any a ha false ((kind_zero a).trans za))
  have ZB := Lib.hid (refZero_any b hb true ((kind_zero b).trans zb))
  clear hR na nb ia ib za zb
  generalize fneg a = sa at *
  generalize fneg b = sb at *
  have SG := Lib.hid (show ∀ W, Calls Tryz.prog 67 #[.bool (sa != sb), .int .u64 0] W fun e w' => e = .returned (.int .u64 ((sgz (sa != sb) + 0 : Nat) : Int)) ∧ W = w' from fun W => refSigned_any (sa != sb) 0 (by omega) W)
  clear ha hb
  cases sa <;> cases sb
  all_goals
    go_enter Tryz.func12, Tryz.ntmps12
    go_wp2_with (first | (go_at_call 66; (with_reducible refine (MA.out _).mono ?_); rintro e w' ⟨rfl, rfl⟩) | (go_at_call 66; (with_reducible refine (MB.out _).mono ?_); rintro e w' ⟨rfl, rfl⟩) | (go_at_call 56; (with_reducible refine (NA.out _).mono ?_); rintro e w' ⟨rfl, rfl⟩) | (go_at_call 56; (with_reducible refine (NB.out _).mono ?_); rintro e w' ⟨rfl, rfl⟩) | (go_at_call 57; (with_reducible refine (IA.out _).mono ?_); rintro e w' ⟨rfl, rfl⟩) | (go_at_call 57; (with_reducible refine (IB.out _).mono ?_); rintro e w' ⟨rfl, rfl⟩) | (go_at_call 58; (with_reducible refine (ZA.out _).mono ?_); rintro e w' ⟨rfl, rfl⟩) | (go_at_call 58; (with_reducible refine (ZB.out _).mono ?_); rintro e w' ⟨rfl, rfl⟩) | (go_at_call 67; (refine (SG.out _).mono ?_); rintro e w' ⟨rfl, rfl⟩))
    go_ret
    exact ⟨rfl, Below.refl _ _⟩

set_option maxRecDepth 100000 in
set_option maxHeartbeats 4000000 in
theorem refMul_fin (a b : Nat) (mode : Int) (ha : a < 18446744073709551616) (hb : b < 18446744073709551616) (fa : finB a = true) (fb : finB b = true) (za : zeroB a = false) (zb : zeroB b = false) (w : World) (hT : Table w) :
    Calls Tryz.prog 12 #[.int .u64 (a : Int), .int .u64 (b : Int), .int .i64 mode] w fun e w' => e = .returned (.int .u64 ((fmulF a b mode : Nat) : Int)) ∧ Ext w w' := by
  rw [fmul_fin fa fb za zb]
  have na := (fin_not fa).1
  have nb := (fin_not fb).1
  have ia := (fin_not fa).2
  have ib := (fin_not fb).2
  have MA := Lib.hid (refMinus_any a ha _ rfl)
  have MB := Lib.hid (refMinus_any b hb _ rfl)
  have NA := Lib.hid (refNan_any a ha false (na))
  have NB := Lib.hid (refNan_any b hb false (nb))
  have IA := Lib.hid (refInf_any a ha false ((kind_inf a).trans ia))
  have IB := Lib.hid (refInf_any b hb false ((kind_inf b).trans ib))
  have ZA := Lib.hid (refZero_any a ha false ((kind_zero a).trans za))
  have ZB := Lib.hid (refZero_any b hb false ((kind_zero b).trans zb))
  have OA := Lib.hid (fun W (hE : Ext w W) => refOf_any a ha W (hT.below hE))
  have OB := Lib.hid (fun W (hE : Ext w W) => refOf_any b hb W (hT.below hE))
  have HTT := Lib.hid (fun W (hE : Ext w W) => hT.below hE)
  clear na nb ia ib za zb fa fb hT ha hb
  generalize fneg a = sa at *
  generalize fneg b = sb at *
  generalize fdy a = da at *
  generalize fdy b = db at *
  go_enter Tryz.func12, Tryz.ntmps12
  go_wp2_with (first | (go_at_call 66; (with_reducible refine (MA.out _).mono ?_); rintro e w' ⟨rfl, rfl⟩) | (go_at_call 66; (with_reducible refine (MB.out _).mono ?_); rintro e w' ⟨rfl, rfl⟩) | (go_at_call 56; (with_reducible refine (NA.out _).mono ?_); rintro e w' ⟨rfl, rfl⟩) | (go_at_call 56; (with_reducible refine (NB.out _).mono ?_); rintro e w' ⟨rfl, rfl⟩) | (go_at_call 57; (with_reducible refine (IA.out _).mono ?_); rintro e w' ⟨rfl, rfl⟩) | (go_at_call 57; (with_reducible refine (IB.out _).mono ?_); rintro e w' ⟨rfl, rfl⟩) | (go_at_call 58; (with_reducible refine (ZA.out _).mono ?_); rintro e w' ⟨rfl, rfl⟩) | (go_at_call 58; (with_reducible refine (ZB.out _).mono ?_); rintro e w' ⟨rfl, rfl⟩))
  refine (OA.out _ (Below.refl _ _)).mono ?_
  rintro e w1 ⟨v, rfl, hv, hw1⟩
  go_wp2_with fail
  refine (OB.out _ hw1).mono ?_
  rintro e w2 ⟨u, rfl, hu, hw2⟩
  have h2 := Ext.trans hw1 hw2
  go_wp2_with fail
  refine (ref_dmul_any _ _ _ _ w2 (hv.ext hw2).dl hu.dl (HTT.out _ h2)).mono ?_
  rintro e w3 ⟨r, rfl, hr, hw3⟩
  have h3 := Ext.trans h2 hw3
  clear hv hu hw1 hw2 h2 hw3
  go_wp2_with fail
  refine (refRound_any _ _ mode w3 hr.dl (HTT.out _ h3)).mono ?_
  rintro e w4 ⟨rfl, hw4⟩
  have H4 := Lib.hid (Ext.trans h3 hw4)
  clear h3 hr hw4
  go_wp2
  go_ret
  exact ⟨rfl, H4.out⟩

theorem refFMul_any (a b : Nat) (mode : Int) (ha : a < 18446744073709551616) (hb : b < 18446744073709551616) (w : World) (hT : Table w) :
    Calls Tryz.prog 12 #[.int .u64 (a : Int), .int .u64 (b : Int), .int .i64 mode] w fun e w' => e = .returned (.int .u64 ((fmulF a b mode : Nat) : Int)) ∧ Ext w w' := by
  have fin : ∀ f, nanB f = false → infB f = false → finB f = true := fun f h1 h2 => by
    have h1 : ¬ 9218868437227405312 < fmag f := of_decide_eq_false h1
    have h2 : ¬ fmag f = 9218868437227405312 := of_decide_eq_false h2
    exact decide_eq_true (by omega)
  cases na : nanB a with
  | true => exact refMul_nanA a b mode ha hb na w
  | false =>
    cases nb : nanB b with
    | true => exact refMul_nanB a b mode ha hb na nb w
    | false =>
      cases ia : infB a with
      | true =>
        cases zb : zeroB b with
        | true => exact refMul_infZ a b mode ha hb na nb ia zb w
        | false => exact refMul_infA a b mode ha hb na nb ia zb (inf_not ia).2 w
      | false =>
        cases ib : infB b with
        | true =>
          cases za : zeroB a with
          | true => exact refMul_zInf a b mode ha hb na nb ia za ib w
          | false => exact refMul_infB a b mode ha hb na nb ia ib (inf_not ib).2 za w
        | false =>
          cases za : zeroB a with
          | true => exact refMul_zeroA a b mode ha hb na nb ia ib za w
          | false =>
            cases zb : zeroB b with
            | true => exact refMul_zeroB a b mode ha hb na nb ia ib za zb w
            | false => exact refMul_fin a b mode ha hb (fin a na ia) (fin b nb ib) za zb w hT
end Go.Proofs.YtolghagbpnjpgaaGreatDoor
