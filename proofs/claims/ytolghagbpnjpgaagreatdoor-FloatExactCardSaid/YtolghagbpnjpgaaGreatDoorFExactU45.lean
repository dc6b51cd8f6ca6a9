import Derived.Test.YtolghagbpnjpgaaGreatDoorFExactU37
import Derived.Test.YtolghagbpnjpgaaGreatDoorFExactU36
namespace Go.Proofs.YtolghagbpnjpgaaGreatDoor
open Go.RowKit

set_option maxRecDepth 100000 in
set_option maxHeartbeats 4000000 in
theorem refFMA_nanA (a b c : Nat) (mode : Int) (ha : a < 18446744073709551616) (hb : b < 18446744073709551616) (_hc : c < 18446744073709551616) (na : nanB a = true)  (w : World) :
    Calls Tryz.prog 16 #[.int .u64 (a : Int), .int .u64 (b : Int), .int .u64 (c : Int), .int .i64 mode] w fun e w' => e = .returned (.int .u64 ((fmaF a b c mode : Nat) : Int)) ∧ Ext w w' := by
  have hR : fmaF a b c mode = 9221120237041090560 := by rw [fma_form _ _ _ _ (Or.inr (Or.inr (Or.inr (Or.inl na))))]; simp [na]
  rw [hR]
  have MA := Lib.hid (refMinus_any a ha _ rfl)
  have MB := Lib.hid (refMinus_any b hb _ rfl)
  have NA := Lib.hid (refNan_any a ha true (na))
  clear hR na
  generalize fneg a = sa at *
  generalize fneg b = sb at *
  clear ha hb _hc
  cases sa <;> cases sb
  all_goals
    go_enter Tryz.func16, Tryz.ntmps16
    go_wp2_with (first | (go_at_call 66; (with_reducible refine (MA.out _).mono ?_); rintro e w' ⟨rfl, rfl⟩) | (go_at_call 66; (with_reducible refine (MB.out _).mono ?_); rintro e w' ⟨rfl, rfl⟩) | (go_at_call 56; (with_reducible refine (NA.out _).mono ?_); rintro e w' ⟨rfl, rfl⟩))
    go_ret
    exact ⟨rfl, Below.refl _ _⟩

set_option maxRecDepth 100000 in
set_option maxHeartbeats 4000000 in
theorem refFMA_nanB (a b c : Nat) (mode : Int) (ha : a < 18446744073709551616) (hb : b < 18446744073709551616) (_hc : c < 18446744073709551616) (na : nanB a = false) (nb : nanB b = true)  (w : World) :
    Calls Tryz.prog 16 #[.int .u64 (a : Int), .int .u64 (b : Int), .int .u64 (c : Int), .int .i64 mode] w fun e w' => e = .returned (.int .u64 ((fmaF a b c mode : Nat) : Int)) ∧ Ext w w' := by
  have hR : fmaF a b c mode = 9221120237041090560 := by rw [fma_form _ _ _ _ (Or.inr (Or.inr (Or.inr (Or.inr (Or.inl nb)))))]; simp [na, nb]
  rw [hR]
  have MA := Lib.hid (refMinus_any a ha _ rfl)
  have MB := Lib.hid (refMinus_any b hb _ rfl)
  have NA := Lib.hid (refNan_any a ha false (na))
  have NB := Lib.hid (refNan_any b hb true (nb))
  clear hR na nb
  generalize fneg a = sa at *
  generalize fneg b = sb at *
  clear ha hb _hc
  cases sa <;> cases sb
  all_goals
    go_enter Tryz.func16, Tryz.ntmps16
    go_wp2_with (first | (go_at_call 66; (with_reducible refine (MA.out _).mono ?_); rintro e w' ⟨rfl, rfl⟩) | (go_at_call 66; (with_reducible refine (MB.out _).mono ?_); rintro e w' ⟨rfl, rfl⟩) | (go_at_call 56; (with_reducible refine (NA.out _).mono ?_); rintro e w' ⟨rfl, rfl⟩) | (go_at_call 56; (with_reducible refine (NB.out _).mono ?_); rintro e w' ⟨rfl, rfl⟩))
    go_ret
    exact ⟨rfl, Below.refl _ _⟩

set_option maxRecDepth 100000 in
set_option maxHeartbeats 4000000 in
theorem refFMA_nanC (a b c : Nat) (mode : Int) (ha : a < 18446744073709551616) (hb : b < 18446744073709551616) (hc : c < 18446744073709551616) (na : nanB a = false) (nb : nanB b = false) (nc : nanB c = true)  (w : World) :
    Calls Tryz.prog 16 #[.int .u64 (a : Int), .int .u64 (b : Int), .int .u64 (c : Int), .int .i64 mode] w fun e w' => e = .returned (.int .u64 ((fmaF a b c mode : Nat) : Int)) ∧ Ext w w' := by
  have hR : fmaF a b c mode = 9221120237041090560 := by rw [fma_form _ _ _ _ (Or.inr (Or.inr (Or.inr (Or.inr (Or.inr nc)))))]; simp [na, nb, nc]
  rw [hR]
  have MA := Lib.hid (refMinus_any a ha _ rfl)
  have MB := Lib.hid (refMinus_any b hb _ rfl)
  have NA := Lib.hid (refNan_any a ha false (na))
  have NB := Lib.hid (refNan_any b hb false (nb))
  have NC := Lib.hid (refNan_any c hc true (nc))
  clear hR na nb nc
  generalize fneg a = sa at *
  generalize fneg b = sb at *
  clear ha hb hc
  cases sa <;> cases sb
  all_goals
    go_enter Tryz.func16, Tryz.ntmps16
    go_wp2_with (first | (go_at_call 66; (with_reducible refine (MA.out _).mono ?_); rintro e w' ⟨rfl, rfl⟩) | (go_at_call 66; (with_reducible refine (MB.out _).mono ?_); rintro e w' ⟨rfl, rfl⟩) | (go_at_call 56; (with_reducible refine (NA.out _).mono ?_); rintro e w' ⟨rfl, rfl⟩) | (go_at_call 56; (with_reducible refine (NB.out _).mono ?_); rintro e w' ⟨rfl, rfl⟩) | (go_at_call 56; (with_reducible refine (NC.out _).mono ?_); rintro e w' ⟨rfl, rfl⟩))
    go_ret
    exact ⟨rfl, Below.refl _ _⟩

set_option maxRecDepth 100000 in
set_option maxHeartbeats 4000000 in
theorem refFMA_infZ (a b c : Nat) (mode : Int) (ha : a < 18446744073709551616) (hb : b < 18446744073709551616) (hc : c < 18446744073709551616) (na : nanB a = false) (nb : nanB b = false) (nc : nanB c = false) (ia : infB a = true) (zb : zeroB b = true)  (w : World) :
    Calls Tryz.prog 16 #[.int .u64 (a : Int), .int .u64 (b : Int), .int .u64 (c : Int), .int .i64 mode] w fun e w' => e = .returned (.int .u64 ((fmaF a b c mode : Nat) : Int)) ∧ Ext w w' := by
  have hR : fmaF a b c mode = 9221120237041090560 := by rw [fma_form _ _ _ _ (Or.inl ia)]; simp [na, nb, nc, ia, zb]
  rw [hR]
  have MA := Lib.hid (refMinus_any a ha _ rfl)
  have MB := Lib.hid (refMinus_any b hb _ rfl)
  have NA := Lib.hid (refNan_any a ha false (na))
  have NB := Lib.hid (refNan_any b hb false (nb))
  have NC := Lib.hid (refNan_any c hc false (nc))
  have IA := Lib.hid (refInf_any a ha true ((kind_inf a).trans ia))
  have ZB := Lib.hid (refZero_any b hb true ((kind_zero b).trans zb))
  clear hR na nb nc ia zb
  generalize fneg a = sa at *
  generalize fneg b = sb at *
  clear ha hb hc
  cases sa <;> cases sb
  all_goals
    go_enter Tryz.func16, Tryz.ntmps16
    go_wp2_with (first | (go_at_call 66; (with_reducible refine (MA.out _).mono ?_); rintro e w' ⟨rfl, rfl⟩) | (go_at_call 66; (with_reducible refine (MB.out _).mono ?_); rintro e w' ⟨rfl, rfl⟩) | (go_at_call 56; (with_reducible refine (NA.out _).mono ?_); rintro e w' ⟨rfl, rfl⟩) | (go_at_call 56; (with_reducible refine (NB.out _).mono ?_); rintro e w' ⟨rfl, rfl⟩) | (go_at_call 56; (with_reducible refine (NC.out _).mono ?_); rintro e w' ⟨rfl, rfl⟩) | (go_at_call 57; (with_reducible refine (IA.out _).mono ?_); rintro e w' ⟨rfl, rfl⟩) | (go_at_call 58; (with_reducible refine (ZB.out _).mono ?_); rintro e w' ⟨rfl, rfl⟩))
    go_ret
    exact ⟨rfl, Below.refl _ _⟩

set_option maxRecDepth 100000 in
set_option maxHeartbeats 4000000 in
theorem refFMA_zInf (a b c : Nat) (mode : Int) (ha : a < 18446744073709551616) (hb : b < 18446744073709551616) (hc : c < 18446744073709551616) (na : nanB a = false) (nb : nanB b = false) (nc : nanB c = false) (ia : infB a = false) (za : zeroB a = true) (ib : infB b = true)  (w : World) :
    Calls Tryz.prog 16 #[.int .u64 (a : Int), .int .u64 (b : Int), .int .u64 (c : Int), .int .i64 mode] w fun e w' => e = .returned (.int .u64 ((fmaF a b c mode : Nat) : Int)) ∧ Ext w w' := by
  have hR : fmaF a b c mode = 9221120237041090560 := by rw [fma_form _ _ _ _ (Or.inr (Or.inl ib))]; simp [na, nb, nc, ia, za, ib]
  rw [hR]
  have MA := Lib.hid (refMinus_any a ha _ rfl)
  have MB := Lib.hid (refMinus_any b hb _ rfl)
  have NA := Lib.hid (refNan_any a ha false (na))
  have NB := Lib.hid (refNan_any b hb false (nb))
  have NC := Lib.hid (refNan_any c hc false (nc))
  have IA := Lib.hid (refInf_any a ha false ((kind_inf a).trans ia))
  have ZA := Lib.hid (refZero_any a ha true ((kind_zero a).trans za))
  have IB := Lib.hid (refInf_any b hb true ((kind_inf b).trans ib))
  clear hR na nb nc ia za ib
  generalize fneg a = sa at *
  generalize fneg b = sb at *
  clear ha hb hc
  cases sa <;> cases sb
  all_goals
    go_enter Tryz.func16, Tryz.ntmps16
    go_wp2_with (first | (go_at_call 66; (with_reducible refine (MA.out _).mono ?_); rintro e w' ⟨rfl, rfl⟩) | (go_at_call 66; (with_reducible refine (MB.out _).mono ?_); rintro e w' ⟨rfl, rfl⟩) | (go_at_call 56; (with_reducible refine (NA.out _).mono ?_); rintro e w' ⟨rfl, rfl⟩) | (go_at_call 56; (with_reducible refine (NB.out _).mono ?_); rintro e w' ⟨rfl, rfl⟩) | (go_at_call 56; (with_reducible refine (NC.out _).mono ?_); rintro e w' ⟨rfl, rfl⟩) | (go_at_call 57; (with_reducible refine (IA.out _).mono ?_); rintro e w' ⟨rfl, rfl⟩) | (go_at_call 58; (with_reducible refine (ZA.out _).mono ?_); rintro e w' ⟨rfl, rfl⟩) | (go_at_call 57; (with_reducible refine (IB.out _).mono ?_); rintro e w' ⟨rfl, rfl⟩))
    go_ret
    exact ⟨rfl, Below.refl _ _⟩

set_option maxRecDepth 100000 in
set_option maxHeartbeats 4000000 in
theorem refFMA_infAN (a b c : Nat) (mode : Int) (ha : a < 18446744073709551616) (hb : b < 18446744073709551616) (hc : c < 18446744073709551616) (na : nanB a = false) (nb : nanB b = false) (nc : nanB c = false) (ia : infB a = true) (zb : zeroB b = false) (za : zeroB a = false) (ic : infB c = true) (hm : fneg c ≠ (fneg a != fneg b)) (w : World) :
    Calls Tryz.prog 16 #[.int .u64 (a : Int), .int .u64 (b : Int), .int .u64 (c : Int), .int .i64 mode] w fun e w' => e = .returned (.int .u64 ((fmaF a b c mode : Nat) : Int)) ∧ Ext w w' := by
  have hR : fmaF a b c mode = 9221120237041090560 := by rw [fma_form _ _ _ _ (Or.inl ia)]; have hcm := inf_c hc ic (fneg a != fneg b); simp [na, nb, nc, ia, zb, za, ic, hcm, hm]
  rw [hR]
  have MA := Lib.hid (refMinus_any a ha _ rfl)
  have MB := Lib.hid (refMinus_any b hb _ rfl)
  have MC := Lib.hid (refMinus_any c hc _ rfl)
  have NA := Lib.hid (refNan_any a ha false (na))
  have NB := Lib.hid (refNan_any b hb false (nb))
  have NC := Lib.hid (refNan_any c hc false (nc))
  have IA := Lib.hid (refInf_any a ha true ((kind_inf a).trans ia))
  have ZB := Lib.hid (refZero_any b hb false ((kind_zero b).trans zb))
  have ZA := Lib.hid (refZero_any a ha false ((kind_zero a).trans za))
  have IC := Lib.hid (refInf_any c hc true ((kind_inf c).trans ic))
  clear hR na nb nc ia zb za ic
  have HM := Lib.hid hm
  clear hm
  generalize fneg a = sa at *
  generalize fneg b = sb at *
  generalize fneg c = sc at *
  clear ha hb hc
  have hm := HM.out
  clear HM
  cases sa <;> cases sb <;> cases sc
  all_goals (first | exact absurd hm (by decide) | clear hm)
  all_goals
    go_enter Tryz.func16, Tryz.ntmps16
    go_wp2_with (first | (go_at_call 66; (with_reducible refine (MA.out _).mono ?_); rintro e w' ⟨rfl, rfl⟩) | (go_at_call 66; (with_reducible refine (MB.out _).mono ?_); rintro e w' ⟨rfl, rfl⟩) | (go_at_call 66; (with_reducible refine (MC.out _).mono ?_); rintro e w' ⟨rfl, rfl⟩) | (go_at_call 56; (with_reducible refine (NA.out _).mono ?_); rintro e w' ⟨rfl, rfl⟩) | (go_at_call 56; (with_reducible refine (NB.out _).mono ?_); rintro e w' ⟨rfl, rfl⟩) | (go_at_call 56; (with_reducible refine (NC.out _).mono ?_); rintro e w' ⟨rfl, rfl⟩) | (go_at_call 57; (with_reducible refine (IA.out _).mono ?_); rintro e w' ⟨rfl, rfl⟩) | (go_at_call 58; (with_reducible refine (ZB.out _).mono ?_); rintro e w' ⟨rfl, rfl⟩) | (go_at_call 58; (with_reducible refine (ZA.out _).mono ?_); rintro e w' ⟨rfl, rfl⟩) | (go_at_call 57; (with_reducible refine (IC.out _).mono ?_); rintro e w' ⟨rfl, rfl⟩))
    go_ret
    exact ⟨rfl, Below.refl _ _⟩

set_option maxRecDepth 100000 in
set_option maxHeartbeats 4000000 in
theorem refFMA_infAS (a b c : Nat) (mode : Int) (ha : a < 18446744073709551616) (hb : b < 18446744073709551616) (hc : c < 18446744073709551616) (na : nanB a = false) (nb : nanB b = false) (nc : nanB c = false) (ia : infB a = true) (zb : zeroB b = false) (za : zeroB a = false) (ic : infB c = true) (hm : fneg c = (fneg a != fneg b)) (w : World) :
    Calls Tryz.prog 16 #[.int .u64 (a : Int), .int .u64 (b : Int), .int .u64 (c : Int), .int .i64 mode] w fun e w' => e = .returned (.int .u64 ((fmaF a b c mode : Nat) : Int)) ∧ Ext w w' := by
  have hR : fmaF a b c mode = sgz (fneg a != fneg b) + 9218868437227405312 := by rw [fma_form _ _ _ _ (Or.inl ia)]; have hcm := inf_c hc ic (fneg a != fneg b); simp [na, nb, nc, ia, zb, za, ic, hcm, hm]
  rw [hR]
  have MA := Lib.hid (refMinus_any a ha _ rfl)
  have MB := Lib.hid (refMinus_any b hb _ rfl)
  have MC := Lib.hid (refMinus_any c hc _ rfl)
  have NA := Lib.hid (refNan_any a ha false (na))
  have NB := Lib.hid (refNan_any b hb false (nb))
  have NC := Lib.hid (refNan_any c hc false (nc))
  have IA := Lib.hid (refInf_any a ha true ((kind_inf a).trans ia))
  have ZB := Lib.hid (refZero_any b hb false ((kind_zero b).trans zb))
  have ZA := Lib.hid (refZero_any a ha false ((kind_zero a).trans za))
  have IC := Lib.hid (refInf_any c hc true ((kind_inf c).trans ic))
  clear hR na nb nc ia zb za ic
  have HM := Lib.hid hm
  clear hm
  generalize fneg a = sa at *
  generalize fneg b = sb at *
  generalize fneg c = sc at *
  have SG := Lib.hid (show ∀ W, Calls Tryz.prog 67 #[.bool (sa != sb), .int .u64 9218868437227405312] W fun e w' => e = .returned (.int .u64 ((sgz (sa != sb) + 9218868437227405312 : Nat) : Int)) ∧ W = w' from fun W => refSigned_any (sa != sb) 9218868437227405312 (by omega) W)
  clear ha hb hc
  have hm := HM.out
  clear HM
  cases sa <;> cases sb <;> cases sc
  all_goals (first | exact absurd hm (by decide) | clear hm)
  all_goals
    go_enter Tryz.func16, Tryz.ntmps16
    go_wp2_with (first | (go_at_call 66; (with_reducible refine (MA.out _).mono ?_); rintro e w' ⟨rfl, rfl⟩) | (go_at_call 66; (with_reducible refine (MB.out _).mono ?_); rintro e w' ⟨rfl, rfl⟩) | (go_at_call 66; (with_reducible refine (MC.out _).mono ?_); rintro e w' ⟨rfl, rfl⟩) | (go_at_call 56; (with_reducible refine (NA.out _).mono ?_); rintro e w' ⟨rfl, rfl⟩) | (go_at_call 56; (with_reducible refine (NB.out _).mono ?_); rintro e w' ⟨rfl, rfl⟩) | (go_at_call 56; (with_reducible refine (NC.out _).mono ?_); rintro e w' ⟨rfl, rfl⟩) | (go_at_call 57; (with_reducible refine (IA.out _).mono ?_); rintro e w' ⟨rfl, rfl⟩) | (go_at_call 58; (with_reducible refine (ZB.out _).mono ?_); rintro e w' ⟨rfl, rfl⟩) | (go_at_call 58; (with_reducible refine (ZA.out _).mono ?_); rintro e w' ⟨rfl, rfl⟩) | (go_at_call 57; (with_reducible refine (IC.out _).mono ?_); rintro e w' ⟨rfl, rfl⟩) | (go_at_call 67; (refine (SG.out _).mono ?_); rintro e w' ⟨rfl, rfl⟩))
    go_ret
    exact ⟨rfl, Below.refl _ _⟩

set_option maxRecDepth 100000 in
set_option maxHeartbeats 4000000 in
theorem refFMA_infAF (a b c : Nat) (mode : Int) (ha : a < 18446744073709551616) (hb : b < 18446744073709551616) (hc : c < 18446744073709551616) (na : nanB a = false) (nb : nanB b = false) (nc : nanB c = false) (ia : infB a = true) (zb : zeroB b = false) (za : zeroB a = false) (ic : infB c = false)  (w : World) :
    Calls Tryz.prog 16 #[.int .u64 (a : Int), .int .u64 (b : Int), .int .u64 (c : Int), .int .i64 mode] w fun e w' => e = .returned (.int .u64 ((fmaF a b c mode : Nat) : Int)) ∧ Ext w w' := by
  have hR : fmaF a b c mode = sgz (fneg a != fneg b) + 9218868437227405312 := by rw [fma_form _ _ _ _ (Or.inl ia)]; simp [na, nb, nc, ia, zb, za, ic]
  rw [hR]
  have MA := Lib.hid (refMinus_any a ha _ rfl)
  have MB := Lib.hid (refMinus_any b hb _ rfl)
  have NA := Lib.hid (refNan_any a ha false (na))
  have NB := Lib.hid (refNan_any b hb false (nb))
  have NC := Lib.hid (refNan_any c hc false (nc))
  have IA := Lib.hid (refInf_any a ha true ((kind_inf a).trans ia))
  have ZB := Lib.hid (refZero_any b hb false ((kind_zero b).trans zb))
  have ZA := Lib.hid (refZero_any a ha false ((kind_zero a).trans za))
  have IC := Lib.hid (refInf_any c hc false ((kind_inf c).trans ic))
  clear hR na nb nc ia zb za ic
  generalize fneg a = sa at *
  generalize fneg b = sb at *
  have SG := Lib.hid (show ∀ W, Calls Tryz.prog 67 #[.bool (sa != sb), .int .u64 9218868437227405312] W fun e w' => e = .returned (.int .u64 ((sgz (sa != sb) + 9218868437227405312 : Nat) : Int)) ∧ W = w' from fun W => refSigned_any (sa != sb) 9218868437227405312 (by omega) W)
  clear ha hb hc
  cases sa <;> cases sb
  all_goals
    go_enter Tryz.func16, Tryz.ntmps16
    go_wp2_with (first | (go_at_call 66; (with_reducible refine (MA.out _).mono ?_); rintro e w' ⟨rfl, rfl⟩) | (go_at_call 66; (with_reducible refine (MB.out _).mono ?_); rintro e w' ⟨rfl, rfl⟩) | (go_at_call 56; (with_reducible refine (NA.out _).mono ?_); rintro e w' ⟨rfl, rfl⟩) | (go_at_call 56; (with_reducible refine (NB.out _).mono ?_); rintro e w' ⟨rfl, rfl⟩) | (go_at_call 56; (with_reducible refine (NC.out _).mono ?_); rintro e w' ⟨rfl, rfl⟩) | (go_at_call 57; (with_reducible refine (IA.out _).mono ?_); rintro e w' ⟨rfl, rfl⟩) | (go_at_call 58; (with_reducible refine (ZB.out _).mono ?_); rintro e w' ⟨rfl, rfl⟩) | (go_at_call 58; (with_reducible refine (ZA.out _).mono ?_); rintro e w' ⟨rfl, rfl⟩) | (go_at_call 57; (with_reducible refine (IC.out _).mono ?_); rintro e w' ⟨rfl, rfl⟩) | (go_at_call 67; (refine (SG.out _).mono ?_); rintro e w' ⟨rfl, rfl⟩))
    go_ret
    exact ⟨rfl, Below.refl _ _⟩

set_option maxRecDepth 100000 in
set_option maxHeartbeats 4000000 in
theorem refFMA_infBN (a b c : Nat) (mode : Int) (ha : a < 18446744073709551616) (hb : b < 18446744073709551616) (hc : c < 18446744073709551616) (na : nanB a = false) (nb : nanB b = false) (nc : nanB c = false) (ia : infB a = false) (ib : infB b = true) (zb : zeroB b = false) (za : zeroB a = false) (ic : infB c = true) (hm : fneg c ≠ (fneg a != fneg b)) (w : World) :
    Calls Tryz.prog 16 #[.int .u64 (a : Int), .int .u64 (b : Int), .int .u64 (c : Int), .int .i64 mode] w fun e w' => e = .returned (.int .u64 ((fmaF a b c mode : Nat) : Int)) ∧ Ext w w' := by
  have hR : fmaF a b c mode = 9221120237041090560 := by rw [fma_form _ _ _ _ (Or.inr (Or.inl ib))]; have hcm := inf_c hc ic (fneg a != fneg b); simp [na, nb, nc, ia, ib, zb, za, ic, hcm, hm]
  rw [hR]
  have MA := Lib.hid (refMinus_any a ha _ rfl)
  have MB := Lib.hid (refMinus_any b hb _ rfl)
  have MC := Lib.hid (refMinus_any c hc _ rfl)
  have NA := Lib.hid (refNan_any a ha false (na))
  have NB := Lib.hid (refNan_any b hb false (nb))
  have NC := Lib.hid (refNan_any c hc false (nc))
  have IA := Lib.hid (refInf_any a ha false ((kind_inf a).trans ia))
  have IB := Lib.hid (refInf_any b hb true ((kind_inf b).trans ib))
  have ZB := Lib.hid (refZero_any b hb false ((kind_zero b).trans zb))
  have ZA := Lib.hid (refZero_any a ha false ((kind_zero a).trans za))
  have IC := Lib.hid (refInf_any c hc true ((kind_inf c).trans ic))
  clear hR na nb nc ia ib zb za ic
  have HM := Lib.hid hm
  clear hm
  generalize fneg a = sa at *
  generalize fneg b = sb at *
  generalize fneg c = sc at *
  clear ha hb hc
  have hm := HM.out
  clear HM
  cases sa <;> cases sb <;> cases sc
  all_goals (first | exact absurd hm (by decide) | clear hm)
  all_goals
    go_enter Tryz.func16, Tryz.ntmps16
    go_wp2_with (first | (go_at_call 66; (with_reducible refine (MA.out _).mono ?_); rintro e w' ⟨rfl, rfl⟩) | (go_at_call 66; (with_reducible refine (MB.out _).mono ?_); rintro e w' ⟨rfl, rfl⟩) | (go_at_call 66; (with_reducible refine (MC.out _).mono ?_); rintro e w' ⟨rfl, rfl⟩) | (go_at_call 56; (with_reducible refine (NA.out _).mono ?_); rintro e w' ⟨rfl, rfl⟩) | (go_at_call 56; (with_reducible refine (NB.out _).mono ?_); rintro e w' ⟨rfl, rfl⟩) | (go_at_call 56; (with_reducible refine (NC.out _).mono ?_); rintro e w' ⟨rfl, rfl⟩) | (go_at_call 57; (with_reducible refine (IA.out _).mono ?_); rintro e w' ⟨rfl, rfl⟩) | (go_at_call 57; (with_reducible refine (IB.out _).mono ?_); rintro e w' ⟨rfl, rfl⟩) | (go_at_call 58; (with_reducible refine (ZB.out _).mono ?_); rintro e w' ⟨rfl, rfl⟩) | (go_at_call 58; (with_reducible refine (ZA.out _).mono ?_); rintro e w' ⟨rfl, rfl⟩) | (go_at_call 57; (with_reducible refine (IC.out _).mono ?_); rintro e w' ⟨rfl, rfl⟩))
    go_ret
    exact ⟨rfl, Below.refl _ _⟩

set_option maxRecDepth 100000 in
set_option maxHeartbeats 4000000 in
theorem refFMA_infBS (a b c : Nat) (mode : Int) (ha : a < 18446744073709551616) (hb : b < 18446744073709551616) (hc : c < 18446744073709551616) (na : nanB a = false) (nb : nanB b = false) (nc : nanB c = false) (ia : infB a = false) (ib : infB b = true) (zb : zeroB b = false) (za : zeroB a = false) (ic : infB c = true) (hm : fneg c = (fneg a != fneg b)) (w : World) :
    Calls Tryz.prog 16 #[.int .u64 (a : Int), .int .u64 (b : Int), .int .u64 (c : Int), .int .i64 mode] w fun e w' => e = .returned (.int .u64 ((fmaF a b c mode : Nat) : Int)) ∧ Ext w w' := by
  have hR : fmaF a b c mode = sgz (fneg a != fneg b) + 9218868437227405312 := by rw [fma_form _ _ _ _ (Or.inr (Or.inl ib))]; have hcm := inf_c hc ic (fneg a != fneg b); simp [na, nb, nc, ia, ib, zb, za, ic, hcm, hm]
  rw [hR]
  have MA := Lib.hid (refMinus_any a ha _ rfl)
  have MB := Lib.hid (refMinus_any b hb _ rfl)
  have MC := Lib.hid (refMinus_any c hc _ rfl)
  have NA := Lib.hid (refNan_any a ha false (na))
  have NB := Lib.hid (refNan_any b hb false (nb))
  have NC := Lib.hid (refNan_any c hc false (nc))
  have IA := Lib.hid (refInf_any a ha false ((kind_inf a).trans ia))
  have IB := Lib.hid (refInf_any b hb true ((kind_inf b).trans ib))
  have ZB := Lib.hid (refZero_any b hb false ((kind_zero b).trans zb))
  have ZA := Lib.hid (refZero_any a ha false ((kind_zero a).trans za))
  have IC := Lib.hid (refInf_any c hc true ((kind_inf c).trans ic))
  clear hR na nb nc ia ib zb za ic
  have HM := Lib.hid hm
  clear hm
  generalize fneg a = sa at *
  generalize fneg b = sb at *
  generalize fneg c = sc at *
  have SG := Lib.hid (show ∀ W, Calls Tryz.prog 67 #[.bool (sa != sb), .int .u64 9218868437227405312] W fun e w' => e = .returned (.int .u64 ((sgz (sa != sb) + 9218868437227405312 : Nat) : Int)) ∧ W = w' from fun W => refSigned_any (sa != sb) 9218868437227405312 (by omega) W)
  clear ha hb hc
  have hm := HM.out
  clear HM
  cases sa <;> cases sb <;> cases sc
  all_goals (first | exact absurd hm (by decide) | clear hm)
  all_goals
    go_enter Tryz.func16, Tryz.ntmps16
    go_wp2_with (first | (go_at_call 66; (with_reducible refine (MA.out _).mono ?_); rintro e w' ⟨rfl, rfl⟩) | (go_at_call 66; (with_reducible refine (MB.out _).mono ?_); rintro e w' ⟨rfl, rfl⟩) | (go_at_call 66; (with_reducible refine (MC.out _).mono ?_); rintro e w' ⟨rfl, rfl⟩) | (go_at_call 56; (with_reducible refine (NA.out _).mono ?_); rintro e w' ⟨rfl, rfl⟩) | (go_at_call 56; (with_reducible refine (NB.out _).mono ?_); rintro e w' ⟨rfl, rfl⟩) | (go_at_call 56; (with_reducible refine (NC.out _).mono ?_); rintro e w' ⟨rfl, rfl⟩) | (go_at_call 57; (with_reducible refine (IA.out _).mono ?_); rintro e w' ⟨rfl, rfl⟩) | (go_at_call 57; (with_reducible refine (IB.out _).mono ?_); rintro e w' ⟨rfl, rfl⟩) | (go_at_call 58; (with_reducible refine (ZB.out _).mono ?_); rintro e w' ⟨rfl, rfl⟩) | (go_at_call 58; (with_reducible refine (ZA.out _).mono ?_); rintro e w' ⟨rfl, rfl⟩) | (go_at_call 57; (with_reducible refine (IC.out _).mono ?_); rintro e w' ⟨rfl, rfl⟩) | (go_at_call 67; (refine (SG.out _).mono ?_); rintro e w' ⟨rfl, rfl⟩))
    go_ret
    exact ⟨rfl, Below.refl _ _⟩

set_option maxRecDepth 100000 in
set_option maxHeartbeats 4000000 in
theorem refFMA_infBF (a b c : Nat) (mode : Int) (ha : a < 18446744073709551616) (hb : b < 18446744073709551616) (hc : c < 18446744073709551616) (na : nanB a = false) (nb : nanB b = false) (nc : nanB c = false) (ia : infB a = false) (ib : infB b = true) (zb : zeroB b = false) (za : zeroB a = false) (ic : infB c = false)  (w : World) :
    Calls Tryz.prog 16 #[.int .u64 (a : Int), .int .u64 (b : Int), .int .u64 (c : Int), .int .i64 mode] w fun e w' => e = .returned (.int .u64 ((fmaF a b c mode : Nat) : Int)) ∧ Ext w w' := by
  have hR : fmaF a b c mode = sgz (fneg a != fneg b) + 9218868437227405312 := by rw [fma_form _ _ _ _ (Or.inr (Or.inl ib))]; simp [na, nb, nc, ia, ib, zb, za, ic]
  rw [hR]
  have MA := Lib.hid (refMinus_any a ha _ rfl)
  have MB := Lib.hid (refMinus_any b hb _ rfl)
  have NA := Lib.hid (refNan_any a ha false (na))
  have NB := Lib.hid (refNan_any b hb false (nb))
  have NC := Lib.hid (refNan_any c hc false (nc))
  have IA := Lib.hid (refInf_any a ha false ((kind_inf a).trans ia))
  have IB := Lib.hid (refInf_any b hb true ((kind_inf b).trans ib))
  have ZB := Lib.hid (refZero_any b hb false ((kind_zero b).trans zb))
  have ZA := Lib.hid (refZero_any a ha false ((kind_zero a).trans za))
  have IC := Lib.hid (refInf_any c hc false ((kind_inf c).trans ic))
  clear hR na nb nc ia ib zb za ic
  generalize fneg a = sa at *
  generalize fneg b = sb at *
  have SG := Lib.hid (show ∀ W, Calls Tryz.prog 67 #[.bool (sa != sb), .int .u64 9218868437227405312] W fun e w' => e = .returned (.int .u64 ((sgz (sa != sb) + 9218868437227405312 : Nat) : Int)) ∧ W = w' from fun W => refSigned_any (sa != sb) 9218868437227405312 (by omega) W)
  clear ha hb hc
  cases sa <;> cases sb
  all_goals
    go_enter Tryz.func16, Tryz.ntmps16
    go_wp2_with (first | (go_at_call 66; (with_reducible refine (MA.out _).mono ?_); rintro e w' ⟨rfl, rfl⟩) | (go_at_call 66; (with_reducible refine (MB.out _).mono ?_); rintro e w' ⟨rfl, rfl⟩) | (go_at_call 56; (with_reducible refine (NA.out _).mono ?_); rintro e w' ⟨rfl, rfl⟩) | (go_at_call 56; (with_reducible refine (NB.out _).mono ?_); rintro e w' ⟨rfl, rfl⟩) | (go_at_call 56; (with_reducible refine (NC.out _).mono ?_); rintro e w' ⟨rfl, rfl⟩) | (go_at_call 57; (with_reducible refine (IA.out _).mono ?_); rintro e w' ⟨rfl, rfl⟩) | (go_at_call 57; (with_reducible refine (IB.out _).mono ?_); rintro e w' ⟨rfl, rfl⟩) | (go_at_call 58; (with_reducible refine (ZB.out _).mono ?_); rintro e w' ⟨rfl, rfl⟩) | (go_at_call 58; (with_reducible refine (ZA.out _).mono ?_); rintro e w' ⟨rfl, rfl⟩) | (go_at_call 57; (with_reducible refine (IC.out _).mono ?_); rintro e w' ⟨rfl, rfl⟩) | (go_at_call 67; (refine (SG.out _).mono ?_); rintro e w' ⟨rfl, rfl⟩))
    go_ret
    exact ⟨rfl, Below.refl _ _⟩

set_option maxRecDepth 100000 in
set_option maxHeartbeats 4000000 in
theorem refFMA_infCn (a b c : Nat) (mode : Int) (ha : a < 18446744073709551616) (hb : b < 18446744073709551616) (hc : c < 18446744073709551616) (na : nanB a = false) (nb : nanB b = false) (nc : nanB c = false) (ia : infB a = false) (za : zeroB a = false) (ib : infB b = false) (ic : infB c = true)  (w : World) :
    Calls Tryz.prog 16 #[.int .u64 (a : Int), .int .u64 (b : Int), .int .u64 (c : Int), .int .i64 mode] w fun e w' => e = .returned (.int .u64 ((fmaF a b c mode : Nat) : Int)) ∧ Ext w w' := by
  have hR : fmaF a b c mode = c := by rw [fma_form _ _ _ _ (Or.inr (Or.inr (Or.inl ic)))]; simp [na, nb, nc, ia, za, ib, ic]
  rw [hR]
  have MA := Lib.hid (refMinus_any a ha _ rfl)
  have MB := Lib.hid (refMinus_any b hb _ rfl)
  have NA := Lib.hid (refNan_any a ha false (na))
  have NB := Lib.hid (refNan_any b hb false (nb))
  have NC := Lib.hid (refNan_any c hc false (nc))
  have IA := Lib.hid (refInf_any a ha false ((kind_inf a).trans ia))
  have ZA := Lib.hid (refZero_any a ha false ((kind_zero a).trans za))
  have IB := Lib.hid (refInf_any b hb false ((kind_inf b).trans ib))
  have IC := Lib.hid (refInf_any c hc true ((kind_inf c).trans ic))
  clear hR na nb nc ia za ib ic
  generalize fneg a = sa at *
  generalize fneg b = sb at *
  clear ha hb hc
  cases sa <;> cases sb
  all_goals
    go_enter Tryz.func16, Tryz.ntmps16
    go_wp2_with (first | (go_at_call 66; (with_reducible refine (MA.out _).mono ?_); rintro e w' ⟨rfl, rfl⟩) | (go_at_call 66; (with_reducible refine (MB.out _).mono ?_); rintro e w' ⟨rfl, rfl⟩) | (go_at_call 56; (with_reducible refine (NA.out _).mono ?_); rintro e w' ⟨rfl, rfl⟩) | (go_at_call 56; (with_reducible refine (NB.out _).mono ?_); rintro e w' ⟨rfl, rfl⟩) | (go_at_call 56; (with_reducible refine (NC.out _).mono ?_); rintro e w' ⟨rfl, rfl⟩) | (go_at_call 57; (with_reducible refine (IA.out _).mono ?_); rintro e w' ⟨rfl, rfl⟩) | (go_at_call 58; (with_reducible refine (ZA.out _).mono ?_); rintro e w' ⟨rfl, rfl⟩) | (go_at_call 57; (with_reducible refine (IB.out _).mono ?_); rintro e w' ⟨rfl, rfl⟩) | (go_at_call 57; (with_reducible refine (IC.out _).mono ?_); rintro e w' ⟨rfl, rfl⟩))
    go_ret
    exact ⟨rfl, Below.refl _ _⟩

set_option maxRecDepth 100000 in
set_option maxHeartbeats 4000000 in
theorem refFMA_infCz (a b c : Nat) (mode : Int) (ha : a < 18446744073709551616) (hb : b < 18446744073709551616) (hc : c < 18446744073709551616) (na : nanB a = false) (nb : nanB b = false) (nc : nanB c = false) (ia : infB a = false) (za : zeroB a = true) (ib : infB b = false) (ic : infB c = true)  (w : World) :
    Calls Tryz.prog 16 #[.int .u64 (a : Int), .int .u64 (b : Int), .int .u64 (c : Int), .int .i64 mode] w fun e w' => e = .returned (.int .u64 ((fmaF a b c mode : Nat) : Int)) ∧ Ext w w' := by
  have hR : fmaF a b c mode = c := by rw [fma_form _ _ _ _ (Or.inr (Or.inr (Or.inl ic)))]; simp [na, nb, nc, ia, za, ib, ic]
  rw [hR]
  have MA := Lib.hid (refMinus_any a ha _ rfl)
  have MB := Lib.hid (refMinus_any b hb _ rfl)
  have NA := Lib.hid (refNan_any a ha false (na))
  have NB := Lib.hid (refNan_any b hb false (nb))
  have NC := Lib.hid (refNan_any c hc false (nc))
  have IA := Lib.hid (refInf_any a ha false ((kind_inf a).trans ia))
  have ZA := Lib.hid (refZero_any a ha true ((kind_zero a).trans za))
  have IB := Lib.hid (refInf_any b hb false ((kind_inf b).trans ib))
  have IC := Lib.hid (refInf_any c hc true ((kind_inf c).trans ic))
  clear hR na nb nc ia za ib ic
  generalize fneg a = sa at *
  generalize fneg b = sb at *
  clear ha hb hc
  cases sa <;> cases sb
  all_goals
    go_enter Tryz.func16, Tryz.ntmps16
    go_wp2_with (first | (go_at_call 66; (with_reducible refine (MA.out _).mono ?_); rintro e w' ⟨rfl, rfl⟩) | (go_at_call 66; (with_reducible refine (MB.out _).mono ?_); rintro e w' ⟨rfl, rfl⟩) | (go_at_call 56; (with_reducible refine (NA.out _).mono ?_); rintro e w' ⟨rfl, rfl⟩) | (go_at_call 56; (with_reducible refine (NB.out _).mono ?_); rintro e w' ⟨rfl, rfl⟩) | (go_at_call 56; (with_reducible refine (NC.out _).mono ?_); rintro e w' ⟨rfl, rfl⟩) | (go_at_call 57; (with_reducible refine (IA.out _).mono ?_); rintro e w' ⟨rfl, rfl⟩) | (go_at_call 58; (with_reducible refine (ZA.out _).mono ?_); rintro e w' ⟨rfl, rfl⟩) | (go_at_call 57; (with_reducible refine (IB.out _).mono ?_); rintro e w' ⟨rfl, rfl⟩) | (go_at_call 57; (with_reducible refine (IC.out _).mono ?_); rintro e w' ⟨rfl, rfl⟩))
    go_ret
    exact ⟨rfl, Below.refl _ _⟩

set_option maxRecDepth 100000 in
set_option maxHeartbeats 8000000 in
theorem refFMA_finN (a b c : Nat) (mode : Int) (ha : a < 18446744073709551616) (hb : b < 18446744073709551616) (hc : c < 18446744073709551616) (fa : finB a = true) (fb : finB b = true) (fc : finB c = true) (za : zeroB a = false) (w : World) (hT : Table w) :
    Calls Tryz.prog 16 #[.int .u64 (a : Int), .int .u64 (b : Int), .int .u64 (c : Int), .int .i64 mode] w fun e w' => e = .returned (.int .u64 ((fmaF a b c mode : Nat) : Int)) ∧ Ext w w' := by
  have hsum := fma_fin (mode := mode) hc fa fb fc
  have na := (fin_not fa).1
  have nb := (fin_not fb).1
  have nc := (fin_not fc).1
  have ia := (fin_not fa).2
  have ib := (fin_not fb).2
  have ic := (fin_not fc).2
  have MA := Lib.hid (refMinus_any a ha _ rfl)
  have MB := Lib.hid (refMinus_any b hb _ rfl)
  have MC := Lib.hid (refMinus_any c hc _ rfl)
  have NA := Lib.hid (refNan_any a ha false (na))
  have NB := Lib.hid (refNan_any b hb false (nb))
  have NC := Lib.hid (refNan_any c hc false (nc))
  have IA := Lib.hid (refInf_any a ha false ((kind_inf a).trans ia))
  have IB := Lib.hid (refInf_any b hb false ((kind_inf b).trans ib))
  have IC := Lib.hid (refInf_any c hc false ((kind_inf c).trans ic))
  have ZA := Lib.hid (refZero_any a ha false ((kind_zero a).trans za))
  have OA := Lib.hid (fun W (hE : Ext w W) => refOf_any a ha W (hT.below hE))
  have OB := Lib.hid (fun W (hE : Ext w W) => refOf_any b hb W (hT.below hE))
  have OC := Lib.hid (fun W (hE : Ext w W) => refOf_any c hc W (hT.below hE))
  have HTT := Lib.hid (fun W (hE : Ext w W) => hT.below hE)
  clear na nb nc ia ib ic za fa fb fc hT ha hb hc
  generalize fmaF a b c mode = R at *
  generalize fneg a = sa at *
  generalize fneg b = sb at *
  generalize fneg c = sc at *
  generalize fdy a = da at *
  generalize fdy b = db at *
  generalize fdy c = dc at *
  have HS := Lib.hid hsum
  clear hsum
  have SG := Lib.hid (show ∀ W, Calls Tryz.prog 67 #[.bool (sa != sb), .int .u64 0] W fun e w' => e = .returned (.int .u64 ((sgz (sa != sb) + 0 : Nat) : Int)) ∧ W = w' from fun W => refSigned_any (sa != sb) 0 (by omega) W)
  cases sa <;> cases sb
  all_goals
    go_enter Tryz.func16, Tryz.ntmps16
    go_wp2_with (first | (go_at_call 66; (with_reducible refine (MA.out _).mono ?_); rintro e w' ⟨rfl, rfl⟩) | (go_at_call 66; (with_reducible refine (MB.out _).mono ?_); rintro e w' ⟨rfl, rfl⟩) | (go_at_call 66; (with_reducible refine (MC.out _).mono ?_); rintro e w' ⟨rfl, rfl⟩) | (go_at_call 56; (with_reducible refine (NA.out _).mono ?_); rintro e w' ⟨rfl, rfl⟩) | (go_at_call 56; (with_reducible refine (NB.out _).mono ?_); rintro e w' ⟨rfl, rfl⟩) | (go_at_call 56; (with_reducible refine (NC.out _).mono ?_); rintro e w' ⟨rfl, rfl⟩) | (go_at_call 57; (with_reducible refine (IA.out _).mono ?_); rintro e w' ⟨rfl, rfl⟩) | (go_at_call 57; (with_reducible refine (IB.out _).mono ?_); rintro e w' ⟨rfl, rfl⟩) | (go_at_call 57; (with_reducible refine (IC.out _).mono ?_); rintro e w' ⟨rfl, rfl⟩) | (go_at_call 58; (with_reducible refine (ZA.out _).mono ?_); rintro e w' ⟨rfl, rfl⟩))
    refine (OA.out _ (Below.refl _ _)).mono ?_
    rintro e w1 ⟨v, rfl, hv, hw1⟩
    go_wp2_with fail
    refine (OB.out _ hw1).mono ?_
    rintro e w2 ⟨u, rfl, hu, hw2⟩
    have h2 := Ext.trans hw1 hw2
    go_wp2_with fail
    refine (ref_dmul_any _ _ _ _ w2 (hv.ext hw2).dl hu.dl (HTT.out _ h2)).mono ?_
    rintro e w3 ⟨p, rfl, hp, hw3⟩
    have h3 := Ext.trans h2 hw3
    clear hv hu hw1 hw2 h2 hw3
    go_wp2_with fail
    refine (OC.out _ h3).mono ?_
    rintro e w4 ⟨v, rfl, hv, hw4⟩
    have h4 := Ext.trans h3 hw4
    go_wp2_with fail
    refine (ref_dadd_any _ _ _ _ w4 (hp.ext hw4).dl hv.dl (HTT.out _ h4)).mono ?_
    rintro e w5 ⟨r, rfl, hr, hw5⟩
    have h5 := Ext.trans h4 hw5
    obtain ⟨rb, rn, ro, rk, rc, re, rfl⟩ := hr.parts
    clear hv hp hw4 h3 h4 hw5
    go_upto_region 11 with fail
    obtain ⟨V, hV, hVB, hvx, hvz⟩ := dbox_new w5 rb rn ro rk rc re
    rw [← hV]
    clear hV
    have hr := hr.ext hVB
    have h6 := Ext.trans h5 hVB
    clear h5 hVB
    generalize w5.heap.size = C at *
    have k0 := hvx.c0
    have k1 := hvx.c1
    have k2 := hvx.c2
    have k3 := hvx.c3
    go_wp2_with fail
    refine (refDSign_any _ _ V hr.dl (HTT.out _ h6)).mono ?_
    rintro e w7 ⟨rfl, hw7⟩
    have hvx := hvx.below hw7
    have hr := hr.ext hw7
    have h7 := Ext.trans h6 hw7
    clear k0 k1 k2 k3 h6 hw7
    have k0 := hvx.c0
    have k1 := hvx.c1
    have k2 := hvx.c2
    have k3 := hvx.c3
    have HTw := Lib.hid (HTT.out _ h7)
    have hs := HS.out
    clear HS
    generalize dadd (dmul da db) dc = d at *
    generalize sgn3 (dm d) 0 = q at *
    obtain ⟨rfl, hn, hR⟩ | ⟨rfl, hn, hR⟩ | ⟨hq, hR⟩ := hs
    · subst hR
      subst hn
      have H7 := Lib.hid h7
      clear h7 hr
      go_wp2_with (first | (go_at_call 66; (with_reducible refine (MC.out _).mono ?_); rintro e w' ⟨rfl, rfl⟩) | (go_at_call 67; (refine (SG.out _).mono ?_); rintro e w' ⟨rfl, rfl⟩))
      go_ret
      exact ⟨rfl, H7.out⟩
    · subst hR
      have H7 := Lib.hid h7
      clear h7 hr
      cases sc
      all_goals first | exact absurd rfl hn | skip
      clear hn
      go_wp2_with (first | (go_at_call 66; (with_reducible refine (MC.out _).mono ?_); rintro e w' ⟨rfl, rfl⟩))
      refine (refEmpty_any mode _).mono ?_
      rintro e w8 ⟨rfl, rfl⟩
      go_wp2
      go_ret
      exact ⟨rfl, H7.out⟩
    · have HR := Lib.hid hR
      clear hR
      go_wp2_with fail
      refine (refRound_any _ _ mode w7 hr.dl HTw.out).mono ?_
      rintro e w8 ⟨rfl, hw8⟩
      rw [← HR.out]
      have H8 := Lib.hid (Ext.trans h7 hw8)
      clear h7 hr hw8 HR hvx k0 k1 k2 k3
      go_wp2
      go_ret
      exact ⟨rfl, H8.out⟩

set_option maxRecDepth 100000 in
set_option maxHeartbeats 8000000 in
theorem refFMA_finZ (a b c : Nat) (mode : Int) (ha : a < 18446744073709551616) (hb : b < 18446744073709551616) (hc : c < 18446744073709551616) (fa : finB a = true) (fb : finB b = true) (fc : finB c = true) (za : zeroB a = true) (w : World) (hT : Table w) :
    Calls Tryz.prog 16 #[.int .u64 (a : Int), .int .u64 (b : Int), .int .u64 (c : Int), .int .i64 mode] w fun e w' => e = .returned (.int .u64 ((fmaF a b c mode : Nat) : Int)) ∧ Ext w w' := by
  have hsum := fma_fin (mode := mode) hc fa fb fc
  have na := (fin_not fa).1
  have nb := (fin_not fb).1
  have nc := (fin_not fc).1
  have ia := (fin_not fa).2
  have ib := (fin_not fb).2
  have ic := (fin_not fc).2
  have MA := Lib.hid (refMinus_any a ha _ rfl)
  have MB := Lib.hid (refMinus_any b hb _ rfl)
  have MC := Lib.hid (refMinus_any c hc _ rfl)
  have NA := Lib.hid (refNan_any a ha false (na))
  have NB := Lib.hid (refNan_any b hb false (nb))
  have NC := Lib.hid (refNan_any c hc false (nc))
  have IA := Lib.hid (refInf_any a ha false ((kind_inf a).trans ia))
  have IB := Lib.hid (refInf_any b hb false ((kind_inf b).trans ib))
  have IC := Lib.hid (refInf_any c hc false ((kind_inf c).trans ic))
  have ZA := Lib.hid (refZero_any a ha true ((kind_zero a).trans za))
  have OA := Lib.hid (fun W (hE : Ext w W) => refOf_any a ha W (hT.below hE))
  have OB := Lib.hid (fun W (hE : Ext w W) => refOf_any b hb W (hT.below hE))
  have OC := Lib.hid (fun W (hE : Ext w W) => refOf_any c hc W (hT.below hE))
  have HTT := Lib.hid (fun W (hE : Ext w W) => hT.below hE)
  clear na nb nc ia ib ic za fa fb fc hT ha hb hc
  generalize fmaF a b c mode = R at *
  generalize fneg a = sa at *
  generalize fneg b = sb at *
  generalize fneg c = sc at *
  generalize fdy a = da at *
  generalize fdy b = db at *
  generalize fdy c = dc at *
  have HS := Lib.hid hsum
  clear hsum
  have SG := Lib.hid (show ∀ W, Calls Tryz.prog 67 #[.bool (sa != sb), .int .u64 0] W fun e w' => e = .returned (.int .u64 ((sgz (sa != sb) + 0 : Nat) : Int)) ∧ W = w' from fun W => refSigned_any (sa != sb) 0 (by omega) W)
  cases sa <;> cases sb
  all_goals
    go_enter Tryz.func16, Tryz.ntmps16
    go_wp2_with (first | (go_at_call 66; (with_reducible refine (MA.out _).mono ?_); rintro e w' ⟨rfl, rfl⟩) | (go_at_call 66; (with_reducible refine (MB.out _).mono ?_); rintro e w' ⟨rfl, rfl⟩) | (go_at_call 66; (with_reducible refine (MC.out _).mono ?_); rintro e w' ⟨rfl, rfl⟩) | (go_at_call 56; (with_reducible refine (NA.out _).mono ?_); rintro e w' ⟨rfl, rfl⟩) | (go_at_call 56; (with_reducible refine (NB.out _).mono ?_); rintro e w' ⟨rfl, rfl⟩) | (go_at_call 56; (with_reducible refine (NC.out _).mono ?_); rintro e w' ⟨rfl, rfl⟩) | (go_at_call 57; (with_reducible refine (IA.out _).mono ?_); rintro e w' ⟨rfl, rfl⟩) | (go_at_call 57; (with_reducible refine (IB.out _).mono ?_); rintro e w' ⟨rfl, rfl⟩) | (go_at_call 57; (with_reducible refine (IC.out _).mono ?_); rintro e w' ⟨rfl, rfl⟩) | (go_at_call 58; (with_reducible refine (ZA.out _).mono ?_); rintro e w' ⟨rfl, rfl⟩))
    refine (OA.out _ (Below.refl _ _)).mono ?_
    rintro e w1 ⟨v, rfl, hv, hw1⟩
    go_wp2_with fail
    refine (OB.out _ hw1).mono ?_
    rintro e w2 ⟨u, rfl, hu, hw2⟩
    have h2 := Ext.trans hw1 hw2
    go_wp2_with fail
    refine (ref_dmul_any _ _ _ _ w2 (hv.ext hw2).dl hu.dl (HTT.out _ h2)).mono ?_
    rintro e w3 ⟨p, rfl, hp, hw3⟩
    have h3 := Ext.trans h2 hw3
    clear hv hu hw1 hw2 h2 hw3
    go_wp2_with fail
    refine (OC.out _ h3).mono ?_
    rintro e w4 ⟨v, rfl, hv, hw4⟩
    have h4 := Ext.trans h3 hw4
    go_wp2_with fail
    refine (ref_dadd_any _ _ _ _ w4 (hp.ext hw4).dl hv.dl (HTT.out _ h4)).mono ?_
    rintro e w5 ⟨r, rfl, hr, hw5⟩
    have h5 := Ext.trans h4 hw5
    obtain ⟨rb, rn, ro, rk, rc, re, rfl⟩ := hr.parts
    clear hv hp hw4 h3 h4 hw5
    go_upto_region 11 with fail
    obtain ⟨V, hV, hVB, hvx, hvz⟩ := dbox_new w5 rb rn ro rk rc re
    rw [← hV]
    clear hV
    have hr := hr.ext hVB
    have h6 := Ext.trans h5 hVB
    clear h5 hVB
    generalize w5.heap.size = C at *
    have k0 := hvx.c0
    have k1 := hvx.c1
    have k2 := hvx.c2
    have k3 := hvx.c3
    go_wp2_with fail
    refine (refDSign_any _ _ V hr.dl (HTT.out _ h6)).mono ?_
    rintro e w7 ⟨rfl, hw7⟩
    have hvx := hvx.below hw7
    have hr := hr.ext hw7
    have h7 := Ext.trans h6 hw7
    clear k0 k1 k2 k3 h6 hw7
    have k0 := hvx.c0
    have k1 := hvx.c1
    have k2 := hvx.c2
    have k3 := hvx.c3
    have HTw := Lib.hid (HTT.out _ h7)
    have hs := HS.out
    clear HS
    generalize dadd (dmul da db) dc = d at *
    generalize sgn3 (dm d) 0 = q at *
    obtain ⟨rfl, hn, hR⟩ | ⟨rfl, hn, hR⟩ | ⟨hq, hR⟩ := hs
    · subst hR
      subst hn
      have H7 := Lib.hid h7
      clear h7 hr
      go_wp2_with (first | (go_at_call 66; (with_reducible refine (MC.out _).mono ?_); rintro e w' ⟨rfl, rfl⟩) | (go_at_call 67; (refine (SG.out _).mono ?_); rintro e w' ⟨rfl, rfl⟩))
      go_ret
      exact ⟨rfl, H7.out⟩
    · subst hR
      have H7 := Lib.hid h7
      clear h7 hr
      cases sc
      all_goals first | exact absurd rfl hn | skip
      clear hn
      go_wp2_with (first | (go_at_call 66; (with_reducible refine (MC.out _).mono ?_); rintro e w' ⟨rfl, rfl⟩))
      refine (refEmpty_any mode _).mono ?_
      rintro e w8 ⟨rfl, rfl⟩
      go_wp2
      go_ret
      exact ⟨rfl, H7.out⟩
    · have HR := Lib.hid hR
      clear hR
      go_wp2_with fail
      refine (refRound_any _ _ mode w7 hr.dl HTw.out).mono ?_
      rintro e w8 ⟨rfl, hw8⟩
      rw [← HR.out]
      have H8 := Lib.hid (Ext.trans h7 hw8)
      clear h7 hr hw8 HR hvx k0 k1 k2 k3
      go_wp2
      go_ret
      exact ⟨rfl, H8.out⟩

theorem refFFma_any (a b c : Nat) (mode : Int) (ha : a < 18446744073709551616) (hb : b < 18446744073709551616) (hc : c < 18446744073709551616) (w : World) (hT : Table w) :
    Calls Tryz.prog 16 #[.int .u64 (a : Int), .int .u64 (b : Int), .int .u64 (c : Int), .int .i64 mode] w fun e w' => e = .returned (.int .u64 ((fmaF a b c mode : Nat) : Int)) ∧ Ext w w' := by
  have fin_of : ∀ f, nanB f = false → infB f = false → finB f = true := fun f h1 h2 => by
    have h1 : ¬ 9218868437227405312 < fmag f := of_decide_eq_false h1
    have h2 : ¬ fmag f = 9218868437227405312 := of_decide_eq_false h2
    exact decide_eq_true (by omega)
  cases na : nanB a with
  | true => exact refFMA_nanA a b c mode ha hb hc na w
  | false =>
    cases nb : nanB b with
    | true => exact refFMA_nanB a b c mode ha hb hc na nb w
    | false =>
      cases nc : nanB c with
      | true => exact refFMA_nanC a b c mode ha hb hc na nb nc w
      | false =>
        cases ia : infB a with
        | true =>
          cases zb : zeroB b with
          | true => exact refFMA_infZ a b c mode ha hb hc na nb nc ia zb w
          | false =>
            cases ic : infB c with
            | false => exact refFMA_infAF a b c mode ha hb hc na nb nc ia zb (inf_not ia).2 ic w
            | true =>
              by_cases hm : fneg c = (fneg a != fneg b)
              · exact refFMA_infAS a b c mode ha hb hc na nb nc ia zb (inf_not ia).2 ic hm w
              · exact refFMA_infAN a b c mode ha hb hc na nb nc ia zb (inf_not ia).2 ic hm w
        | false =>
          cases ib : infB b with
          | true =>
            cases za : zeroB a with
            | true => exact refFMA_zInf a b c mode ha hb hc na nb nc ia za ib w
            | false =>
              cases ic : infB c with
              | false => exact refFMA_infBF a b c mode ha hb hc na nb nc ia ib (inf_not ib).2 za ic w
              | true =>
                by_cases hm : fneg c = (fneg a != fneg b)
                · exact refFMA_infBS a b c mode ha hb hc na nb nc ia ib (inf_not ib).2 za ic hm w
                · exact refFMA_infBN a b c mode ha hb hc na nb nc ia ib (inf_not ib).2 za ic hm w
          | false =>
            cases ic : infB c with
            | true =>
              cases za : zeroB a with
              | true => exact refFMA_infCz a b c mode ha hb hc na nb nc ia za ib ic w
              | false => exact refFMA_infCn a b c mode ha hb hc na nb nc ia za ib ic w
            | false =>
              cases za : zeroB a with
              | true => exact refFMA_finZ a b c mode ha hb hc (fin_of a na ia) (fin_of b nb ib) (fin_of c nc ic) za w hT
              | false => exact refFMA_finN a b c mode ha hb hc (fin_of a na ia) (fin_of b nb ib) (fin_of c nc ic) za w hT
end Go.Proofs.YtolghagbpnjpgaaGreatDoor
