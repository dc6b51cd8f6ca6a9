import Derived.Test.YtolghagbpnjpgaaGreatDoorFExactU37
import Derived.Test.YtolghagbpnjpgaaGreatDoorFExactU43
namespace Go.Proofs.YtolghagbpnjpgaaGreatDoor
open Go.RowKit

theorem finB_of {f : Nat} (h1 : nanB f = false) (h2 : infB f = false) : finB f = true := by
  have h1 : ¬ 9218868437227405312 < fmag f := of_decide_eq_false h1
  have h2 : ¬ fmag f = 9218868437227405312 := of_decide_eq_false h2
  exact decide_eq_true (by omega)

set_option maxRecDepth 100000 in
set_option maxHeartbeats 4000000 in
theorem refDiv_nanA (a b : Nat) (mode : Int) (ha : a < 18446744073709551616) (hb : b < 18446744073709551616) (na : nanB a = true)  (w : World) :
    Calls Tryz.prog 14 #[.int .u64 (a : Int), .int .u64 (b : Int), .int .i64 mode] w fun e w' => e = .returned (.int .u64 ((fdivF a b mode : Nat) : Int)) ∧ Ext w w' := by
  have hR : fdivF a b mode = 9221120237041090560 := by rw [fdiv_form]; simp [na]
  rw [hR]
  have MA := Lib.hid (refMinus_any a ha _ rfl)
  have MB := Lib.hid (refMinus_any b hb _ rfl)
  have NA := Lib.hid (refNan_any a ha true (na))
  clear hR na
  generalize fneg a = sa at *
  generalize fneg b = sb at *
  clear ha hb
  cases sa <;> cases sb
  all_goals
    go_enter Tryz.func14, Tryz.ntmps14
    go_wp2_with (first | (go_at_call 66; (with_reducible refine (MA.out _).mono ?_); rintro e w' ⟨rfl, rfl⟩) | (go_at_call 66; (with_reducible refine (MB.out _).mono ?_); rintro e w' ⟨rfl, rfl⟩) | (go_at_call 56; (with_reducible refine (NA.out _).mono ?_); rintro e w' ⟨rfl, rfl⟩))
    go_ret
    exact ⟨rfl, Below.refl _ _⟩

set_option maxRecDepth 100000 in
set_option maxHeartbeats 4000000 in
theorem refDiv_nanB (a b : Nat) (mode : Int) (ha : a < 18446744073709551616) (hb : b < 18446744073709551616) (na : nanB a = false) (nb : nanB b = true)  (w : World) :
    Calls Tryz.prog 14 #[.int .u64 (a : Int), .int .u64 (b : Int), .int .i64 mode] w fun e w' => e = .returned (.int .u64 ((fdivF a b mode : Nat) : Int)) ∧ Ext w w' := by
  have hR : fdivF a b mode = 9221120237041090560 := by rw [fdiv_form]; simp [na, nb]
  rw [hR]
  have MA := Lib.hid (refMinus_any a ha _ rfl)
  have MB := Lib.hid (refMinus_any b hb _ rfl)
  have NA := Lib.hid (refNan_any a ha false (na))
  have NB := Lib.hid (refNan_any b hb true (nb))
  clear hR na nb
  generalize fneg a = sa at *
  generalize fneg b = sb at *
  clear ha hb
  cases sa <;> cases sb
  all_goals
    go_enter Tryz.func14, Tryz.ntmps14
    go_wp2_with (first | (go_at_call 66; (with_reducible refine (MA.out _).mono ?_); rintro e w' ⟨rfl, rfl⟩) | (go_at_call 66; (with_reducible refine (MB.out _).mono ?_); rintro e w' ⟨rfl, rfl⟩) | (go_at_call 56; (with_reducible refine (NA.out _).mono ?_); rintro e w' ⟨rfl, rfl⟩) | (go_at_call 56; (with_reducible refine (NB.out _).mono ?_); rintro e w' ⟨rfl, rfl⟩))
    go_ret
    exact ⟨rfl, Below.refl _ _⟩

set_option maxRecDepth 100000 in
set_option maxHeartbeats 4000000 in
theorem refDiv_infI (a b : Nat) (mode : Int) (ha : a < 18446744073709551616) (hb : b < 18446744073709551616) (na : nanB a = false) (nb : nanB b = false) (ia : infB a = true) (ib : infB b = true)  (w : World) :
    Calls Tryz.prog 14 #[.int .u64 (a : Int), .int .u64 (b : Int), .int .i64 mode] w fun e w' => e = .returned (.int .u64 ((fdivF a b mode : Nat) : Int)) ∧ Ext w w' := by
  have hR : fdivF a b mode = 9221120237041090560 := by rw [fdiv_form]; simp [na, nb, ia, ib]
  rw [hR]
  have MA := Lib.hid (refMinus_any a ha _ rfl)
  have MB := Lib.hid (refMinus_any b hb _ rfl)
  have NA := Lib.hid (refNan_any a ha false (na))
  have NB := Lib.hid (refNan_any b hb false (nb))
  have IA := Lib.hid (refInf_any a ha true ((kind_inf a).trans ia))
  have IB := Lib.hid (refInf_any b hb true ((kind_inf b).trans ib))
  clear hR na nb ia ib
  generalize fneg a = sa at *
  generalize fneg b = sb at *
  clear ha hb
  cases sa <;> cases sb
  all_goals
    go_enter Tryz.func14, Tryz.ntmps14
    go_wp2_with (first | (go_at_call 66; (with_reducible refine (MA.out _).mono ?_); rintro e w' ⟨rfl, rfl⟩) | (go_at_call 66; (with_reducible refine (MB.out _).mono ?_); rintro e w' ⟨rfl, rfl⟩) | (go_at_call 56; (with_reducible refine (NA.out _).mono ?_); rintro e w' ⟨rfl, rfl⟩) | (go_at_call 56; (with_reducible refine (NB.out _).mono ?_); rintro e w' ⟨rfl, rfl⟩) | (go_at_call 57; (with_reducible refine (IA.out _).mono ?_); rintro e w' ⟨rfl, rfl⟩) | (go_at_call 57; (with_reducible refine (IB.out _).mono ?_); rintro e w' ⟨rfl, rfl⟩))
    go_ret
    exact ⟨rfl, Below.refl _ _⟩

set_option maxRecDepth 100000 in
set_option maxHeartbeats 4000000 in
theorem refDiv_zeroZ (a b : Nat) (mode : Int) (ha : a < 18446744073709551616) (hb : b < 18446744073709551616) (na : nanB a = false) (nb : nanB b = false) (ia : infB a = false) (za : zeroB a = true) (zb : zeroB b = true)  (w : World) :
    Calls Tryz.prog 14 #[.int .u64 (a : Int), .int .u64 (b : Int), .int .i64 mode] w fun e w' => e = .returned (.int .u64 ((fdivF a b mode : Nat) : Int)) ∧ Ext w w' := by
  have hR : fdivF a b mode = 9221120237041090560 := by rw [fdiv_form]; simp [na, nb, ia, za, zb]
  rw [hR]
  have MA := Lib.hid (refMinus_any a ha _ rfl)
  have MB := Lib.hid (refMinus_any b hb _ rfl)
  have NA := Lib.hid (refNan_any a ha false (na))
  have NB := Lib.hid (refNan_any b hb false (nb))
  have IA := Lib.hid (refInf_any a ha false ((kind_inf a).trans ia))
  have ZA := Lib.hid (refZero_any a ha true ((kind_zero a).trans za))
  have ZB := Lib.hid (refZero_any b hb true ((kind_zero b).trans zb))
  clear hR na nb ia za zb
  generalize fneg a = sa at *
  generalize fneg b = sb at *
  clear ha hb
  cases sa <;> cases sb
  all_goals
    go_enter Tryz.func14, Tryz.ntmps14
    go_wp2_with (first | (go_at_call 66; (with_reducible refine (MA.out _).mono ?_); rintro e w' ⟨rfl, rfl⟩) | (go_at_call 66; (with_reducible refine (MB.out _).mono ?_); rintro e w' ⟨rfl, rfl⟩) | (go_at_call 56; (with_reducible refine (NA.out _).mono ?_); rintro e w' ⟨rfl, rfl⟩) | (go_at_call 56; (with_reducible refine (NB.out _).mono ?_); rintro e w' ⟨rfl, rfl⟩) | (go_at_call 57; (with_reducible refine (IA.out _).mono ?_); rintro e w' ⟨rfl, rfl⟩) | (go_at_call 58; (with_reducible refine (ZA.out _).mono ?_); rintro e w' ⟨rfl, rfl⟩) | (go_at_call 58; (with_reducible refine (ZB.out _).mono ?_); rintro e w' ⟨rfl, rfl⟩))
    go_ret
    exact ⟨rfl, Below.refl _ _⟩

set_option maxRecDepth 100000 in
set_option maxHeartbeats 4000000 in
theorem refDiv_infA (a b : Nat) (mode : Int) (ha : a < 18446744073709551616) (hb : b < 18446744073709551616) (na : nanB a = false) (nb : nanB b = false) (ia : infB a = true) (ib : infB b = false) (za : zeroB a = false)  (w : World) :
    Calls Tryz.prog 14 #[.int .u64 (a : Int), .int .u64 (b : Int), .int .i64 mode] w fun e w' => e = .returned (.int .u64 ((fdivF a b mode : Nat) : Int)) ∧ Ext w w' := by
  have hR : fdivF a b mode = sgz (fneg a != fneg b) + 9218868437227405312 := by rw [fdiv_form]; simp [na, nb, ia, ib, za]
  rw [hR]
  have MA := Lib.hid (refMinus_any a ha _ rfl)
  have MB := Lib.hid (refMinus_any b hb _ rfl)
  have NA := Lib.hid (refNan_any a ha false (na))
  have NB := Lib.hid (refNan_any b hb false (nb))
  have IA := Lib.hid (refInf_any a ha true ((kind_inf a).trans ia))
  have IB := Lib.hid (refInf_any b hb false ((kind_inf b).trans ib))
  have ZA := Lib.hid (refZero_any a ha false ((kind_zero a).trans za))
  clear hR na nb ia ib za
  generalize fneg a = sa at *
  generalize fneg b = sb at *
  have SG := Lib.hid (show ∀ W, Calls Tryz.prog 67 #[.bool (sa != sb), .int .u64 9218868437227405312] W fun e w' => e = .returned (.int .u64 ((sgz (sa != sb) + 9218868437227405312 : Nat) : Int)) ∧ W = w' from fun W => refSigned_any (sa != sb) 9218868437227405312 (by omega) W)
  clear ha hb
  cases sa <;> cases sb
  all_goals
    go_enter Tryz.func14, Tryz.ntmps14
    go_wp2_with (first | (go_at_call 66; (with_reducible refine (MA.out _).mono ?_); rintro e w' ⟨rfl, rfl⟩) | (go_at_call 66; (with_reducible refine (MB.out _).mono ?_); rintro e w' ⟨rfl, rfl⟩) | (go_at_call 56; (with_reducible refine (NA.out _).mono ?_); rintro e w' ⟨rfl, rfl⟩) | (go_at_call 56; (with_reducible refine (NB.out _).mono ?_); rintro e w' ⟨rfl, rfl⟩) | (go_at_call 57; (with_reducible refine (IA.out _).mono ?_); rintro e w' ⟨rfl, rfl⟩) | (go_at_call 57; (with_reducible refine (IB.out _).mono ?_); rintro e w' ⟨rfl, rfl⟩) | (go_at_call 58; (with_reducible refine (ZA.out _).mono ?_); rintro e w' ⟨rfl, rfl⟩) | (go_at_call 67; (refine (SG.out _).mono ?_); rintro e w' ⟨rfl, rfl⟩))
    go_ret
    exact ⟨rfl, Below.refl _ _⟩

set_option maxRecDepth 100000 in
set_option maxHeartbeats 4000000 in
theorem refDiv_byZ (a b : Nat) (mode : Int) (ha : a < 18446744073709551616) (hb : b < 18446744073709551616) (na : nanB a = false) (nb : nanB b = false) (ia : infB a = false) (za : zeroB a = false) (zb : zeroB b = true)  (w : World) :
    Calls Tryz.prog 14 #[.int .u64 (a : Int), .int .u64 (b : Int), .int .i64 mode] w fun e w' => e = .returned (.int .u64 ((fdivF a b mode : Nat) : Int)) ∧ Ext w w' := by
  have hR : fdivF a b mode = sgz (fneg a != fneg b) + 9218868437227405312 := by rw [fdiv_form]; simp [na, nb, ia, za, zb]
  rw [hR]
  have MA := Lib.hid (refMinus_any a ha _ rfl)
  have MB := Lib.hid (refMinus_any b hb _ rfl)
  have NA := Lib.hid (refNan_any a ha false (na))
  have NB := Lib.hid (refNan_any b hb false (nb))
  have IA := Lib.hid (refInf_any a ha false ((kind_inf a).trans ia))
  have ZA := Lib.hid (refZero_any a ha false ((kind_zero a).trans za))
  have ZB := Lib.hid (refZero_any b hb true ((kind_zero b).trans zb))
  clear hR na nb ia za zb
  generalize fneg a = sa at *
  generalize fneg b = sb at *
  have SG := Lib.hid (show ∀ W, Calls Tryz.prog 67 #[.bool (sa != sb), .int .u64 9218868437227405312] W fun e w' => e = .returned (.int .u64 ((sgz (sa != sb) + 9218868437227405312 : Nat) : Int)) ∧ W = w' from fun W => refSigned_any (sa != sb) 9218868437227405312 (by omega) W)
  clear ha hb
  cases sa <;> cases sb
  all_goals
    go_enter Tryz.func14, Tryz.ntmps14
    go_wp2_with (first | (go_at_call 66; (with_reducible refine (MA.out _).mono ?_); rintro e w' ⟨rfl, rfl⟩) | (go_at_call 66; (with_reducible refine (MB.out _).mono ?_); rintro e w' ⟨rfl, rfl⟩) | (go_at_call 56; (with_reducible refine (NA.out _).mono ?_); rintro e w' ⟨rfl, rfl⟩) | (go_at_call 56; (with_reducible refine (NB.out _).mono ?_); rintro e w' ⟨rfl, rfl⟩) | (go_at_call 57; (with_reducible refine (IA.out _).mono ?_); rintro e w' ⟨rfl, rfl⟩) | (go_at_call 58; (with_reducible refine (ZA.out _).mono ?_); rintro e w' ⟨rfl, rfl⟩) | (go_at_call 58; (with_reducible refine (ZB.out _).mono ?_); rintro e w' ⟨rfl, rfl⟩) | (go_at_call 67; (refine (SG.out _).mono ?_); rintro e w' ⟨rfl, rfl⟩))
    go_ret
    exact ⟨rfl, Below.refl _ _⟩

set_option maxRecDepth 100000 in
set_option maxHeartbeats 4000000 in
theorem refDiv_zeroA (a b : Nat) (mode : Int) (ha : a < 18446744073709551616) (hb : b < 18446744073709551616) (na : nanB a = false) (nb : nanB b = false) (ia : infB a = false) (za : zeroB a = true) (zb : zeroB b = false)  (w : World) :
    Calls Tryz.prog 14 #[.int .u64 (a : Int), .int .u64 (b : Int), .int .i64 mode] w fun e w' => e = .returned (.int .u64 ((fdivF a b mode : Nat) : Int)) ∧ Ext w w' := by
  have hR : fdivF a b mode = sgz (fneg a != fneg b) + 0 := by rw [fdiv_form]; simp [na, nb, ia, za, zb]
  rw [hR]
  have MA := Lib.hid (refMinus_any a ha _ rfl)
  have MB := Lib.hid (refMinus_any b hb _ rfl)
  have NA := Lib.hid (refNan_any a ha false (na))
  have NB := Lib.hid (refNan_any b hb false (nb))
  have IA := Lib.hid (refInf_any a ha false ((kind_inf a).trans ia))
  have ZA := Lib.hid (refZero_any a ha true ((kind_zero a).trans za))
  have ZB := Lib.hid (refZero_any b hb false ((kind_zero b).trans zb))
  clear hR na nb ia za zb
  generalize fneg a = sa at *
  generalize fneg b = sb at *
  have SG := Lib.hid (show ∀ W, Calls Tryz.prog 67 #[.bool (sa != sb), .int .u64 0] W fun e w' => e = .returned (.int .u64 ((sgz (sa != sb) + 0 : Nat) : Int)) ∧ W = w' from fun W => refSigned_any (sa != sb) 0 (by omega) W)
  clear ha hb
  cases sa <;> cases sb
  all_goals
    go_enter Tryz.func14, Tryz.ntmps14
    go_wp2_with (first | (go_at_call 66; (with_reducible refine (MA.out _).mono ?_); rintro e w' ⟨rfl, rfl⟩) | (go_at_call 66; (with_reducible refine (MB.out _).mono ?_); rintro e w' ⟨rfl, rfl⟩) | (go_at_call 56; (with_reducible refine (NA.out _).mono ?_); rintro e w' ⟨rfl, rfl⟩) | (go_at_call 56; (with_reducible refine (NB.out _).mono ?_); rintro e w' ⟨rfl, rfl⟩) | (go_at_call 57; (with_reducible refine (IA.out _).mono ?_); rintro e w' ⟨rfl, rfl⟩) | (go_at_call 58; (with_reducible refine (ZA.out _).mono ?_); rintro e w' ⟨rfl, rfl⟩) | (go_at_call 58; (with_reducible refine (ZB.out _).mono ?_); rintro e w' ⟨rfl, rfl⟩) | (go_at_call 67; (refine (SG.out _).mono ?_); rintro e w' ⟨rfl, rfl⟩))
    go_ret
    exact ⟨rfl, Below.refl _ _⟩

set_option maxRecDepth 100000 in
set_option maxHeartbeats 4000000 in
theorem refDiv_infB (a b : Nat) (mode : Int) (ha : a < 18446744073709551616) (hb : b < 18446744073709551616) (na : nanB a = false) (nb : nanB b = false) (ia : infB a = false) (za : zeroB a = false) (ib : infB b = true) (zb : zeroB b = false)  (w : World) :
    Calls Tryz.prog 14 #[.int .u64 (a : Int), .int .u64 (b : Int), .int .i64 mode] w fun e w' => e = .returned (.int .u64 ((fdivF a b mode : Nat) : Int)) ∧ Ext w w' := by
  have hR : fdivF a b mode = sgz (fneg a != fneg b) + 0 := by rw [fdiv_form]; simp [na, nb, ia, za, ib, zb]
  rw [hR]
  have MA := Lib.hid (refMinus_any a ha _ rfl)
  have MB := Lib.hid (refMinus_any b hb _ rfl)
  have NA := Lib.hid (refNan_any a ha false (na))
  have NB := Lib.hid (refNan_any b hb false (nb))
  have IA := Lib.hid (refInf_any a ha false ((kind_inf a).trans ia))
  have ZA := Lib.hid (refZero_any a ha false ((kind_zero a).trans za))
  have IB := Lib.hid (refInf_any b hb true ((kind_inf b).trans ib))
  have ZB := Lib.hid (refZero_any b hb false ((kind_zero b).trans zb))
  clear hR na nb ia za ib zb
  generalize fneg a = sa at *
  generalize fneg b = sb at *
  have SG := Lib.hid (show ∀ W, Calls Tryz.prog 67 #[.bool (sa != sb), .int .u64 0] W fun e w' => e = .returned (.int .u64 ((sgz (sa != sb) + 0 : Nat) : Int)) ∧ W = w' from fun W => refSigned_any (sa != sb) 0 (by omega) W)
  clear ha hb
  cases sa <;> cases sb
  all_goals
    go_enter Tryz.func14, Tryz.ntmps14
    go_wp2_with (first | (go_at_call 66; (with_reducible refine (MA.out _).mono ?_); rintro e w' ⟨rfl, rfl⟩) | (go_at_call 66; (with_reducible refine (MB.out _).mono ?_); rintro e w' ⟨rfl, rfl⟩) | (go_at_call 56; (with_reducible refine (NA.out _).mono ?_); rintro e w' ⟨rfl, rfl⟩) | (go_at_call 56; (with_reducible refine (NB.out _).mono ?_); rintro e w' ⟨rfl, rfl⟩) | (go_at_call 57; (with_reducible refine (IA.out _).mono ?_); rintro e w' ⟨rfl, rfl⟩) | (go_at_call 58; (with_reducible refine (ZA.out _).mono ?_); rintro e w' ⟨rfl, rfl⟩) | (go_at_call 57; (with_reducible refine (IB.out _).mono ?_); rintro e w' ⟨rfl, rfl⟩) | (go_at_call 58; (with_reducible refine (ZB.out _).mono ?_); rintro e w' ⟨rfl, rfl⟩) | (go_at_call 67; (refine (SG.out _).mono ?_); rintro e w' ⟨rfl, rfl⟩))
    go_ret
    exact ⟨rfl, Below.refl _ _⟩

set_option maxRecDepth 100000 in
set_option maxHeartbeats 4000000 in
theorem refDiv_fin (a b : Nat) (mode : Int) (ha : a < 18446744073709551616) (hb : b < 18446744073709551616) (fa : finB a = true) (fb : finB b = true) (za : zeroB a = false) (zb : zeroB b = false) (w : World) (hT : Table w) :
    Calls Tryz.prog 14 #[.int .u64 (a : Int), .int .u64 (b : Int), .int .i64 mode] w fun e w' => e = .returned (.int .u64 ((fdivF a b mode : Nat) : Int)) ∧ Ext w w' := by
  rw [fdiv_fin fa fb za zb]
  have na := (fin_not fa).1
  have nb := (fin_not fb).1
  have ia := (fin_not fa).2
  have ib := (fin_not fb).2
  have MA := Lib.hid (refMinus_any a ha _ rfl)
  have MB := Lib.hid (refMinus_any b hb _ rfl)
  have NA := Lib.hid (refNan_any a ha false (na))
  have NB := Lib.hid (refNan_any b hb false (nb))
  have IA := Lib.hid (refInf_any a ha false ((kind_inf a).trans ia))
  have IB := Lib.hid (refInf_any b hb false ((kind_inf b).trans ib))
  have ZA := Lib.hid (refZero_any a ha false ((kind_zero a).trans za))
  have ZB := Lib.hid (refZero_any b hb false ((kind_zero b).trans zb))
  have OA := Lib.hid (fun W (hE : Ext w W) => refOf_any a ha W (hT.below hE))
  have OB := Lib.hid (fun W (hE : Ext w W) => refOf_any b hb W (hT.below hE))
  have HTT := Lib.hid (fun W (hE : Ext w W) => hT.below hE)
  clear na nb ia ib za zb fa fb hT ha hb
  generalize fneg a = sa at *
  generalize fneg b = sb at *
  generalize fdy a = da at *
  generalize fdy b = db at *
  go_enter Tryz.func14, Tryz.ntmps14
  go_wp2_with (first | (go_at_call 66; (with_reducible refine (MA.out _).mono ?_); rintro e w' ⟨rfl, rfl⟩) | (go_at_call 66; (with_reducible refine (MB.out _).mono ?_); rintro e w' ⟨rfl, rfl⟩) | (go_at_call 56; (with_reducible refine (NA.out _).mono ?_); rintro e w' ⟨rfl, rfl⟩) | (go_at_call 56; (with_reducible refine (NB.out _).mono ?_); rintro e w' ⟨rfl, rfl⟩) | (go_at_call 57; (with_reducible refine (IA.out _).mono ?_); rintro e w' ⟨rfl, rfl⟩) | (go_at_call 57; (with_reducible refine (IB.out _).mono ?_); rintro e w' ⟨rfl, rfl⟩) | (go_at_call 58; (with_reducible refine (ZA.out _).mono ?_); rintro e w' ⟨rfl, rfl⟩) | (go_at_call 58; (with_reducible refine (ZB.out _).mono ?_); rintro e w' ⟨rfl, rfl⟩))
  refine (OA.out _ (Below.refl _ _)).mono ?_
  rintro e w1 ⟨v, rfl, hv, hw1⟩
  go_wp2_with fail
  refine (OB.out _ hw1).mono ?_
  rintro e w2 ⟨u, rfl, hu, hw2⟩
  have h2 := Ext.trans hw1 hw2
  go_wp2_with fail
  refine (refQuoF_any _ _ _ _ mode w2 (hv.ext hw2).dl hu.dl (HTT.out _ h2)).mono ?_
  rintro e w3 ⟨rfl, hw3⟩
  have H3 := Lib.hid (Ext.trans h2 hw3)
  clear hv hu hw1 hw2 h2 hw3
  go_wp2
  go_ret
  exact ⟨rfl, H3.out⟩

theorem refFDiv_any (a b : Nat) (mode : Int) (ha : a < 18446744073709551616) (hb : b < 18446744073709551616) (w : World) (hT : Table w) :
    Calls Tryz.prog 14 #[.int .u64 (a : Int), .int .u64 (b : Int), .int .i64 mode] w fun e w' => e = .returned (.int .u64 ((fdivF a b mode : Nat) : Int)) ∧ Ext w w' := by
  cases na : nanB a with
  | true => exact refDiv_nanA a b mode ha hb na w
  | false =>
    cases nb : nanB b with
    | true => exact refDiv_nanB a b mode ha hb na nb w
    | false =>
      cases ia : infB a with
      | true =>
        cases ib : infB b with
        | true => exact refDiv_infI a b mode ha hb na nb ia ib w
        | false => exact refDiv_infA a b mode ha hb na nb ia ib (inf_not ia).2 w
      | false =>
        cases za : zeroB a with
        | true =>
          cases zb : zeroB b with
          | true => exact refDiv_zeroZ a b mode ha hb na nb ia za zb w
          | false => exact refDiv_zeroA a b mode ha hb na nb ia za zb w
        | false =>
          cases zb : zeroB b with
          | true => exact refDiv_byZ a b mode ha hb na nb ia za zb w
          | false =>
            cases ib : infB b with
            | true => exact refDiv_infB a b mode ha hb na nb ia za ib zb w
            | false => exact refDiv_fin a b mode ha hb (finB_of na ia) (finB_of nb ib) za zb w hT
end Go.Proofs.YtolghagbpnjpgaaGreatDoor
