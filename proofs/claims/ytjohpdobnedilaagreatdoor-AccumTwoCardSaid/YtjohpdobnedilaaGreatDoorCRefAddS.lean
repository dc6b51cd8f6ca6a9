/- The reference's sum of floats: what it answers where an argument is not finite. -/
import Derived.Test.YtjohpdobnedilaaGreatDoorCRef03K
import Derived.Test.YtjohpdobnedilaaGreatDoorGv
namespace Go.Proofs.YtjohpdobnedilaaGreatDoor
open Go.RowKit

theorem kind_inf (f : Nat) : (fkind f == 2) = infB f := by
  have h := fkind_cases f
  unfold infB
  generalize fkind f = k at *
  generalize fmag f = m at *
  by_cases h1 : m = 9218868437227405312
  · rw [decide_eq_true h1, beq_iff_eq]; omega
  · rw [decide_eq_false h1, beq_eq_false_iff_ne]; omega
theorem kind_zero (f : Nat) : (fkind f == 0) = zeroB f := by
  have h := fkind_cases f
  unfold zeroB
  generalize fkind f = k at *
  generalize fmag f = m at *
  by_cases h1 : m = 0
  · rw [decide_eq_true h1, beq_iff_eq]; omega
  · rw [decide_eq_false h1, beq_eq_false_iff_ne]; omega
theorem inf_self {a : Nat} (ha : a < 18446744073709551616) (hi : infB a = true) : a = 9218868437227405312 + sgz (fneg a) := by
  have h1 := f_parts ha
  have h2 : fmag a = 9218868437227405312 := of_decide_eq_true hi
  omega
theorem fadd_nan {a b : Nat} {mode : Int} (h : (nanB a || nanB b) = true) : faddF a b mode = 9221120237041090560 := by
  unfold faddF
  rw [add_form, h]
  rfl
theorem fadd_inf2 {a b : Nat} {mode : Int} (ha : a < 18446744073709551616) (ia : infB a = true) (ib : infB b = true) (h : b ≠ a) : faddF a b mode = 9221120237041090560 := by
  have e := inf_self ha ia
  have n1 := (inf_not ia).1
  have n2 := (inf_not ib).1
  unfold faddF
  rw [add_form, n1, n2, ia, ib, ← e, decide_eq_true h]
  rfl
theorem fadd_infa {a b : Nat} {mode : Int} (ha : a < 18446744073709551616) (ia : infB a = true) (nb : nanB b = false) (h : infB b = false ∨ b = a) : faddF a b mode = a := by
  have e := inf_self ha ia
  have n1 := (inf_not ia).1
  unfold faddF
  rw [add_form, n1, nb, ia, ← e]
  obtain h | h := h
  · rw [h]; rfl
  · rw [h]; simp
theorem fadd_infb {a b : Nat} {mode : Int} (ia : infB a = false) (na : nanB a = false) (ib : infB b = true) : faddF a b mode = b := by
  have n2 := inf_not ib
  unfold faddF
  rw [add_form, na, n2.1, n2.2, ia, ib]
  simp

set_option maxRecDepth 100000 in
theorem refEmpty_any (mode : Int) (w : World) :
    Calls Tryz.prog 141 #[.int .i64 mode] w fun e w' => e = .returned (.int .u64 ((cancel mode : Nat) : Int)) ∧ w = w' := by
  unfold cancel
  by_cases h : mode = 1
  all_goals
    simp only [h, if_true, if_false]
    go_enter Tryz.func141, Tryz.ntmps141
    go_wp2_with fail
    go_ret
    exact ⟨rfl, rfl⟩

set_option maxRecDepth 100000 in
set_option maxHeartbeats 2000000 in
theorem refAdd_nanA (a b : Nat) (mode : Int) (ha : a < 18446744073709551616) (na : nanB a = true) (w : World) :
    Calls Tryz.prog 59 #[.int .u64 (a : Int), .int .u64 (b : Int), .int .i64 mode] w fun e w' => e = .returned (.int .u64 ((faddF a b mode : Nat) : Int)) ∧ Ext w w' := by
  rw [fadd_nan (by rw [na]; rfl)]
  have NA := Lib.hid (refNan_any a ha true (na))
  clear na ha
  go_enter Tryz.func59, Tryz.ntmps59
  go_wp2_with (first | (go_at_call 71; (with_reducible refine (NA.out _).mono ?_); rintro e w' ⟨rfl, rfl⟩))
  go_ret
  exact ⟨rfl, Below.refl _ _⟩

set_option maxRecDepth 100000 in
set_option maxHeartbeats 2000000 in
theorem refAdd_nanB (a b : Nat) (mode : Int) (ha : a < 18446744073709551616) (hb : b < 18446744073709551616) (na : nanB a = false) (nb : nanB b = true) (w : World) :
    Calls Tryz.prog 59 #[.int .u64 (a : Int), .int .u64 (b : Int), .int .i64 mode] w fun e w' => e = .returned (.int .u64 ((faddF a b mode : Nat) : Int)) ∧ Ext w w' := by
  rw [fadd_nan (by rw [na, nb]; rfl)]
  have NA := Lib.hid (refNan_any a ha false (na))
  have NB := Lib.hid (refNan_any b hb true (nb))
  clear na nb ha hb
  go_enter Tryz.func59, Tryz.ntmps59
  go_wp2_with (first | (go_at_call 71; (with_reducible refine (NA.out _).mono ?_); rintro e w' ⟨rfl, rfl⟩) | (go_at_call 71; (with_reducible refine (NB.out _).mono ?_); rintro e w' ⟨rfl, rfl⟩))
  go_ret
  exact ⟨rfl, Below.refl _ _⟩

set_option maxRecDepth 100000 in
set_option maxHeartbeats 2000000 in
theorem refAdd_inf2 (a b : Nat) (mode : Int) (ha : a < 18446744073709551616) (hb : b < 18446744073709551616) (ia : infB a = true) (ib : infB b = true) (h : b ≠ a) (w : World) :
    Calls Tryz.prog 59 #[.int .u64 (a : Int), .int .u64 (b : Int), .int .i64 mode] w fun e w' => e = .returned (.int .u64 ((faddF a b mode : Nat) : Int)) ∧ Ext w w' := by
  rw [fadd_inf2 ha ia ib h]
  have NA := Lib.hid (refNan_any a ha false ((inf_not ia).1))
  have NB := Lib.hid (refNan_any b hb false ((inf_not ib).1))
  have IA := Lib.hid (refInf_any a ha true ((kind_inf a).trans (ia)))
  have IB := Lib.hid (refInf_any b hb true ((kind_inf b).trans (ib)))
  have hn : ¬ (a : Int) = (b : Int) := by omega
  clear ia ib ha hb h
  go_enter Tryz.func59, Tryz.ntmps59
  go_wp2_with (first | (go_at_call 71; (with_reducible refine (NA.out _).mono ?_); rintro e w' ⟨rfl, rfl⟩) | (go_at_call 71; (with_reducible refine (NB.out _).mono ?_); rintro e w' ⟨rfl, rfl⟩) | (go_at_call 139; (with_reducible refine (IA.out _).mono ?_); rintro e w' ⟨rfl, rfl⟩) | (go_at_call 139; (with_reducible refine (IB.out _).mono ?_); rintro e w' ⟨rfl, rfl⟩))
  go_ret
  exact ⟨rfl, Below.refl _ _⟩

set_option maxRecDepth 100000 in
set_option maxHeartbeats 2000000 in
theorem refAdd_infA (a b : Nat) (mode : Int) (ha : a < 18446744073709551616) (hb : b < 18446744073709551616) (ia : infB a = true) (nb : nanB b = false) (ib : infB b = false) (w : World) :
    Calls Tryz.prog 59 #[.int .u64 (a : Int), .int .u64 (b : Int), .int .i64 mode] w fun e w' => e = .returned (.int .u64 ((faddF a b mode : Nat) : Int)) ∧ Ext w w' := by
  rw [fadd_infa ha ia nb (.inl ib)]
  have NA := Lib.hid (refNan_any a ha false ((inf_not ia).1))
  have NB := Lib.hid (refNan_any b hb false (nb))
  have IA := Lib.hid (refInf_any a ha true ((kind_inf a).trans (ia)))
  have IB := Lib.hid (refInf_any b hb false ((kind_inf b).trans (ib)))
  clear ia ib ha hb nb
  go_enter Tryz.func59, Tryz.ntmps59
  go_wp2_with (first | (go_at_call 71; (with_reducible refine (NA.out _).mono ?_); rintro e w' ⟨rfl, rfl⟩) | (go_at_call 71; (with_reducible refine (NB.out _).mono ?_); rintro e w' ⟨rfl, rfl⟩) | (go_at_call 139; (with_reducible refine (IA.out _).mono ?_); rintro e w' ⟨rfl, rfl⟩) | (go_at_call 139; (with_reducible refine (IB.out _).mono ?_); rintro e w' ⟨rfl, rfl⟩))
  go_ret
  exact ⟨rfl, Below.refl _ _⟩

set_option maxRecDepth 100000 in
set_option maxHeartbeats 2000000 in
theorem refAdd_infB (a b : Nat) (mode : Int) (ha : a < 18446744073709551616) (hb : b < 18446744073709551616) (ib : infB b = true) (na : nanB a = false) (ia : infB a = false) (w : World) :
    Calls Tryz.prog 59 #[.int .u64 (a : Int), .int .u64 (b : Int), .int .i64 mode] w fun e w' => e = .returned (.int .u64 ((faddF a b mode : Nat) : Int)) ∧ Ext w w' := by
  rw [fadd_infb ia na ib]
  have NA := Lib.hid (refNan_any a ha false (na))
  have NB := Lib.hid (refNan_any b hb false ((inf_not ib).1))
  have IA := Lib.hid (refInf_any a ha false ((kind_inf a).trans (ia)))
  have IB := Lib.hid (refInf_any b hb true ((kind_inf b).trans (ib)))
  clear ia ib ha hb na
  go_enter Tryz.func59, Tryz.ntmps59
  go_wp2_with (first | (go_at_call 71; (with_reducible refine (NA.out _).mono ?_); rintro e w' ⟨rfl, rfl⟩) | (go_at_call 71; (with_reducible refine (NB.out _).mono ?_); rintro e w' ⟨rfl, rfl⟩) | (go_at_call 139; (with_reducible refine (IA.out _).mono ?_); rintro e w' ⟨rfl, rfl⟩) | (go_at_call 139; (with_reducible refine (IB.out _).mono ?_); rintro e w' ⟨rfl, rfl⟩))
  go_ret
  exact ⟨rfl, Below.refl _ _⟩

set_option maxRecDepth 100000 in
set_option maxHeartbeats 2000000 in
theorem refAdd_infS (a : Nat) (mode : Int) (ha : a < 18446744073709551616) (ia : infB a = true) (w : World) :
    Calls Tryz.prog 59 #[.int .u64 (a : Int), .int .u64 (a : Int), .int .i64 mode] w fun e w' => e = .returned (.int .u64 ((faddF a a mode : Nat) : Int)) ∧ Ext w w' := by
  rw [fadd_infa ha ia (inf_not ia).1 (.inr rfl)]
  have NA := Lib.hid (refNan_any a ha false ((inf_not ia).1))
  have IA := Lib.hid (refInf_any a ha true ((kind_inf a).trans (ia)))
  clear ia ha
  go_enter Tryz.func59, Tryz.ntmps59
  go_wp2_with (first | (go_at_call 71; (with_reducible refine (NA.out _).mono ?_); rintro e w' ⟨rfl, rfl⟩) | (go_at_call 139; (with_reducible refine (IA.out _).mono ?_); rintro e w' ⟨rfl, rfl⟩))
  go_ret
  exact ⟨rfl, Below.refl _ _⟩
end Go.Proofs.YtjohpdobnedilaaGreatDoor
