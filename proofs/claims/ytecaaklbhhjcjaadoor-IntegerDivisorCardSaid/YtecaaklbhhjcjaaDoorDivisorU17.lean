import Derived.Test.YtecaaklbhhjcjaaDoorDivisorU16
import Derived.Test.YtecaaklbhhjcjaaDoorDivisorU4
namespace Go.Proofs.YtecaaklbhhjcjaaDoor
open Go.RowKit

set_option maxRecDepth 100000 in
set_option maxHeartbeats 1000000 in
theorem divide_less (a b : Nat) (ao bo : Option Addr) (n m ca cb : Nat) (w : World) (ha : Sl w ao n ca (limbs a)) (hb : Sl w bo m cb (limbs b)) (hab : a < b) :
    Calls Tryd.prog 24 #[.slice ao n ca, .slice bo m cb] w fun e w' => ∃ qo qk qc ro rk rc, e = .returned (.tuple #[.slice qo qk qc, .slice ro rk rc]) ∧
      Sl w' qo qk qc (limbs (a / b)) ∧ Sl w' ro rk rc (limbs (a % b)) ∧ Below w.heap.size w w' := by
  have hs : decide (sgn3 (a : Int) b < 0) = true := by simp [sgn3]; omega
  have H := Lib.hid hab; clear hab
  go_enter Tryd.func24, Tryd.ntmps24
  go_wp2_with fail
  refine (compare_any _ _ _ _ _ _ _ _ _ ha hb).mono ?_
  rintro e w1 ⟨rfl, q, rfl⟩
  go_wp2_with fail
  refine (clone_any _ _ _ _ _ (ha.drewN q)).mono ?_
  rintro e w2 ⟨rfl, hb2, hw2⟩
  go_wp2
  go_ret2
  refine ⟨_, _, _, _, _, _, rfl, ?_, ?_, ?_⟩
  · rw [Nat.div_eq_of_lt H.out, limbs_zero]; exact Sl.nil _
  · rw [Nat.mod_eq_of_lt H.out]
    exact hb2.sl (Wf.limbs a) ha.len ha.big (Nat.le_refl _)
  · exact (below_drewN (Below.refl _ w) q).trans hw2

set_option maxRecDepth 100000 in
set_option maxHeartbeats 1000000 in
theorem divide_limb (a b : Nat) (ao bo : Option Addr) (n ca cb : Nat) (w : World) (ha : Sl w ao n ca (limbs a)) (hb : Sl w bo 1 cb (limbs b)) (hab : b ≤ a) :
    Calls Tryd.prog 24 #[.slice ao n ca, .slice bo 1 cb] w fun e w' => ∃ qo qk qc ro rk rc, e = .returned (.tuple #[.slice qo qk qc, .slice ro rk rc]) ∧
      Sl w' qo qk qc (limbs (a / b)) ∧ Sl w' ro rk rc (limbs (a % b)) ∧ Below w.heap.size w w' := by
  have hs : decide (sgn3 (a : Int) b < 0) = false := by simp [sgn3]; omega
  have H := Lib.hid hab; clear hab
  obtain ⟨bb, ob, rfl, hc⟩ := hb.cells (by rw [hb.len]; omega)
  have c1 := hc 0 (by rw [hb.len]; omega)
  clear hc
  have hbl := hb.len
  have hb1 := (limbs_len_le b 1).1 (by omega)
  have hbn : b ≠ 0 := by rintro rfl; rw [limbs_zero] at hbl; cases hbl
  have hb0 : (limbs b).getD 0 0 = (b : Int) := by
    rw [limbs_pos hbn]; simp [List.getD]; omega
  rw [hb0, Nat.add_zero] at c1
  have HBL := Lib.hid hbl; clear hbl hb0
  go_enter Tryd.func24, Tryd.ntmps24
  go_wp2_with fail
  refine (compare_any _ _ _ _ _ _ _ _ _ ha hb).mono ?_
  rintro e w1 ⟨rfl, q, rfl⟩
  go_wp2_with fail
  refine (divLimb_any _ _ _ _ (b : Int) _ (ha.drewN q) (by omega) (by omega)).mono ?_
  rintro e w2 ⟨qo, qk, qc, ro, rk, rc, rfl, hq, hr, hw2⟩
  go_wp2
  go_ret2
  rw [Int.toNat_natCast] at hq hr
  exact ⟨_, _, _, _, _, _, rfl, hq, hr, (below_drewN (Below.refl _ w) q).trans hw2⟩
end Go.Proofs.YtecaaklbhhjcjaaDoor
