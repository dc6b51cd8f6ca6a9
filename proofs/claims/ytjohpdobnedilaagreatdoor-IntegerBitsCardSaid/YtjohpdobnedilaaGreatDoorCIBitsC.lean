/- The errors of integer.Shift and Sqrt; both over letters. -/
import Derived.Test.YtjohpdobnedilaaGreatDoorCRefSqrt
import Derived.Test.YtjohpdobnedilaaGreatDoorIh
import Derived.Test.YtjohpdobnedilaaGreatDoorGf
import Derived.Test.YtjohpdobnedilaaGreatDoorGh
namespace Go.Proofs.YtjohpdobnedilaaGreatDoor
open Go Go.RowKit

/-- x times 2 to the power i, rounded down -/
def shiftI (x i : Int) : Int := if 0 ≤ i then x * 2 ^ i.toNat else x / 2 ^ (-i).toNat

/-- an error: zero beside its code -/
def ErrOut (w : World) (c : Int) (e : Ending) (w' : World) : Prop := ∃ nr ro l cr, e = .returned (.tuple #[.agg #[.bool nr, .slice ro l cr], .int .i64 c]) ∧ Bn w' nr ro l cr 0 ∧ Ext w w'

set_option maxRecDepth 100000 in
set_option maxHeartbeats 2000000 in
theorem shift_far (nb : Bool) (ao : Option Addr) (n cap : Nat) (i : Int) (w : World) (hi : i < -1048576 ∨ 1048576 < i) :
    Calls Tryz.prog 46 #[.agg #[.bool nb, .slice ao n cap], .int .i64 i] w fun e w' => ErrOut w 3 e w' := by
  have key : ∀ (_ : (i < -1048576) ∨ (¬ i < -1048576 ∧ i > 1048576)), Calls Tryz.prog 46 #[.agg #[.bool nb, .slice ao n cap], .int .i64 i] w fun e w' => ErrOut w 3 e w' := by
    rintro (h1 | ⟨h1, h2⟩)
    all_goals
      clear hi
      go_enter Tryz.func46, Tryz.ntmps46
      go_upto_region 1 with fail
      obtain ⟨W, hW, hB, hbx, hrx, hz⟩ := boxes1 w nb ao n cap
      rw [← hW]
      clear hW
      generalize hBe : w.heap.size = B at *
      have HBe := Lib.hid hBe; clear hBe
      have q0 := hrx.c0
      have q1 := hrx.c1
      have q2 := hrx.f 0
      have q3 := hrx.f 1
      have u1 := hrx.stored false none 0 0
      have z0 := u1.c0
      have z1 := u1.c1
      have HB := Lib.hid (Below.trans hB ((only_set2 W (B + 1) (.bool false) (.slice none 0 0)).below (Nat.le_succ B)))
      clear u1 hB hbx
      go_wp2
      refine bodyPost_ret (v := .tuple #[.agg #[.bool false, .slice none 0 0], .int .i64 3]) (by simp [results, Tryz.results46, go_sem, z0, z1]) rfl ⟨false, none, 0, 0, rfl, ⟨rfl, by show Sl _ none 0 0 (limbs 0); rw [limbs_zero]; exact Sl.nil _⟩, ?_⟩
      show Below _ _ _; rw [HBe.out]; exact HB.out
  exact key (by omega)

theorem shift_at (nb : Bool) (ao : Option Addr) (n cap : Nat) (x i : Int) (w : World) (h : Bg w nb ao n cap x) (hi : -1048576 ≤ i ∧ i ≤ 1048576) (hT : Table w) :
    Calls Tryz.prog 46 #[.agg #[.bool nb, .slice ao n cap], .int .i64 i] w fun e w' => ∃ nr ro l cr, e = .returned (.tuple #[.agg #[.bool nr, .slice ro l cr], .int .i64 0]) ∧ Bn w' nr ro l cr (shiftI x i) ∧ Ext w w' := by
  by_cases h0 : 0 ≤ i
  · obtain ⟨k, rfl⟩ := Int.eq_ofNat_of_zero_le h0
    unfold shiftI
    rw [if_pos h0, Int.toNat_natCast]
    exact shift_left nb ao n cap x k w h (by omega)
  · obtain ⟨k, hk⟩ : ∃ k : Nat, i = -(k : Int) := ⟨(-i).toNat, by omega⟩
    subst hk
    unfold shiftI
    rw [if_neg h0, Int.neg_neg, Int.toNat_natCast]
    exact shift_right nb ao n cap x k w h (by omega) (by omega) hT
theorem refShift_at (nb : Bool) (ao : Option Addr) (n cap : Nat) (x i : Int) (w : World) (h : Bg w nb ao n cap x) (hb : blen x.natAbs ≤ 1000000) (hi : -1048576 ≤ i ∧ i ≤ 1048576) :
    Calls Tryz.prog 53 #[.agg #[.bool nb, .slice ao n cap], .int .i64 i] w fun e w' => ∃ nr ro l cr, e = .returned (.agg #[.bool nr, .slice ro l cr]) ∧ Bn w' nr ro l cr (shiftI x i) ∧ Ext w w' := by
  by_cases h0 : 0 ≤ i
  · obtain ⟨k, rfl⟩ := Int.eq_ofNat_of_zero_le h0
    unfold shiftI
    rw [if_pos h0, Int.toNat_natCast]
    exact (refShift_up nb ao n cap x k w h (by omega)).mono fun r w' ⟨nr, ro, k, cr, h1, h2, _, h4⟩ => ⟨nr, ro, k, cr, h1, h2, h4⟩
  · obtain ⟨k, hk⟩ : ∃ k : Nat, i = -(k : Int) := ⟨(-i).toNat, by omega⟩
    subst hk
    unfold shiftI
    rw [if_neg h0, Int.neg_neg, Int.toNat_natCast]
    exact refShift_dn nb ao n cap x k w h hb (by omega)

set_option maxRecDepth 100000 in
set_option maxHeartbeats 2000000 in
theorem sqrt_neg (nb : Bool) (ao : Option Addr) (n cap : Nat) (x : Int) (w : World) (h : Bg w nb ao n cap x) (hx : x < 0) :
    Calls Tryz.prog 47 #[.agg #[.bool nb, .slice ao n cap]] w fun e w' => ErrOut w 11 e w' := by
  have hsg : sgn3 x 0 = -1 := by unfold sgn3; rw [if_pos hx]
  go_enter Tryz.func47, Tryz.ntmps47
  go_upto_region 1 with fail
  obtain ⟨W, hW, hB, hbx, hrx, hz⟩ := boxes1 w nb ao n cap
  rw [← hW]
  clear hW
  have hg := h.below hB
  generalize hBe : w.heap.size = B at *
  have HBe := Lib.hid hBe; clear hBe h
  have k0 := hbx.c0
  have k1 := hbx.c1
  have CS := sign_any nb ao n cap x W hg
  rw [hsg] at CS
  have CS := Lib.hid CS
  go_wp2_with fail
  refine CS.out.mono ?_
  rintro e w1 ⟨rfl, hw1⟩
  have hrx := hrx.below hw1
  have hB1 : Below B w w1 := Below.trans hB (hw1.mono (by omega))
  clear k0 k1 CS hB hbx hw1
  have q0 := hrx.c0
  have q1 := hrx.c1
  have q2 := hrx.f 0
  have q3 := hrx.f 1
  have u1 := hrx.stored false none 0 0
  have z0 := u1.c0
  have z1 := u1.c1
  have HB := Lib.hid (Below.trans hB1 ((only_set2 w1 (B + 1) (.bool false) (.slice none 0 0)).below (Nat.le_succ B)))
  clear u1 hB1
  go_wp2
  refine bodyPost_ret (v := .tuple #[.agg #[.bool false, .slice none 0 0], .int .i64 11]) (by simp [results, Tryz.results47, go_sem, z0, z1]) rfl ⟨false, none, 0, 0, rfl, ⟨rfl, by show Sl _ none 0 0 (limbs 0); rw [limbs_zero]; exact Sl.nil _⟩, ?_⟩
  show Below _ _ _; rw [HBe.out]; exact HB.out

theorem root_unique {a s t : Nat} (h1 : s * s ≤ a) (h2 : a < (s + 1) * (s + 1)) (h3 : t * t ≤ a) (h4 : a < (t + 1) * (t + 1)) : s = t := by
  rcases Nat.lt_trichotomy s t with h | h | h
  · have := Nat.mul_le_mul (show s + 1 ≤ t by omega) (show s + 1 ≤ t by omega); omega
  · exact h
  · have := Nat.mul_le_mul (show t + 1 ≤ s by omega) (show t + 1 ≤ s by omega); omega
/-- the root, chosen once -/
theorem root_ex (a : Nat) : ∃ s, s * s ≤ a ∧ a < (s + 1) * (s + 1) := by
  induction a with
  | zero => exact ⟨0, by omega, by omega⟩
  | succ a ih =>
    obtain ⟨s, h1, h2⟩ := ih
    by_cases h : a + 1 < (s + 1) * (s + 1)
    · exact ⟨s, by omega, h⟩
    · refine ⟨s + 1, by omega, ?_⟩
      have := Nat.mul_le_mul (show s + 1 ≤ s + 1 + 1 by omega) (show s + 1 + 1 ≤ s + 1 + 1 by omega)
      have e : (s + 1 + 1) * (s + 1 + 1) = (s + 1) * (s + 1) + (2 * s + 3) := by
        rw [Nat.add_mul (s + 1) 1, Nat.mul_add (s + 1) (s + 1) 1]; omega
      omega
end Go.Proofs.YtjohpdobnedilaaGreatDoor
