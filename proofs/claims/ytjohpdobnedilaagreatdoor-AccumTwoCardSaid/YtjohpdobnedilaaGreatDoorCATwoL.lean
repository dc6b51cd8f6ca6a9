/- AccumTwo returns true, from what its callees do. -/
import Derived.Test.YtjohpdobnedilaaGreatDoorHh
import Derived.Test.YtjohpdobnedilaaGreatDoorCRefATwo
namespace Go.Proofs.YtjohpdobnedilaaGreatDoor
open Go Go.RowKit

set_option maxRecDepth 100000 in
set_option maxHeartbeats 4000000 in
theorem atwo_any (a b : Nat) (ha : a < 18446744073709551616) (hb : b < 18446744073709551616) (w : World) (hT : Table w) (hT6 : Table64 w) :
    Calls Tryz.prog 3 #[.int .u64 (a : Int), .int .u64 (b : Int)] w fun e w' => e = .returned (.bool true) ∧ Ext w w' := by
  have AW := Lib.hid (fun W (hE : Ext w W) => aawake_any W (hT.below hE) (hT6.below hE))
  obtain ⟨s, hs⟩ : ∃ s, faddF a b 0 = s := ⟨_, rfl⟩
  obtain ⟨p, hp⟩ : ∃ p, fmulF a b 0 = p := ⟨_, rfl⟩
  obtain ⟨t, ht⟩ : ∃ t, rest s (dadd (fdy a) (fdy b)) = t := ⟨_, rfl⟩
  obtain ⟨q, hq⟩ : ∃ q, rest p (dmul (fdy a) (fdy b)) = q := ⟨_, rfl⟩
  obtain ⟨ok, hok⟩ : ∃ ok, restB s (dadd (fdy a) (fdy b)) = ok := ⟨_, rfl⟩
  obtain ⟨is, his⟩ : ∃ is, restB p (dmul (fdy a) (fdy b)) = is := ⟨_, rfl⟩
  have C1 := Lib.hid (fun W (hE : Ext w W) => twoSum_any a b ha hb W (hT.below hE) (hT6.below hE) s t ok hs ht hok)
  have C2 := Lib.hid (fun W (hE : Ext w W) => refTwoSum_any a b ha hb W (hT.below hE) s t ok hs ht hok)
  have C3 := Lib.hid (fun W (hE : Ext w W) => twoMul_any a b ha hb W (hT.below hE) (hT6.below hE) p q is hp hq his)
  have C4 := Lib.hid (fun W (hE : Ext w W) => refTwoMul_any a b ha hb W (hT.below hE) p q is hp hq his)
  clear hs hp ht hq hok his hT hT6 ha hb
  cases ok <;> cases is
  · go_enter Tryz.func3, Tryz.ntmps3
    go_wp2_with fail
    refine (C1.out _ (Ext.refl _)).mono ?_
    rintro e w1 ⟨rfl, h1⟩
    rw [pairV_f]
    go_wp2_with fail
    refine (C2.out _ h1).mono ?_
    rintro e w2 ⟨rfl, hw2⟩
    have h2 := Ext.trans h1 hw2
    rw [pairV_f]
    go_wp2_with fail
    refine (C3.out _ h2).mono ?_
    rintro e w3 ⟨rfl, hw3⟩
    have h3 := Ext.trans h2 hw3
    rw [pairV_f]
    go_wp2_with fail
    refine (C4.out _ h3).mono ?_
    rintro e w4 ⟨rfl, hw4⟩
    have h4 := Ext.trans h3 hw4
    rw [pairV_f]
    go_wp2_with fail
    refine (AW.out _ h4).mono ?_
    rintro e w5 ⟨rfl, hw5⟩
    have h5 := Ext.trans h4 hw5
    go_wp2
    go_ret
    exact ⟨rfl, h5⟩
  · go_enter Tryz.func3, Tryz.ntmps3
    go_wp2_with fail
    refine (C1.out _ (Ext.refl _)).mono ?_
    rintro e w1 ⟨rfl, h1⟩
    rw [pairV_f]
    go_wp2_with fail
    refine (C2.out _ h1).mono ?_
    rintro e w2 ⟨rfl, hw2⟩
    have h2 := Ext.trans h1 hw2
    rw [pairV_f]
    go_wp2_with fail
    refine (C3.out _ h2).mono ?_
    rintro e w3 ⟨rfl, hw3⟩
    have h3 := Ext.trans h2 hw3
    rw [pairV_t]
    go_wp2_with fail
    refine (C4.out _ h3).mono ?_
    rintro e w4 ⟨rfl, hw4⟩
    have h4 := Ext.trans h3 hw4
    rw [pairV_t]
    go_wp2_with fail
    refine (AW.out _ h4).mono ?_
    rintro e w5 ⟨rfl, hw5⟩
    have h5 := Ext.trans h4 hw5
    go_wp2
    go_ret
    exact ⟨rfl, h5⟩
  · go_enter Tryz.func3, Tryz.ntmps3
    go_wp2_with fail
    refine (C1.out _ (Ext.refl _)).mono ?_
    rintro e w1 ⟨rfl, h1⟩
    rw [pairV_t]
    go_wp2_with fail
    refine (C2.out _ h1).mono ?_
    rintro e w2 ⟨rfl, hw2⟩
    have h2 := Ext.trans h1 hw2
    rw [pairV_t]
    go_wp2_with fail
    refine (C3.out _ h2).mono ?_
    rintro e w3 ⟨rfl, hw3⟩
    have h3 := Ext.trans h2 hw3
    rw [pairV_f]
    go_wp2_with fail
    refine (C4.out _ h3).mono ?_
    rintro e w4 ⟨rfl, hw4⟩
    have h4 := Ext.trans h3 hw4
    rw [pairV_f]
    go_wp2_with fail
    refine (AW.out _ h4).mono ?_
    rintro e w5 ⟨rfl, hw5⟩
    have h5 := Ext.trans h4 hw5
    go_wp2
    go_ret
    exact ⟨rfl, h5⟩
  · go_enter Tryz.func3, Tryz.ntmps3
    go_wp2_with fail
    refine (C1.out _ (Ext.refl _)).mono ?_
    rintro e w1 ⟨rfl, h1⟩
    rw [pairV_t]
    go_wp2_with fail
    refine (C2.out _ h1).mono ?_
    rintro e w2 ⟨rfl, hw2⟩
    have h2 := Ext.trans h1 hw2
    rw [pairV_t]
    go_wp2_with fail
    refine (C3.out _ h2).mono ?_
    rintro e w3 ⟨rfl, hw3⟩
    have h3 := Ext.trans h2 hw3
    rw [pairV_t]
    go_wp2_with fail
    refine (C4.out _ h3).mono ?_
    rintro e w4 ⟨rfl, hw4⟩
    have h4 := Ext.trans h3 hw4
    rw [pairV_t]
    go_wp2_with fail
    refine (AW.out _ h4).mono ?_
    rintro e w5 ⟨rfl, hw5⟩
    have h5 := Ext.trans h4 hw5
    go_wp2
    go_ret
    exact ⟨rfl, h5⟩

theorem atwo_int (a b : Int) (a0 : 0 ≤ a) (a1 : a < 18446744073709551616) (b0 : 0 ≤ b) (b1 : b < 18446744073709551616) (w : World) (hT : Table w) (hT6 : Table64 w) :
    Calls Tryz.prog 3 #[.int .u64 a, .int .u64 b] w fun e w' => e = .returned (.bool true) ∧ Ext w w' := by
  obtain ⟨x, rfl⟩ := Int.eq_ofNat_of_zero_le a0
  obtain ⟨y, rfl⟩ := Int.eq_ofNat_of_zero_le b0
  exact atwo_any x y (by omega) (by omega) w hT hT6
end Go.Proofs.YtjohpdobnedilaaGreatDoor
