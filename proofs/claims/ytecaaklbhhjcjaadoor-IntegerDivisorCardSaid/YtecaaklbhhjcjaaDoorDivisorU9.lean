import Derived.Test.YtecaaklbhhjcjaaDoorDivisorU3
import Derived.Deep.RegionHeld3
namespace Go.Proofs.YtecaaklbhhjcjaaDoor
open Go.RowKit

set_option maxRecDepth 100000 in
set_option maxHeartbeats 2000000 in
theorem neg_any (nb : Bool) (ao : Option Addr) (n cap : Nat) (x : Int) (w : World) (h : Bg w nb ao n cap x) :
    Calls Tryd.prog 10 #[.agg #[.bool nb, .slice ao n cap]] w fun e w' => ∃ nr ro k cr, e = .returned (.agg #[.bool nr, .slice ro k cr]) ∧ Bn w' nr ro k cr (-x) ∧ Below w.heap.size w w' := by
  obtain ⟨⟨zs, hs, hx⟩, hsm⟩ := h
  have hx' := Lib.hid hx; clear hx
  go_enter Tryd.func10, Tryd.ntmps10
  go_wp2_with fail
  obtain ⟨W, hW, hB, hbx, hrx, hz⟩ := boxes1 w nb ao n cap
  rw [← hW]
  clear hW
  have hs0 := hs.below hB
  generalize hBe : w.heap.size = B at *
  have HBe := Lib.hid hBe; clear hBe
  have hBelow := Lib.hid hB
  clear hs hB
  have k0 := hbx.c0
  have k1 := hbx.c1
  go_region_held3 (fun w' => w'.cell? ⟨B, 0, none⟩ = some (.bool nb) ∧ w'.cell? ⟨B, 1, none⟩ = some (.slice ao n cap))
    (first | exact ⟨k0, k1⟩ | exact ⟨x2.c0, x2.c1⟩ | exact ⟨x3.c0, x3.c1⟩ | (refine ⟨?_, ?_⟩ <;> go_simp))
    (first
      | (go_at_call 20; refine (trim_sl ao n cap zs _ (by exact hs0.below ((Below.refl _ _).drew))).mono ?_; rintro e w1 ⟨k, rfl, hs1, rfl⟩)
      | (go_at_call 23; refine (clone_any _ _ _ _ _ hs1).mono ?_; rintro e w2 ⟨rfl, hb2, hw2⟩; have x2 := (hbx.below ((Below.refl _ _).drew)).below hw2; have y2 := (hrx.below ((Below.refl _ _).drew)).below hw2)
      | (go_at_call 18; refine (signed_any _ _ _ _ _ _ (hb2.sl (Wf.limbs _) hs1.len hs1.big (Nat.le_refl _))).mono ?_; rintro e w3 ⟨ro, cr, rfl, hs3, hw3⟩; have x3 := x2.below hw3; have y3 := y2.below hw3; have q0 := y3.c0; have q1 := y3.c1; have q2 := y3.f 0; have q3 := y3.f 1; have e0 := x3.c0; have e1 := x3.c1))
  have z3 := y3.stored (!nb && decide (0 < k)) ro k cr
  have z0 := z3.c0
  have z1 := z3.c1
  go_wp2
  refine bodyPost_ret (v := .agg #[.bool (!nb && decide (0 < k)), .slice ro k cr]) (by simp [results, Tryd.results10, go_sem, z0, z1]) rfl ⟨_, ro, k, cr, rfl, ?_, ?_⟩
  · refine bn_of (hs3.only_box y3 (only_set2 _ _ _ _)) rfl ?_
    rw [hx'.out, Int.toNat_of_nonneg (num_nonneg hs0.wf)]; unfold sgd; cases nb <;> simp
  · obtain ⟨b1, l1⟩ := bnext hBelow.out (by omega) (Below.refl _ W).drew
    obtain ⟨b2, l2⟩ := bnext b1 l1 hw2
    obtain ⟨b3, l3⟩ := bnext b2 l2 hw3
    rw [HBe.out]
    exact b3.trans ((only_set2 _ _ _ _).below (by omega))
set_option maxRecDepth 100000 in
set_option maxHeartbeats 2000000 in
theorem abs_any (nb : Bool) (ao : Option Addr) (n cap : Nat) (x : Int) (w : World) (h : Bg w nb ao n cap x) :
    Calls Tryd.prog 9 #[.agg #[.bool nb, .slice ao n cap]] w fun e w' => ∃ nr ro k cr, e = .returned (.agg #[.bool nr, .slice ro k cr]) ∧ Bn w' nr ro k cr x.natAbs ∧ Below w.heap.size w w' := by
  obtain ⟨⟨zs, hs, hx⟩, hsm⟩ := h
  have hx' := Lib.hid hx; clear hx
  go_enter Tryd.func9, Tryd.ntmps9
  go_wp2_with fail
  obtain ⟨W, hW, hB, hbx, hrx, hz⟩ := boxes1 w nb ao n cap
  rw [← hW]
  clear hW
  have hs0 := hs.below hB
  refine (trim_sl ao n cap zs _ hs0).mono ?_
  rintro e w1 ⟨k, rfl, hs1, rfl⟩
  go_wp2_with fail
  refine (clone_any _ _ _ _ _ hs1).mono ?_
  rintro e w2 ⟨rfl, hb2, hw2⟩
  have y2 := hrx.below hw2
  go_wp2_with fail
  refine (signed_any _ _ _ _ _ _ (hb2.sl (Wf.limbs _) hs1.len hs1.big (Nat.le_refl _))).mono ?_
  rintro e w3 ⟨ro, cr, rfl, hs3, hw3⟩
  have y3 := y2.below hw3
  obtain ⟨b2, l2⟩ := bnext hB (by omega) hw2
  obtain ⟨b3, l3⟩ := bnext b2 l2 hw3
  have hwz := hs0.wf
  generalize hBe : w.heap.size = B at *
  have HBe := Lib.hid hBe; clear hBe
  have z2 := hw2.size
  have z3' := hw3.size
  clear hbx hrx hB hw2 hw3 y2 hs hs0 hs1 hb2 b2 l2
  have q0 := y3.c0
  have q1 := y3.c1
  have q2 := y3.f 0
  have q3 := y3.f 1
  have z3 := y3.stored false ro k cr
  have z0 := z3.c0
  have z1 := z3.c1
  go_wp2
  refine bodyPost_ret (v := .agg #[.bool false, .slice ro k cr]) (by simp [results, Tryd.results9, go_sem, z0, z1]) rfl ⟨false, ro, k, cr, rfl, ?_, ?_⟩
  · refine bn_of (nb := false) (hs3.only_box y3 (only_set2 _ _ _ _)) rfl ?_
    rw [hx'.out, sgd_natAbs hwz]; simp
  · rw [HBe.out]
    exact b3.trans ((only_set2 _ _ _ _).below (by omega))
end Go.Proofs.YtecaaklbhhjcjaaDoor
