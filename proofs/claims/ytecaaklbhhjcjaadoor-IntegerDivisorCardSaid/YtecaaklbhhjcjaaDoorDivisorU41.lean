import Derived.Test.YtecaaklbhhjcjaaDoorDivisorU40
import Derived.Test.YtecaaklbhhjcjaaDoorDivisorU11
namespace Go.Proofs.YtecaaklbhhjcjaaDoor
open Go.RowKit

set_option maxRecDepth 100000 in
set_option maxHeartbeats 4000000 in
theorem gcd_any (nb mb : Bool) (ao : Option Addr) (n ca : Nat) (bo : Option Addr) (m cb : Nat) (x y : Int) (w : World) (ha : Bg w nb ao n ca x) (hb : Bg w mb bo m cb y) (hn : n ≤ 100000000) (hm : m ≤ 100000000) :
    Calls Tryd.prog 6 #[.agg #[.bool nb, .slice ao n ca], .agg #[.bool mb, .slice bo m cb]] w fun e w' => ∃ nr ro k cr, e = .returned (.agg #[.bool nr, .slice ro k cr]) ∧ Bn w' nr ro k cr ((Nat.gcd x.natAbs y.natAbs : Nat) : Int) ∧ Below w.heap.size w w' := by
  obtain ⟨⟨zs, hs, hx⟩, hsm⟩ := ha
  obtain ⟨⟨ys, hu, hy⟩, hum⟩ := hb
  have ex : (num zs).toNat = x.natAbs := by rw [hx, sgd_natAbs hs.wf]
  have ey : (num ys).toNat = y.natAbs := by rw [hy, sgd_natAbs hu.wf]
  rw [← ex, ← ey]
  clear hx hy ex ey
  go_enter Tryd.func6, Tryd.ntmps6
  go_wp2_with fail
  obtain ⟨W, hW, hB, hbx, hby, hrx, hz⟩ := boxes2 w nb ao n ca mb bo m cb
  rw [← hW]
  clear hW
  have hs0 := hs.below hB
  have hu0 := hu.below hB
  generalize hBe : w.heap.size = B at *
  have HBe := Lib.hid hBe; clear hBe
  have hBelow := Lib.hid hB
  clear hs hu hB
  obtain ⟨k1, hk1, hs1, ht1⟩ := trim_at _ _ _ _ _ hs0
  obtain ⟨k2, hk2, hu1, ht2⟩ := trim_at _ _ _ _ _ hu0
  obtain ⟨a, hxa⟩ : ∃ a, (num zs).toNat = a := ⟨_, rfl⟩
  obtain ⟨b, hyb⟩ : ∃ b, (num ys).toNat = b := ⟨_, rfl⟩
  rw [hxa] at hs1
  rw [hyb] at hu1
  have GAB := Lib.hid (show (((num zs).toNat.gcd (num ys).toNat : Nat) : Int) = ((Nat.gcd a b : Nat) : Int) by rw [hxa, hyb])
  clear hxa hyb
  have HT1 := Lib.hid ht1; clear ht1
  have HT2 := Lib.hid ht2; clear ht2
  have k0 := hbx.c0
  have k1' := hbx.c1
  have l0 := hby.c0
  have l1' := hby.c1
  go_region_held3 (fun w' => w'.cell? ⟨B, 0, none⟩ = some (.bool nb) ∧ w'.cell? ⟨B, 1, none⟩ = some (.slice ao n ca) ∧ w'.cell? ⟨B + 1, 0, none⟩ = some (.bool mb) ∧ w'.cell? ⟨B + 1, 1, none⟩ = some (.slice bo m cb))
    (first | exact ⟨k0, k1', l0, l1'⟩ | exact ⟨x2.c0, x2.c1, v2.c0, v2.c1⟩ | exact ⟨x3.c0, x3.c1, v3.c0, v3.c1⟩ | (refine ⟨?_, ?_, ?_, ?_⟩ <;> go_simp))
    (first
      | (go_at_call 20; first | ((with_reducible refine (HT1.out _ (by exact hs0.drew)).mono ?_); rintro e w1 ⟨rfl, rfl⟩) | ((with_reducible refine (HT2.out _ (by exact hu0.drew)).mono ?_); rintro e w1 ⟨rfl, rfl⟩))
      | (go_at_call 19; refine (common_any _ _ _ _ _ _ _ _ _ (by exact hs1.drew) (by exact hu1.drew) (by omega) (by omega)).mono ?_; rintro e w2 ⟨ro, k, cr, rfl, hp, hw2⟩; have x2 := hbx.drew.below hw2; have v2 := hby.drew.below hw2; have y2 := hrx.drew.below hw2)
      | (go_at_call 18; refine (signed_any _ _ _ _ _ _ (by exact hp)).mono ?_; rintro e w3 ⟨ro', cr', rfl, hs3, hw3⟩; have x3 := x2.below hw3; have v3 := v2.below hw3; have y3 := y2.below hw3; have q0 := y3.c0; have q1 := y3.c1; have q2 := y3.f 0; have q3 := y3.f 1; have e0 := x3.c0; have e1 := x3.c1; have e2 := v3.c0; have e3 := v3.c1))
  have z3 := y3.stored (false && decide (0 < k)) ro' k cr'
  have z0 := z3.c0
  have z1 := z3.c1
  simp only [Bool.false_and] at z0 z1
  go_wp2
  refine bodyPost_ret (v := .agg #[.bool (false && decide (0 < k)), .slice ro' k cr']) (by simp [results, Tryd.results6, go_sem, z0, z1]) rfl ⟨_, ro', k, cr', rfl, ?_, ?_⟩
  · exact bn_of (nb := false) (hs3.only_box y3 (only_set2 _ _ _ _)) rfl (by rw [GAB.out]; rfl)
  · obtain ⟨b1, l1⟩ := bnext hBelow.out (by omega) (Below.refl _ W).drew
    obtain ⟨b2, l2⟩ := bnext b1 l1 hw2
    obtain ⟨b3, l3⟩ := bnext b2 l2 hw3
    rw [HBe.out]
    exact b3.trans ((only_set2 _ _ _ _).below (by omega))
end Go.Proofs.YtecaaklbhhjcjaaDoor
