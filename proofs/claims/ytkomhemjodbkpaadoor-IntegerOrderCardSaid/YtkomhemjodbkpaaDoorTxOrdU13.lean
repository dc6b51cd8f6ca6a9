import Derived.Test.YtkomhemjodbkpaaDoorTxOrdU12
import Derived.Test.YtkomhemjodbkpaaDoorTxOrdU9
import Derived.Deep.RegionHeld3
namespace Go.Proofs.YtkomhemjodbkpaaDoor
open Go.RowKit

theorem Bg.not {w : World} {nb : Bool} {ao : Option Addr} {n cap : Nat} {x : Int} (h : Bg w nb ao n cap x) : Bg w (!nb) ao n cap (-x) := by
  obtain ⟨⟨zs, h1, h2⟩, h3⟩ := h
  refine ⟨⟨zs, h1, ?_⟩, h3⟩
  rw [h2]
  unfold sgd
  cases nb <;> simp
theorem Bg.only_box {w w' : World} {g : Nat} {nb mb : Bool} {ao ro : Option Addr} {n cap k cr : Nat} {x : Int} (h : Bg w mb ro k cr x) (hx : Box w g nb ao n cap) (ho : Only g w w') : Bg w' mb ro k cr x := by
  obtain ⟨⟨zs, h1, h2⟩, h3⟩ := h
  exact ⟨⟨zs, h1.only_box hx ho, h2⟩, h3⟩
theorem Bn.only_box {w w' : World} {g : Nat} {nb mb : Bool} {ao ro : Option Addr} {n cap k cr : Nat} {x : Int} (h : Bn w mb ro k cr x) (hx : Box w g nb ao n cap) (ho : Only g w w') : Bn w' mb ro k cr x :=
  ⟨h.neg, h.sl.only_box hx ho⟩

set_option maxRecDepth 100000 in
set_option maxHeartbeats 2000000 in
theorem sub_any (nb mb : Bool) (ao : Option Addr) (n ca : Nat) (bo : Option Addr) (m cb : Nat) (x y : Int) (w : World) (ha : Bg w nb ao n ca x) (hb : Bg w mb bo m cb y) :
    Calls Tryd.prog 14 #[.agg #[.bool nb, .slice ao n ca], .agg #[.bool mb, .slice bo m cb]] w fun e w' => ∃ nr ro k cr, e = .returned (.agg #[.bool nr, .slice ro k cr]) ∧ Bn w' nr ro k cr (x - y) ∧ Below w.heap.size w w' := by
  go_enter Tryd.func14, Tryd.ntmps14
  go_wp2_with fail
  obtain ⟨W, hW, hB, hbx, hby, hrx, hz⟩ := boxes2 w nb ao n ca (!mb) bo m cb
  rw [← hW]
  clear hW
  refine (add_any nb (!mb) ao n ca bo m cb x (-y) W (ha.below hB) (hb.not.below hB)).mono ?_
  rintro e w2 ⟨nr, ro, k, cr, rfl, hr, hw2⟩
  have y2 := hrx.below hw2
  obtain ⟨b2, l2⟩ := bnext hB (by omega) hw2
  generalize hBe : w.heap.size = B at *
  have HBe := Lib.hid hBe; clear hBe
  have z2 := hw2.size
  clear hbx hby hrx hB hw2
  have q0 := y2.c0
  have q1 := y2.c1
  have q2 := y2.f 0
  have q3 := y2.f 1
  have z3 := y2.stored nr ro k cr
  have z0 := z3.c0
  have z1 := z3.c1
  go_wp2
  refine bodyPost_ret (v := .agg #[.bool nr, .slice ro k cr]) (by simp [results, Tryd.results14, go_sem, z0, z1]) rfl ⟨nr, ro, k, cr, rfl, ?_, ?_⟩
  · have := hr.only_box y2 (only_set2 w2 (B + 1 + 1) (.bool nr) (.slice ro k cr))
    rwa [← Int.sub_eq_add_neg] at this
  · rw [HBe.out]
    exact b2.trans ((only_set2 _ _ _ _).below (by omega))
end Go.Proofs.YtkomhemjodbkpaaDoor

namespace Go.Proofs.YtkomhemjodbkpaaDoor
open Go.RowKit

set_option maxRecDepth 100000 in
set_option maxHeartbeats 2000000 in
theorem norm_any (nb : Bool) (ao : Option Addr) (n cap : Nat) (x : Int) (w : World) (h : Bg w nb ao n cap x) :
    Calls Tryd.prog 18 #[.agg #[.bool nb, .slice ao n cap]] w fun e w' => ∃ nr ro k cr, e = .returned (.agg #[.bool nr, .slice ro k cr]) ∧ Bn w' nr ro k cr x ∧ Below w.heap.size w w' := by
  obtain ⟨⟨zs, hs, hx⟩, hsm⟩ := h
  have hx' := Lib.hid hx; clear hx
  go_enter Tryd.func18, Tryd.ntmps18
  go_wp2_with fail
  obtain ⟨W, hW, hB, hbx, hrx, hz⟩ := boxes1 w nb ao n cap
  rw [← hW]
  clear hW
  have hs0 := hs.below hB
  generalize hBe : w.heap.size = B at *
  have HBe := Lib.hid hBe; clear hBe
  have hBelow := Lib.hid hB
  clear hs hB
  have k0 := hbx.c0
  have k1 := hbx.c1
  go_region_held3 (fun w' => w'.cell? ⟨B, 0, none⟩ = some (.bool nb) ∧ w'.cell? ⟨B, 1, none⟩ = some (.slice ao n cap))
    (first | exact ⟨k0, k1⟩ | exact ⟨x2.c0, x2.c1⟩ | exact ⟨x3.c0, x3.c1⟩ | (refine ⟨?_, ?_⟩ <;> go_simp))
    (first
      | (go_at_call 26; refine (trim_sl ao n cap zs _ (by exact hs0.below ((Below.refl _ _).drew))).mono ?_; rintro e w1 ⟨k, rfl, hs1, rfl⟩)
      | (go_at_call 42; refine (clone_any _ _ _ _ _ hs1).mono ?_; rintro e w2 ⟨rfl, hb2, hw2⟩; have x2 := (hbx.below ((Below.refl _ _).drew)).below hw2; have y2 := (hrx.below ((Below.refl _ _).drew)).below hw2)
      | (go_at_call 22; refine (signed_any _ _ _ _ _ _ (hb2.sl (Wf.limbs _) hs1.len hs1.big (Nat.le_refl _))).mono ?_; rintro e w3 ⟨ro, cr, rfl, hs3, hw3⟩; have x3 := x2.below hw3; have y3 := y2.below hw3; have q0 := y3.c0; have q1 := y3.c1; have q2 := y3.f 0; have q3 := y3.f 1; have e0 := x3.c0; have e1 := x3.c1))
  have z3 := y3.stored (nb && decide (0 < k)) ro k cr
  have z0 := z3.c0
  have z1 := z3.c1
  go_wp2
  refine bodyPost_ret (v := .agg #[.bool (nb && decide (0 < k)), .slice ro k cr]) (by simp [results, Tryd.results18, go_sem, z0, z1]) rfl ⟨_, ro, k, cr, rfl, ?_, ?_⟩
  · refine bn_of (hs3.only_box y3 (only_set2 _ _ _ _)) rfl ?_
    rw [hx'.out, Int.toNat_of_nonneg (num_nonneg hs0.wf)]; rfl
  · obtain ⟨b1, l1⟩ := bnext hBelow.out (by omega) (Below.refl _ W).drew
    obtain ⟨b2, l2⟩ := bnext b1 l1 hw2
    obtain ⟨b3, l3⟩ := bnext b2 l2 hw3
    rw [HBe.out]
    exact b3.trans ((only_set2 _ _ _ _).below (by omega))
end Go.Proofs.YtkomhemjodbkpaaDoor
