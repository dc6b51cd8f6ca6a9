import Derived.Test.YtlpclahlolhjfaaGreatDoorMoRlU13
import Derived.Test.YtlpclahlolhjfaaGreatDoorMoRlU14
import Derived.Deep.RegionHeld3
namespace Go.Proofs.YtlpclahlolhjfaaGreatDoor
open Go.RowKit

theorem sgd_not {nb : Bool} {zs : List Int} : sgd (!nb) zs = - sgd nb zs := by unfold sgd; cases nb <;> simp

set_option maxRecDepth 100000 in
set_option maxHeartbeats 1000000 in
theorem refNeg_any (nb : Bool) (ao : Option Addr) (n cap : Nat) (x : Int) (w : World) (h : Bg w nb ao n cap x) :
    Calls Tryz.prog 49 #[.agg #[.bool nb, .slice ao n cap]] w fun e w' => ∃ nr ro k cr, e = .returned (.agg #[.bool nr, .slice ro k cr]) ∧ Bn w' nr ro k cr (-x) ∧ k ≤ n ∧ Ext w w' := by
  obtain ⟨⟨zs, hs, hx⟩, hsm⟩ := h
  subst hx
  go_enter Tryz.func49, Tryz.ntmps49
  go_wp2_with fail
  obtain ⟨W, hW, hB, hbx, hrx, hz⟩ := boxes1 w nb ao n cap
  rw [← hW]
  clear hW
  have hs0 := hs.below hB
  generalize hBe : w.heap.size = B at *
  have HBe := Lib.hid hBe; clear hBe
  have k0 := hbx.c0
  have k1 := hbx.c1
  go_wp2_with fail
  refine (make1_any (!nb) ao n cap zs W hs0).mono ?_
  rintro e w1 ⟨nr, ro, k, rc, rfl, hs1, hk, hw1⟩
  have b1 := hrx.below hw1
  have q0 := b1.c0
  have q1 := b1.c1
  have q2 := b1.f 0
  have q3 := b1.f 1
  have hst := b1.stored nr ro k rc
  have u0 := hst.c0
  have u1 := hst.c1
  obtain ⟨h1, z1⟩ := bnext hB (by omega) hw1
  have hres : Bn ((w1.setCell ⟨B + 1, 0, none⟩ (.bool nr)).setCell ⟨B + 1, 1, none⟩ (.slice ro k rc)) nr ro k rc (sgd (!nb) zs) := ⟨hs1.neg, hs1.sl.only_box b1 (only_set2 _ _ _ _)⟩
  have hbl := h1.trans ((only_set2 w1 (B + 1) (.bool nr) (.slice ro k rc)).below (Nat.le_succ B))
  have HRES := Lib.hid hres; clear hres
  go_wp2
  refine bodyPost_ret (v := .agg #[.bool nr, .slice ro k rc]) (by simp [results, Tryz.results49, go_sem, u0, u1]) rfl ⟨_, ro, k, rc, rfl, ?_, hk, ?_⟩
  · rw [← sgd_not]; exact HRES.out
  · rw [Ext, HBe.out]; exact hbl

theorem sgd_prod {nb mb : Bool} {zs ys L : List Int} (h : num L = num zs * num ys) : sgd nb zs * sgd mb ys = sgd (nb != mb) L := by
  unfold sgd
  rw [h]
  cases nb <;> cases mb <;> simp [Int.neg_mul, Int.mul_neg]

set_option maxRecDepth 100000 in
set_option maxHeartbeats 4000000 in
theorem refMul_any (nb mb : Bool) (ao : Option Addr) (n ca : Nat) (bo : Option Addr) (m cb : Nat) (x y : Int) (w : World) (ha : Bg w nb ao n ca x) (hb : Bg w mb bo m cb y) :
    Calls Tryz.prog 36 #[.agg #[.bool nb, .slice ao n ca], .agg #[.bool mb, .slice bo m cb]] w fun e w' => ∃ nr ro k cr, e = .returned (.agg #[.bool nr, .slice ro k cr]) ∧ Bn w' nr ro k cr (x * y) ∧ Ext w w' := by
  obtain ⟨⟨zs, hs, hx⟩, hsm⟩ := ha
  obtain ⟨⟨ys, hu, hy⟩, hum⟩ := hb
  have hwz := hs.wf
  have hwy := hu.wf
  have hz0 := num_nonneg hwz
  have hy0 := num_nonneg hwy
  have hx' := Lib.hid hx; clear hx
  have hy' := Lib.hid hy; clear hy
  go_enter Tryz.func36, Tryz.ntmps36
  go_wp2_with fail
  obtain ⟨W, hW, hB, hbx, hby, hrx, hz⟩ := boxes2 w nb ao n ca mb bo m cb
  rw [← hW]
  clear hW
  have hs0 := hs.below hB
  have hu0 := hu.below hB
  generalize hBe : w.heap.size = B at *
  have HBe := Lib.hid hBe; clear hBe
  have hBelow := Lib.hid hB
  clear hs hu hB
  obtain ⟨a, ea⟩ : ∃ a, (num zs).toNat = a := ⟨_, rfl⟩
  obtain ⟨b, eb⟩ : ∃ b, (num ys).toNat = b := ⟨_, rfl⟩
  have EA := Lib.hid ea; clear ea
  have EB := Lib.hid eb; clear eb
  have k0 := hbx.c0
  have k1' := hbx.c1
  have l0 := hby.c0
  have l1' := hby.c1
  have TAG := Lib.hid trivial
  go_region_held3 (fun w' => w'.cell? ⟨B, 0, none⟩ = some (.bool nb) ∧ w'.cell? ⟨B, 1, none⟩ = some (.slice ao n ca) ∧ w'.cell? ⟨B + 1, 0, none⟩ = some (.bool mb) ∧ w'.cell? ⟨B + 1, 1, none⟩ = some (.slice bo m cb))
    (first | exact ⟨k0, k1', l0, l1'⟩ | exact ⟨x1.c0, x1.c1, v1.c0, v1.c1⟩ | exact ⟨x2.c0, x2.c1, v2.c0, v2.c1⟩ | exact ⟨x3.c0, x3.c1, v3.c0, v3.c1⟩ | exact ⟨x4.c0, x4.c1, v4.c0, v4.c1⟩ | (refine ⟨?_, ?_, ?_, ?_⟩ <;> go_simp))
    (first
      | (go_at_call 77; clear TAG; refine (refTrim_any ao n ca zs _ (by exact hs0.drew)).mono ?_; rintro e w1 ⟨xo, xk, xc, rfl, hx1, hxk, hw1⟩; have x1 := hbx.drew.below hw1; have v1 := hby.drew.below hw1; have y1 := hrx.drew.below hw1; have e0 := x1.c0; have e1 := x1.c1; have e2 := v1.c0; have e3 := v1.c1)
      | (go_at_call 77; refine (refTrim_any bo m cb ys _ (by exact hu0.drew.below hw1)).mono ?_; rintro e w2 ⟨yo, yk, yc, rfl, hy2, hyk, hw2⟩; have hx2 := hx1.below hw2; have x2 := x1.below hw2; have v2 := v1.below hw2; have y2 := y1.below hw2; clear e0 e1 e2 e3; have e0 := x2.c0; have e1 := x2.c1; have e2 := v2.c0; have e3 := v2.c1)
      | (go_at_call 81; refine (refMulMag_any _ _ _ _ _ _ _ _ _ (by exact hx2) (by exact hy2) (by omega) (by omega)).mono ?_; rintro e w3 ⟨po, pk, pc, L, rfl, hp3, hpn, rfl, hw3⟩; have x3 := x2.below hw3; have v3 := v2.below hw3; have y3 := y2.below hw3; clear e0 e1 e2 e3; have e0 := x3.c0; have e1 := x3.c1; have e2 := v3.c0; have e3 := v3.c1)
      | (go_at_call 52; refine (make1_any (!(nb == mb)) _ _ _ L _ (by exact hp3)).mono ?_; rintro e w4 ⟨nr, ro, k, rc, rfl, hs4, hk, hw4⟩; have x4 := x3.below hw4; have v4 := v3.below hw4; have y4 := y3.below hw4; clear e0 e1 e2 e3; have e0 := x4.c0; have e1 := x4.c1; have e2 := v4.c0; have e3 := v4.c1; have q0 := y4.c0; have q1 := y4.c1; have q2 := y4.f 0; have q3 := y4.f 1))
  obtain ⟨b1, l1⟩ := bnext hBelow.out (by omega) (Below.refl _ W).drew
  obtain ⟨b2, l2⟩ := bnext b1 l1 hw1
  obtain ⟨b3, l3⟩ := bnext b2 l2 hw2
  obtain ⟨b4, l4⟩ := bnext b3 l3 hw3
  obtain ⟨b5, l5⟩ := bnext b4 l4 hw4
  have hEx := Lib.hid b5
  have HV : Hid (x * y = sgd (!(nb == mb)) L) := Lib.hid (by
    rw [hx'.out, hy'.out]
    refine (sgd_prod ?_).trans rfl
    rw [hpn, num_limbs, num_limbs, Int.toNat_of_nonneg hz0, Int.toNat_of_nonneg hy0])
  clear b1 b2 b3 b4 b5 hw1 hw2 hw3 hw4 hbx hby hrx hBelow k0 k1' l0 l1' x1 x2 x3 x4 v1 v2 v3 v4 y1 y2 y3 hx1 hx2 hy2 hp3 hpn hs0 hu0
  have hst := y4.stored nr ro k rc
  have u0 := hst.c0
  have u1 := hst.c1
  have HRES := Lib.hid (show Bn ((w4.setCell ⟨B + 1 + 1, 0, none⟩ (.bool nr)).setCell ⟨B + 1 + 1, 1, none⟩ (.slice ro k rc)) nr ro k rc (x * y) from by
    rw [HV.out]; exact ⟨hs4.neg, hs4.sl.only_box y4 (only_set2 _ _ _ _)⟩)
  have HBL := Lib.hid (hEx.out.trans ((only_set2 w4 (B + 1 + 1) (.bool nr) (.slice ro k rc)).below (by omega)))
  clear hs4 hst
  go_wp2
  refine bodyPost_ret (v := .agg #[.bool nr, .slice ro k rc]) (by simp [results, Tryz.results36, go_sem, u0, u1]) rfl ⟨_, ro, k, rc, rfl, HRES.out, ?_⟩
  rw [Ext, HBe.out]; exact HBL.out

/-- the sum of a sign and limbs with another sign and limbs -/
theorem sgd_plus {nb : Bool} {zs ys L : List Int} (h : num L = num zs + num ys) : sgd nb zs + sgd nb ys = sgd nb L := by
  unfold sgd
  rw [h]
  cases nb
  · simp
  · simp only [if_true]; omega
theorem sgd_less {nb mb : Bool} {zs ys L : List Int} (hne : nb ≠ mb) (h : num L = num zs - num ys) : sgd nb zs + sgd mb ys = sgd nb L ∧ sgd mb ys + sgd nb zs = sgd nb L := by
  unfold sgd
  rw [h]
  cases nb <;> cases mb <;> simp at hne ⊢ <;> omega
theorem sgn3_ge {a b : Nat} (h : b ≤ a) : (sgn3 (a : Int) b ≥ 0) = True := by
  unfold sgn3
  rw [if_neg (by omega)]
  split <;> simp
theorem sgn3_lt {a b : Nat} (h : ¬ b ≤ a) : (sgn3 (a : Int) b ≥ 0) = False := by
  unfold sgn3
  rw [if_pos (by omega)]
  simp

set_option maxRecDepth 100000 in
set_option maxHeartbeats 4000000 in
theorem refAdd_any (nb mb : Bool) (ao : Option Addr) (n ca : Nat) (bo : Option Addr) (m cb : Nat) (x y : Int) (w : World) (ha : Bg w nb ao n ca x) (hb : Bg w mb bo m cb y) :
    Calls Tryz.prog 35 #[.agg #[.bool nb, .slice ao n ca], .agg #[.bool mb, .slice bo m cb]] w fun e w' => ∃ nr ro k cr, e = .returned (.agg #[.bool nr, .slice ro k cr]) ∧ Bn w' nr ro k cr (x + y) ∧ Ext w w' := by
  obtain ⟨⟨zs, hs, hx⟩, hsm⟩ := ha
  obtain ⟨⟨ys, hu, hy⟩, hum⟩ := hb
  have hwz := hs.wf
  have hwy := hu.wf
  have hz0 := num_nonneg hwz
  have hy0 := num_nonneg hwy
  have hx' := Lib.hid hx; clear hx
  have hy' := Lib.hid hy; clear hy
  go_enter Tryz.func35, Tryz.ntmps35
  go_wp2_with fail
  obtain ⟨W, hW, hB, hbx, hby, hrx, hz⟩ := boxes2 w nb ao n ca mb bo m cb
  rw [← hW]
  clear hW
  have hs0 := hs.below hB
  have hu0 := hu.below hB
  generalize hBe : w.heap.size = B at *
  have HBe := Lib.hid hBe; clear hBe
  have hBelow := Lib.hid hB
  clear hs hu hB
  obtain ⟨a, ea⟩ : ∃ a, (num zs).toNat = a := ⟨_, rfl⟩
  obtain ⟨b, eb⟩ : ∃ b, (num ys).toNat = b := ⟨_, rfl⟩
  have EA := Lib.hid ea; clear ea
  have EB := Lib.hid eb; clear eb
  have k0 := hbx.c0
  have k1' := hbx.c1
  have l0 := hby.c0
  have l1' := hby.c1
  have TAG := Lib.hid trivial
  go_region_held3 (fun w' => w'.cell? ⟨B, 0, none⟩ = some (.bool nb) ∧ w'.cell? ⟨B, 1, none⟩ = some (.slice ao n ca) ∧ w'.cell? ⟨B + 1, 0, none⟩ = some (.bool mb) ∧ w'.cell? ⟨B + 1, 1, none⟩ = some (.slice bo m cb))
    (first | exact ⟨k0, k1', l0, l1'⟩ | exact ⟨x1.c0, x1.c1, v1.c0, v1.c1⟩ | exact ⟨x2.c0, x2.c1, v2.c0, v2.c1⟩ | (refine ⟨?_, ?_, ?_, ?_⟩ <;> go_simp))
    (first
      | (go_at_call 77; clear TAG; refine (refTrim_any ao n ca zs _ (by exact hs0.drew)).mono ?_; rintro e w1 ⟨xo, xk, xc, rfl, hx1, hxk, hw1⟩; have x1 := hbx.drew.below hw1; have v1 := hby.drew.below hw1; have y1 := hrx.drew.below hw1; have e0 := x1.c0; have e1 := x1.c1; have e2 := v1.c0; have e3 := v1.c1)
      | (go_at_call 77; refine (refTrim_any bo m cb ys _ (by exact hu0.drew.below hw1)).mono ?_; rintro e w2 ⟨yo, yk, yc, rfl, hy2, hyk, hw2⟩; have hx2 := hx1.below hw2; have x2 := x1.below hw2; have v2 := v1.below hw2; have y2 := y1.below hw2; clear e0 e1 e2 e3; have e0 := x2.c0; have e1 := x2.c1; have e2 := v2.c0; have e3 := v2.c1))
  obtain ⟨b1, l1⟩ := bnext hBelow.out (by omega) (Below.refl _ W).drew
  obtain ⟨b2, l2⟩ := bnext b1 l1 hw1
  obtain ⟨b3, l3⟩ := bnext b2 l2 hw2
  have hEx0 := Lib.hid b3
  rw [EA.out] at hx2
  rw [EB.out] at hy2
  have hxa : num zs = (a : Int) := by rw [← EA.out, Int.toNat_of_nonneg hz0]
  have hyb : num ys = (b : Int) := by rw [← EB.out, Int.toNat_of_nonneg hy0]
  have HXA := Lib.hid hxa; clear hxa
  have HYB := Lib.hid hyb; clear hyb
  have hx2b := hx2.big
  clear b1 b2 b3 hw1 hw2 hbx hby hrx hBelow k0 k1' l0 l1' x1 v1 y1 hx1 hs0 hu0
  by_cases hne : nb = mb
  · subst hne
    have hbb : (nb == nb) = true := by cases nb <;> rfl
    go_wp2_with fail
    have x2 := x2.drew
    have v2 := v2.drew
    have y2 := y2.drew
    go_region_held3 (fun w' => w'.cell? ⟨B, 0, none⟩ = some (.bool nb) ∧ w'.cell? ⟨B, 1, none⟩ = some (.slice ao n ca) ∧ w'.cell? ⟨B + 1, 0, none⟩ = some (.bool nb) ∧ w'.cell? ⟨B + 1, 1, none⟩ = some (.slice bo m cb))
      (first | exact ⟨x2.c0, x2.c1, v2.c0, v2.c1⟩ | exact ⟨x3.c0, x3.c1, v3.c0, v3.c1⟩ | exact ⟨x4.c0, x4.c1, v4.c0, v4.c1⟩ | (refine ⟨?_, ?_, ?_, ?_⟩ <;> go_simp))
      (first
        | (go_at_call 78; refine (refAddMag_any _ _ _ _ _ _ _ _ _ (by exact hx2.drew) (by exact hy2.drew) (by omega) (by omega)).mono ?_; rintro e w3 ⟨po, pk, pc, L, rfl, hp3, hpn, rfl, hw3⟩; have x3 := x2.below hw3; have v3 := v2.below hw3; have y3 := y2.below hw3; clear e0 e1 e2 e3; have e0 := x3.c0; have e1 := x3.c1; have e2 := v3.c0; have e3 := v3.c1)
        | (go_at_call 52; refine (make1_any nb _ _ _ L _ (by exact hp3)).mono ?_; rintro e w4 ⟨nr, ro, k, rc, rfl, hs4, hk, hw4⟩; have x4 := x3.below hw4; have v4 := v3.below hw4; have y4 := y3.below hw4; clear e0 e1 e2 e3; have e0 := x4.c0; have e1 := x4.c1; have e2 := v4.c0; have e3 := v4.c1; have q0 := y4.c0; have q1 := y4.c1; have q2 := y4.f 0; have q3 := y4.f 1))
    obtain ⟨b1, l1⟩ := bnext hEx0.out (Nat.le_of_lt x2.lt) (Below.refl _ _).drew
    obtain ⟨b2, l2⟩ := bnext b1 l1 hw3
    obtain ⟨b3, l3⟩ := bnext b2 l2 hw4
    have hEx := Lib.hid b3
    have HV : Hid (x + y = sgd nb L) := Lib.hid (by
      rw [hx'.out, hy'.out]
      exact sgd_plus (by rw [hpn, num_limbs, num_limbs, HXA.out, HYB.out]))
    clear b1 b2 b3 hw3 hw4 x2 x3 x4 v2 v3 v4 y2 y3 hp3 hpn
    have hst := y4.stored nr ro k rc
    have u0 := hst.c0
    have u1 := hst.c1
    have HRES := Lib.hid (show Bn ((w4.setCell ⟨B + 1 + 1, 0, none⟩ (.bool nr)).setCell ⟨B + 1 + 1, 1, none⟩ (.slice ro k rc)) nr ro k rc (x + y) from by
      rw [HV.out]; exact ⟨hs4.neg, hs4.sl.only_box y4 (only_set2 _ _ _ _)⟩)
    have HBL := Lib.hid (hEx.out.trans ((only_set2 w4 (B + 1 + 1) (.bool nr) (.slice ro k rc)).below (by omega)))
    clear hs4 hst
    go_wp2
    refine bodyPost_ret (v := .agg #[.bool nr, .slice ro k rc]) (by simp [results, Tryz.results35, go_sem, u0, u1]) rfl ⟨_, ro, k, rc, rfl, HRES.out, ?_⟩
    rw [Ext, HBe.out]; exact HBL.out
  · have hbb : (nb == mb) = false := by cases nb <;> cases mb <;> simp at hne ⊢
    have HNE := Lib.hid hne; clear hne
    by_cases hab : b ≤ a
    · have hc := sgn3_ge hab
      go_wp2_with fail
      refine (refCmpMag_any a b _ _ _ _ _ _ _ hx2 hy2).mono ?_
      rintro e wq ⟨rfl, q, rfl⟩
      have x2 := x2.drewN q
      have v2 := v2.drewN q
      have y2 := y2.drewN q
      have hx2 := hx2.drewN q
      have hy2 := hy2.drewN q
      have hEx0 := Lib.hid (below_drewN hEx0.out q)
      have hl : yk ≤ xk := by have := limbs_mono hab; rw [hx2.len, hy2.len] at this; exact this
      go_wp2_with fail
      have x2 := x2.drew
      have v2 := v2.drew
      have y2 := y2.drew
      go_region_held3 (fun w' => w'.cell? ⟨B, 0, none⟩ = some (.bool nb) ∧ w'.cell? ⟨B, 1, none⟩ = some (.slice ao n ca) ∧ w'.cell? ⟨B + 1, 0, none⟩ = some (.bool mb) ∧ w'.cell? ⟨B + 1, 1, none⟩ = some (.slice bo m cb))
        (first | exact ⟨x2.c0, x2.c1, v2.c0, v2.c1⟩ | exact ⟨x3.c0, x3.c1, v3.c0, v3.c1⟩ | exact ⟨x4.c0, x4.c1, v4.c0, v4.c1⟩ | (refine ⟨?_, ?_, ?_, ?_⟩ <;> go_simp))
        (first
          | (go_at_call 80; refine (refSubMag_any _ _ _ _ _ _ _ _ _ (by exact hx2.drew) (by exact hy2.drew) (by omega) hl (by rw [num_limbs, num_limbs]; omega)).mono ?_; rintro e w3 ⟨po, pk, pc, L, rfl, hp3, hpn, rfl, hw3⟩; have x3 := x2.below hw3; have v3 := v2.below hw3; have y3 := y2.below hw3; clear e0 e1 e2 e3; have e0 := x3.c0; have e1 := x3.c1; have e2 := v3.c0; have e3 := v3.c1)
          | (go_at_call 52; refine (make1_any nb _ _ _ L _ (by exact hp3)).mono ?_; rintro e w4 ⟨nr, ro, k, rc, rfl, hs4, hk, hw4⟩; have x4 := x3.below hw4; have v4 := v3.below hw4; have y4 := y3.below hw4; clear e0 e1 e2 e3; have e0 := x4.c0; have e1 := x4.c1; have e2 := v4.c0; have e3 := v4.c1; have q0 := y4.c0; have q1 := y4.c1; have q2 := y4.f 0; have q3 := y4.f 1))
      obtain ⟨b1, l1⟩ := bnext hEx0.out (Nat.le_of_lt x2.lt) (Below.refl _ _).drew
      obtain ⟨b2, l2⟩ := bnext b1 l1 hw3
      obtain ⟨b3, l3⟩ := bnext b2 l2 hw4
      have hEx := Lib.hid b3
      have HV : Hid (x + y = sgd nb L) := Lib.hid (by
        rw [hx'.out, hy'.out]
        exact (sgd_less HNE.out (by rw [hpn, num_limbs, num_limbs, HXA.out, HYB.out])).1)
      clear b1 b2 b3 hw3 hw4 x2 x3 x4 v2 v3 v4 y2 y3 hp3 hpn
      have hst := y4.stored nr ro k rc
      have u0 := hst.c0
      have u1 := hst.c1
      have HRES := Lib.hid (show Bn ((w4.setCell ⟨B + 1 + 1, 0, none⟩ (.bool nr)).setCell ⟨B + 1 + 1, 1, none⟩ (.slice ro k rc)) nr ro k rc (x + y) from by
        rw [HV.out]; exact ⟨hs4.neg, hs4.sl.only_box y4 (only_set2 _ _ _ _)⟩)
      have HBL := Lib.hid (hEx.out.trans ((only_set2 w4 (B + 1 + 1) (.bool nr) (.slice ro k rc)).below (by omega)))
      clear hs4 hst
      go_wp2
      refine bodyPost_ret (v := .agg #[.bool nr, .slice ro k rc]) (by simp [results, Tryz.results35, go_sem, u0, u1]) rfl ⟨_, ro, k, rc, rfl, HRES.out, ?_⟩
      rw [Ext, HBe.out]; exact HBL.out
    · have hc := sgn3_lt hab
      go_wp2_with fail
      refine (refCmpMag_any a b _ _ _ _ _ _ _ hx2 hy2).mono ?_
      rintro e wq ⟨rfl, q, rfl⟩
      have x2 := x2.drewN q
      have v2 := v2.drewN q
      have y2 := y2.drewN q
      have hx2 := hx2.drewN q
      have hy2 := hy2.drewN q
      have hEx0 := Lib.hid (below_drewN hEx0.out q)
      have hl : xk ≤ yk := by have := limbs_mono (show a ≤ b by omega); rw [hx2.len, hy2.len] at this; exact this
      go_wp2_with fail
      have x2 := x2.drew
      have v2 := v2.drew
      have y2 := y2.drew
      go_region_held3 (fun w' => w'.cell? ⟨B, 0, none⟩ = some (.bool nb) ∧ w'.cell? ⟨B, 1, none⟩ = some (.slice ao n ca) ∧ w'.cell? ⟨B + 1, 0, none⟩ = some (.bool mb) ∧ w'.cell? ⟨B + 1, 1, none⟩ = some (.slice bo m cb))
        (first | exact ⟨x2.c0, x2.c1, v2.c0, v2.c1⟩ | exact ⟨x3.c0, x3.c1, v3.c0, v3.c1⟩ | exact ⟨x4.c0, x4.c1, v4.c0, v4.c1⟩ | (refine ⟨?_, ?_, ?_, ?_⟩ <;> go_simp))
        (first
          | (go_at_call 80; refine (refSubMag_any _ _ _ _ _ _ _ _ _ (by exact hy2.drew) (by exact hx2.drew) (by omega) hl (by rw [num_limbs, num_limbs]; omega)).mono ?_; rintro e w3 ⟨po, pk, pc, L, rfl, hp3, hpn, rfl, hw3⟩; have x3 := x2.below hw3; have v3 := v2.below hw3; have y3 := y2.below hw3; clear e0 e1 e2 e3; have e0 := x3.c0; have e1 := x3.c1; have e2 := v3.c0; have e3 := v3.c1)
          | (go_at_call 52; refine (make1_any mb _ _ _ L _ (by exact hp3)).mono ?_; rintro e w4 ⟨nr, ro, k, rc, rfl, hs4, hk, hw4⟩; have x4 := x3.below hw4; have v4 := v3.below hw4; have y4 := y3.below hw4; clear e0 e1 e2 e3; have e0 := x4.c0; have e1 := x4.c1; have e2 := v4.c0; have e3 := v4.c1; have q0 := y4.c0; have q1 := y4.c1; have q2 := y4.f 0; have q3 := y4.f 1))
      obtain ⟨b1, l1⟩ := bnext hEx0.out (Nat.le_of_lt x2.lt) (Below.refl _ _).drew
      obtain ⟨b2, l2⟩ := bnext b1 l1 hw3
      obtain ⟨b3, l3⟩ := bnext b2 l2 hw4
      have hEx := Lib.hid b3
      have HV : Hid (x + y = sgd mb L) := Lib.hid (by
        rw [hx'.out, hy'.out]
        exact (sgd_less (Ne.symm HNE.out) (by rw [hpn, num_limbs, num_limbs, HXA.out, HYB.out])).2)
      clear b1 b2 b3 hw3 hw4 x2 x3 x4 v2 v3 v4 y2 y3 hp3 hpn
      have hst := y4.stored nr ro k rc
      have u0 := hst.c0
      have u1 := hst.c1
      have HRES := Lib.hid (show Bn ((w4.setCell ⟨B + 1 + 1, 0, none⟩ (.bool nr)).setCell ⟨B + 1 + 1, 1, none⟩ (.slice ro k rc)) nr ro k rc (x + y) from by
        rw [HV.out]; exact ⟨hs4.neg, hs4.sl.only_box y4 (only_set2 _ _ _ _)⟩)
      have HBL := Lib.hid (hEx.out.trans ((only_set2 w4 (B + 1 + 1) (.bool nr) (.slice ro k rc)).below (by omega)))
      clear hs4 hst
      go_wp2
      refine bodyPost_ret (v := .agg #[.bool nr, .slice ro k rc]) (by simp [results, Tryz.results35, go_sem, u0, u1]) rfl ⟨_, ro, k, rc, rfl, HRES.out, ?_⟩
      rw [Ext, HBe.out]; exact HBL.out
end Go.Proofs.YtlpclahlolhjfaaGreatDoor
