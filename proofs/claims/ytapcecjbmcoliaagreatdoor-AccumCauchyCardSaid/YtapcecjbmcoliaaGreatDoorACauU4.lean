import Derived.Test.YtapcecjbmcoliaaGreatDoorACauU2
import Derived.Test.YtapcecjbmcoliaaGreatDoorACauU3
import Derived.Deep.RegionHeld3
namespace Go.Proofs.YtapcecjbmcoliaaGreatDoor
open Go.RowKit

theorem sgd_add {nb : Bool} {zs ys : List Int} (hz : Wf zs) (hy : Wf ys) : sgd nb zs + sgd nb ys = if nb then - (((num zs).toNat + (num ys).toNat : Nat) : Int) else (((num zs).toNat + (num ys).toNat : Nat) : Int) := by
  have a := num_nonneg hz
  have b := num_nonneg hy
  unfold sgd
  cases nb <;> simp <;> omega
theorem sgd_sub_ge {nb mb : Bool} {zs ys : List Int} (hz : Wf zs) (hy : Wf ys) (hm : mb = !nb) (h : (num ys).toNat ≤ (num zs).toNat) :
    sgd nb zs + sgd mb ys = if nb then - (((num zs).toNat - (num ys).toNat : Nat) : Int) else (((num zs).toNat - (num ys).toNat : Nat) : Int) := by
  have a := num_nonneg hz
  have b := num_nonneg hy
  subst hm
  unfold sgd
  cases nb <;> simp <;> omega
theorem sgd_sub_lt {nb mb : Bool} {zs ys : List Int} (hz : Wf zs) (hy : Wf ys) (hm : mb = !nb) (h : (num zs).toNat ≤ (num ys).toNat) :
    sgd nb zs + sgd mb ys = if mb then - (((num ys).toNat - (num zs).toNat : Nat) : Int) else (((num ys).toNat - (num zs).toNat : Nat) : Int) := by
  have a := num_nonneg hz
  have b := num_nonneg hy
  subst hm
  unfold sgd
  cases nb <;> simp <;> omega

set_option maxRecDepth 100000 in
set_option maxHeartbeats 2000000 in
theorem add_same (nb : Bool) (ao : Option Addr) (n ca : Nat) (bo : Option Addr) (m cb : Nat) (x y : Int) (w : World) (ha : Bg w nb ao n ca x) (hb : Bg w nb bo m cb y) :
    Calls Tryz.prog 67 #[.agg #[.bool nb, .slice ao n ca], .agg #[.bool nb, .slice bo m cb]] w fun e w' => ∃ nr ro k cr, e = .returned (.agg #[.bool nr, .slice ro k cr]) ∧ Bn w' nr ro k cr (x + y) ∧ Below w.heap.size w w' := by
  obtain ⟨⟨zs, hs, hx⟩, hsm⟩ := ha
  obtain ⟨⟨ys, hu, hy⟩, hum⟩ := hb
  have hwz := hs.wf
  have hwy := hu.wf
  have hx' := Lib.hid hx; clear hx
  have hy' := Lib.hid hy; clear hy
  go_enter Tryz.func67, Tryz.ntmps67
  go_wp2_with fail
  obtain ⟨W, hW, hB, hbx, hby, hrx, hz⟩ := boxes2 w nb ao n ca nb bo m cb
  rw [← hW]
  clear hW
  have hs0 := hs.below hB
  have hu0 := hu.below hB
  generalize hBe : w.heap.size = B at *
  have HBe := Lib.hid hBe; clear hBe
  have hBelow := Lib.hid hB
  clear hs hu hB
  obtain ⟨k1, hk1, hs1, ht1⟩ := trim_at _ _ _ _ _ hs0
  obtain ⟨k2, hk2, hu1, ht2⟩ := trim_at _ _ _ _ _ hu0
  have HT1 := Lib.hid ht1; clear ht1
  have HT2 := Lib.hid ht2; clear ht2
  have k0 := hbx.c0
  have k1' := hbx.c1
  have l0 := hby.c0
  have l1' := hby.c1
  go_quiet ((go_at_call 46; first | (with_reducible exact quiet_left (HT1.out _ (by exact hs0.drewN _))) | (with_reducible exact quiet_left (HT2.out _ (by exact hu0.drewN _)))))
  go_wp2
  obtain ⟨W2, hW2, hq⟩ := drewN_world W nq
  rw [hW2]
  clear hW2
  have hs2 := hs1.below hq
  have hu2 := hu1.below hq
  have hbx2 := hbx.below hq
  have hrx2 := hrx.below hq
  obtain ⟨hb2, hz2⟩ := bnext hBelow.out (by omega) hq
  have hb2' := Lib.hid hb2; clear hb2
  have hz2' : B + 3 ≤ W2.heap.size := by have := hq.size; omega
  clear hs1 hu1 hs0 hu0 hbx hby hrx hq k0 k1' l0 l1' HT1 HT2
  have k0 := hbx2.c0
  go_region_held3 (fun w' => w'.cell? ⟨B, 0, none⟩ = some (.bool nb))
    (first | exact k0 | exact x2.c0 | exact x3.c0 | go_simp)
    (first
      | (go_at_call 77; refine (plus_any _ _ _ _ _ _ _ _ _ (by exact hs2.drew) (by exact hu2.drew) (by omega) (by omega)).mono ?_; rintro e w2 ⟨ro, k, cr, rfl, hp, hw2⟩; have x2 := hbx2.drew.below hw2; have y2 := hrx2.drew.below hw2)
      | (go_at_call 53; refine (signed_any _ _ _ _ _ _ (by exact hp)).mono ?_; rintro e w3 ⟨ro', cr', rfl, hs3, hw3⟩; have x3 := x2.below hw3; have y3 := y2.below hw3; have q0 := y3.c0; have q1 := y3.c1; have q2 := y3.f 0; have q3 := y3.f 1; have e0 := x3.c0))
  have z3 := y3.stored (nb && decide (0 < k)) ro' k cr'
  have z0 := z3.c0
  have z1 := z3.c1
  go_wp2
  refine bodyPost_ret (v := .agg #[.bool (nb && decide (0 < k)), .slice ro' k cr']) (by simp [results, Tryz.results67, go_sem, z0, z1]) rfl ⟨_, ro', k, cr', rfl, ?_, ?_⟩
  · refine bn_of (hs3.only_box y3 (only_set2 _ _ _ _)) rfl ?_
    rw [hx'.out, hy'.out]; exact sgd_add hwz hwy
  · obtain ⟨b1, l1⟩ := bnext hb2'.out (by omega) (Below.refl _ W2).drew
    obtain ⟨b2, l2⟩ := bnext b1 l1 hw2
    obtain ⟨b3, l3⟩ := bnext b2 l2 hw3
    rw [HBe.out]
    exact b3.trans ((only_set2 _ _ _ _).below (by omega))
set_option maxRecDepth 100000 in
set_option maxHeartbeats 2000000 in
theorem add_GE (nb mb : Bool) (ao : Option Addr) (n ca : Nat) (bo : Option Addr) (m cb : Nat) (x y : Int) (w : World) (ha : Bg w nb ao n ca x) (hb : Bg w mb bo m cb y) (hm : mb = !nb) (hge : ∀ zs ys, Sl w ao n ca zs → Sl w bo m cb ys → (num ys).toNat ≤ (num zs).toNat) :
    Calls Tryz.prog 67 #[.agg #[.bool nb, .slice ao n ca], .agg #[.bool mb, .slice bo m cb]] w fun e w' => ∃ nr ro k cr, e = .returned (.agg #[.bool nr, .slice ro k cr]) ∧ Bn w' nr ro k cr (x + y) ∧ Below w.heap.size w w' := by
  obtain ⟨⟨zs, hs, hx⟩, hsm⟩ := ha
  obtain ⟨⟨ys, hu, hy⟩, hum⟩ := hb
  have hwz := hs.wf
  have hwy := hu.wf
  have hle := hge _ _ hs hu
  have hle' := Lib.hid hle
  clear hge hle
  have hmn : (nb == mb) = false := by subst hm; cases nb <;> rfl
  have hm' := Lib.hid hm; clear hm
  have hx' := Lib.hid hx; clear hx
  have hy' := Lib.hid hy; clear hy
  go_enter Tryz.func67, Tryz.ntmps67
  go_wp2_with fail
  obtain ⟨W, hW, hB, hbx, hby, hrx, hz⟩ := boxes2 w nb ao n ca mb bo m cb
  rw [← hW]
  clear hW
  have hs0 := hs.below hB
  have hu0 := hu.below hB
  generalize hBe : w.heap.size = B at *
  have HBe := Lib.hid hBe; clear hBe
  have hBelow := Lib.hid hB
  clear hs hu hB
  obtain ⟨k1, hk1, hs1, ht1⟩ := trim_at _ _ _ _ _ hs0
  obtain ⟨k2, hk2, hu1, ht2⟩ := trim_at _ _ _ _ _ hu0
  generalize ea : (num zs).toNat = a at hs1 hle'
  generalize eb : (num ys).toNat = b at hu1 hle'
  have EA := Lib.hid ea; clear ea
  have EB := Lib.hid eb; clear eb
  have HT1 := Lib.hid ht1; clear ht1
  have HT2 := Lib.hid ht2; clear ht2
  have k0 := hbx.c0
  have k1' := hbx.c1
  have l0 := hby.c0
  have l1' := hby.c1
  go_quiet ((go_at_call 46; first | (with_reducible exact quiet_left (HT1.out _ (by exact hs0.drewN _))) | (with_reducible exact quiet_left (HT2.out _ (by exact hu0.drewN _)))))
  go_wp2_with fail
  refine (compare_any _ _ _ _ _ _ _ _ _ (by exact hs1.drewN nq) (by exact hu1.drewN nq)).mono ?_
  rintro e w' ⟨rfl, q2, rfl⟩
  rw [World.drewN_drewN]
  obtain ⟨W2, hW2, hq⟩ := drewN_world W (nq + q2)
  rw [hW2]
  clear hW2
  have hsg : decide (0 ≤ sgn3 (a : Int) (b : Int)) = true := by have := hle'.out; simp [sgn3]; omega
  have hs2 := hs1.below hq
  have hu2 := hu1.below hq
  have hbx2 := hbx.below hq
  have hrx2 := hrx.below hq
  obtain ⟨hb2, hz2⟩ := bnext hBelow.out (by omega) hq
  have hb2' := Lib.hid hb2; clear hb2
  have hz2' : B + 3 ≤ W2.heap.size := by have := hq.size; omega
  clear hs1 hu1 hs0 hu0 hbx hby hrx hq k0 k1' l0 l1' HT1 HT2
  have k0 := hbx2.c0
  go_wp2
  go_region_held3 (fun w' => w'.cell? ⟨B, 0, none⟩ = some (.bool nb))
    (first | exact k0 | exact x2.c0 | exact x3.c0 | go_simp)
    (first
      | (go_at_call 102; refine (minus_any _ _ _ _ _ _ _ _ _ (by exact hs2.drew) (by exact hu2.drew) (by exact hle'.out)).mono ?_; rintro e w2 ⟨ro, k, cr, rfl, hp, hw2⟩; have x2 := hbx2.drew.below hw2; have y2 := hrx2.drew.below hw2)
      | (go_at_call 53; refine (signed_any _ _ _ _ _ _ (by exact hp)).mono ?_; rintro e w3 ⟨ro', cr', rfl, hs3, hw3⟩; have x3 := x2.below hw3; have y3 := y2.below hw3; have q0 := y3.c0; have q1 := y3.c1; have q2 := y3.f 0; have q3 := y3.f 1; have e0 := x3.c0))
  have z3 := y3.stored (nb && decide (0 < k)) ro' k cr'
  have z0 := z3.c0
  have z1 := z3.c1
  go_wp2
  refine bodyPost_ret (v := .agg #[.bool (nb && decide (0 < k)), .slice ro' k cr']) (by simp [results, Tryz.results67, go_sem, z0, z1]) rfl ⟨_, ro', k, cr', rfl, ?_, ?_⟩
  · refine bn_of (hs3.only_box y3 (only_set2 _ _ _ _)) rfl ?_
    have e := sgd_sub_ge hwz hwy hm'.out (by rw [EA.out, EB.out]; exact hle'.out)
    rw [EA.out, EB.out] at e
    rw [hx'.out, hy'.out]; exact e
  · obtain ⟨b1, l1⟩ := bnext hb2'.out (by omega) (Below.refl _ W2).drew
    obtain ⟨b2, l2⟩ := bnext b1 l1 hw2
    obtain ⟨b3, l3⟩ := bnext b2 l2 hw3
    rw [HBe.out]
    exact b3.trans ((only_set2 _ _ _ _).below (by omega))
set_option maxRecDepth 100000 in
set_option maxHeartbeats 2000000 in
theorem add_LT (nb mb : Bool) (ao : Option Addr) (n ca : Nat) (bo : Option Addr) (m cb : Nat) (x y : Int) (w : World) (ha : Bg w nb ao n ca x) (hb : Bg w mb bo m cb y) (hm : mb = !nb) (hge : ∀ zs ys, Sl w ao n ca zs → Sl w bo m cb ys → (num zs).toNat < (num ys).toNat) :
    Calls Tryz.prog 67 #[.agg #[.bool nb, .slice ao n ca], .agg #[.bool mb, .slice bo m cb]] w fun e w' => ∃ nr ro k cr, e = .returned (.agg #[.bool nr, .slice ro k cr]) ∧ Bn w' nr ro k cr (x + y) ∧ Below w.heap.size w w' := by
  obtain ⟨⟨zs, hs, hx⟩, hsm⟩ := ha
  obtain ⟨⟨ys, hu, hy⟩, hum⟩ := hb
  have hwz := hs.wf
  have hwy := hu.wf
  have hle := hge _ _ hs hu
  have hle' := Lib.hid hle
  clear hge hle
  have hmn : (nb == mb) = false := by subst hm; cases nb <;> rfl
  have hm' := Lib.hid hm; clear hm
  have hx' := Lib.hid hx; clear hx
  have hy' := Lib.hid hy; clear hy
  go_enter Tryz.func67, Tryz.ntmps67
  go_wp2_with fail
  obtain ⟨W, hW, hB, hbx, hby, hrx, hz⟩ := boxes2 w nb ao n ca mb bo m cb
  rw [← hW]
  clear hW
  have hs0 := hs.below hB
  have hu0 := hu.below hB
  generalize hBe : w.heap.size = B at *
  have HBe := Lib.hid hBe; clear hBe
  have hBelow := Lib.hid hB
  clear hs hu hB
  obtain ⟨k1, hk1, hs1, ht1⟩ := trim_at _ _ _ _ _ hs0
  obtain ⟨k2, hk2, hu1, ht2⟩ := trim_at _ _ _ _ _ hu0
  generalize ea : (num zs).toNat = a at hs1 hle'
  generalize eb : (num ys).toNat = b at hu1 hle'
  have EA := Lib.hid ea; clear ea
  have EB := Lib.hid eb; clear eb
  have HT1 := Lib.hid ht1; clear ht1
  have HT2 := Lib.hid ht2; clear ht2
  have k0 := hbx.c0
  have k1' := hbx.c1
  have l0 := hby.c0
  have l1' := hby.c1
  go_quiet ((go_at_call 46; first | (with_reducible exact quiet_left (HT1.out _ (by exact hs0.drewN _))) | (with_reducible exact quiet_left (HT2.out _ (by exact hu0.drewN _)))))
  go_wp2_with fail
  refine (compare_any _ _ _ _ _ _ _ _ _ (by exact hs1.drewN nq) (by exact hu1.drewN nq)).mono ?_
  rintro e w' ⟨rfl, q2, rfl⟩
  rw [World.drewN_drewN]
  obtain ⟨W2, hW2, hq⟩ := drewN_world W (nq + q2)
  rw [hW2]
  clear hW2
  have hsg : decide (0 ≤ sgn3 (a : Int) (b : Int)) = false := by have := hle'.out; simp [sgn3]; omega
  have hs2 := hs1.below hq
  have hu2 := hu1.below hq
  have hbx2 := hby.below hq
  have hrx2 := hrx.below hq
  obtain ⟨hb2, hz2⟩ := bnext hBelow.out (by omega) hq
  have hb2' := Lib.hid hb2; clear hb2
  have hz2' : B + 3 ≤ W2.heap.size := by have := hq.size; omega
  clear hs1 hu1 hs0 hu0 hbx hby hrx hq k0 k1' l0 l1' HT1 HT2
  have k0 := hbx2.c0
  go_wp2
  go_region_held3 (fun w' => w'.cell? ⟨B + 1, 0, none⟩ = some (.bool mb))
    (first | exact k0 | exact x2.c0 | exact x3.c0 | go_simp)
    (first
      | (go_at_call 102; refine (minus_any _ _ _ _ _ _ _ _ _ (by exact hu2.drew) (by exact hs2.drew) (by exact Nat.le_of_lt hle'.out)).mono ?_; rintro e w2 ⟨ro, k, cr, rfl, hp, hw2⟩; have x2 := hbx2.drew.below hw2; have y2 := hrx2.drew.below hw2)
      | (go_at_call 53; refine (signed_any _ _ _ _ _ _ (by exact hp)).mono ?_; rintro e w3 ⟨ro', cr', rfl, hs3, hw3⟩; have x3 := x2.below hw3; have y3 := y2.below hw3; have q0 := y3.c0; have q1 := y3.c1; have q2 := y3.f 0; have q3 := y3.f 1; have e0 := x3.c0))
  have z3 := y3.stored (mb && decide (0 < k)) ro' k cr'
  have z0 := z3.c0
  have z1 := z3.c1
  go_wp2
  refine bodyPost_ret (v := .agg #[.bool (mb && decide (0 < k)), .slice ro' k cr']) (by simp [results, Tryz.results67, go_sem, z0, z1]) rfl ⟨_, ro', k, cr', rfl, ?_, ?_⟩
  · refine bn_of (hs3.only_box y3 (only_set2 _ _ _ _)) rfl ?_
    have e := sgd_sub_lt hwz hwy hm'.out (by rw [EA.out, EB.out]; exact Nat.le_of_lt hle'.out)
    rw [EA.out, EB.out] at e
    rw [hx'.out, hy'.out]; exact e
  · obtain ⟨b1, l1⟩ := bnext hb2'.out (by omega) (Below.refl _ W2).drew
    obtain ⟨b2, l2⟩ := bnext b1 l1 hw2
    obtain ⟨b3, l3⟩ := bnext b2 l2 hw3
    rw [HBe.out]
    exact b3.trans ((only_set2 _ _ _ _).below (by omega))
theorem num_fun {w : World} {ao : Option Addr} {n cap : Nat} {zs ys : List Int} (h : Sl w ao n cap zs) (k : Sl w ao n cap ys) : zs = ys := by
  have hl := h.len
  have kl := k.len
  apply List.ext_getElem (by rw [hl, kl])
  intro i h1 h2
  obtain ⟨b, off, e, hc⟩ := h.cells (by omega)
  obtain ⟨b', off', e', hc'⟩ := k.cells (by omega)
  rw [e] at e'
  cases e'
  have a1 := hc i h1
  rw [hc' i h2] at a1
  rw [getD_at h1, getD_at h2] at a1
  simp at a1
  exact a1.symm

/-- the sum, whatever the signs -/
theorem add_any (nb mb : Bool) (ao : Option Addr) (n ca : Nat) (bo : Option Addr) (m cb : Nat) (x y : Int) (w : World) (ha : Bg w nb ao n ca x) (hb : Bg w mb bo m cb y) :
    Calls Tryz.prog 67 #[.agg #[.bool nb, .slice ao n ca], .agg #[.bool mb, .slice bo m cb]] w fun e w' => ∃ nr ro k cr, e = .returned (.agg #[.bool nr, .slice ro k cr]) ∧ Bn w' nr ro k cr (x + y) ∧ Below w.heap.size w w' := by
  by_cases h : nb = mb
  · subst h; exact add_same nb ao n ca bo m cb x y w ha hb
  · have hm : mb = !nb := by cases nb <;> cases mb <;> simp_all
    obtain ⟨zs, hs, _⟩ := ha.ex
    obtain ⟨ys, hu, _⟩ := hb.ex
    by_cases hle : (num ys).toNat ≤ (num zs).toNat
    · exact add_GE nb mb ao n ca bo m cb x y w ha hb hm (fun zs' ys' h1 h2 => by rw [num_fun h1 hs, num_fun h2 hu]; exact hle)
    · exact add_LT nb mb ao n ca bo m cb x y w ha hb hm (fun zs' ys' h1 h2 => by rw [num_fun h1 hs, num_fun h2 hu]; omega)
end Go.Proofs.YtapcecjbmcoliaaGreatDoor

namespace Go.Proofs.YtapcecjbmcoliaaGreatDoor
open Go.RowKit

theorem Bg.not {w : World} {nb : Bool} {ao : Option Addr} {n cap : Nat} {x : Int} (h : Bg w nb ao n cap x) : Bg w (!nb) ao n cap (-x) := by
  obtain ⟨⟨zs, h1, h2⟩, h3⟩ := h
  refine ⟨⟨zs, h1, ?_⟩, h3⟩
  rw [h2]
  unfold sgd
  cases nb <;> simp
theorem Bg.only_box {w w' : World} {g : Nat} {nb mb : Bool} {ao ro : Option Addr} {n cap k cr : Nat} {x : Int} (h : Bg w mb ro k cr x) (hx : Box w g nb ao n cap) (ho : Only g w w') : Bg w' mb ro k cr x := by
  obtain ⟨⟨zs, h1, h2⟩, h3⟩ := h
  exact ⟨⟨zs, h1.only_box hx ho, h2⟩, h3⟩
theorem Bn.only_box {w w' : World} {g : Nat} {nb mb : Bool} {ao ro : Option Addr} {n cap k cr : Nat} {x : Int} (h : Bn w mb ro k cr x) (hx : Box w g nb ao n cap) (ho : Only g w w') : Bn w' mb ro k cr x :=
  ⟨h.neg, h.sl.only_box hx ho⟩

set_option maxRecDepth 100000 in
set_option maxHeartbeats 2000000 in
theorem sub_any (nb mb : Bool) (ao : Option Addr) (n ca : Nat) (bo : Option Addr) (m cb : Nat) (x y : Int) (w : World) (ha : Bg w nb ao n ca x) (hb : Bg w mb bo m cb y) :
    Calls Tryz.prog 72 #[.agg #[.bool nb, .slice ao n ca], .agg #[.bool mb, .slice bo m cb]] w fun e w' => ∃ nr ro k cr, e = .returned (.agg #[.bool nr, .slice ro k cr]) ∧ Bn w' nr ro k cr (x - y) ∧ Below w.heap.size w w' := by
  go_enter Tryz.func72, Tryz.ntmps72
  go_wp2_with fail
  obtain ⟨W, hW, hB, hbx, hby, hrx, hz⟩ := boxes2 w nb ao n ca (!mb) bo m cb
  rw [← hW]
  clear hW
  refine (add_any nb (!mb) ao n ca bo m cb x (-y) W (ha.below hB) (hb.not.below hB)).mono ?_
  rintro e w2 ⟨nr, ro, k, cr, rfl, hr, hw2⟩
  have y2 := hrx.below hw2
  obtain ⟨b2, l2⟩ := bnext hB (by omega) hw2
  generalize hBe : w.heap.size = B at *
  have HBe := Lib.hid hBe; clear hBe
  have z2 := hw2.size
  clear hbx hby hrx hB hw2
  have q0 := y2.c0
  have q1 := y2.c1
  have q2 := y2.f 0
  have q3 := y2.f 1
  have z3 := y2.stored nr ro k cr
  have z0 := z3.c0
  have z1 := z3.c1
  go_wp2
  refine bodyPost_ret (v := .agg #[.bool nr, .slice ro k cr]) (by simp [results, Tryz.results72, go_sem, z0, z1]) rfl ⟨nr, ro, k, cr, rfl, ?_, ?_⟩
  · have := hr.only_box y2 (only_set2 w2 (B + 1 + 1) (.bool nr) (.slice ro k cr))
    rwa [← Int.sub_eq_add_neg] at this
  · rw [HBe.out]
    exact b2.trans ((only_set2 _ _ _ _).below (by omega))
end Go.Proofs.YtapcecjbmcoliaaGreatDoor

namespace Go.Proofs.YtapcecjbmcoliaaGreatDoor
open Go.RowKit

set_option maxRecDepth 100000 in
set_option maxHeartbeats 2000000 in
theorem abs_any (nb : Bool) (ao : Option Addr) (n cap : Nat) (x : Int) (w : World) (h : Bg w nb ao n cap x) :
    Calls Tryz.prog 31 #[.agg #[.bool nb, .slice ao n cap]] w fun e w' => ∃ nr ro k cr, e = .returned (.agg #[.bool nr, .slice ro k cr]) ∧ Bn w' nr ro k cr x.natAbs ∧ Below w.heap.size w w' := by
  obtain ⟨⟨zs, hs, hx⟩, hsm⟩ := h
  have hx' := Lib.hid hx; clear hx
  go_enter Tryz.func31, Tryz.ntmps31
  go_wp2_with fail
  obtain ⟨W, hW, hB, hbx, hrx, hz⟩ := boxes1 w nb ao n cap
  rw [← hW]
  clear hW
  have hs0 := hs.below hB
  refine (trim_sl ao n cap zs _ hs0).mono ?_
  rintro e w1 ⟨k, rfl, hs1, rfl⟩
  go_wp2_with fail
  refine (clone_any _ _ _ _ _ hs1).mono ?_
  rintro e w2 ⟨rfl, hb2, hw2⟩
  have y2 := hrx.below hw2
  go_wp2_with fail
  refine (signed_any _ _ _ _ _ _ (hb2.sl (Wf.limbs _) hs1.len hs1.big (Nat.le_refl _))).mono ?_
  rintro e w3 ⟨ro, cr, rfl, hs3, hw3⟩
  have y3 := y2.below hw3
  obtain ⟨b2, l2⟩ := bnext hB (by omega) hw2
  obtain ⟨b3, l3⟩ := bnext b2 l2 hw3
  have hwz := hs0.wf
  generalize hBe : w.heap.size = B at *
  have HBe := Lib.hid hBe; clear hBe
  have z2 := hw2.size
  have z3' := hw3.size
  clear hbx hrx hB hw2 hw3 y2 hs hs0 hs1 hb2 b2 l2
  have q0 := y3.c0
  have q1 := y3.c1
  have q2 := y3.f 0
  have q3 := y3.f 1
  have z3 := y3.stored false ro k cr
  have z0 := z3.c0
  have z1 := z3.c1
  go_wp2
  refine bodyPost_ret (v := .agg #[.bool false, .slice ro k cr]) (by simp [results, Tryz.results31, go_sem, z0, z1]) rfl ⟨false, ro, k, cr, rfl, ?_, ?_⟩
  · refine bn_of (nb := false) (hs3.only_box y3 (only_set2 _ _ _ _)) rfl ?_
    rw [hx'.out, sgd_natAbs hwz]; simp
  · rw [HBe.out]
    exact b3.trans ((only_set2 _ _ _ _).below (by omega))
end Go.Proofs.YtapcecjbmcoliaaGreatDoor

namespace Go.Proofs.YtapcecjbmcoliaaGreatDoor
open Go.RowKit

/-- the first k rows of the product are in Lk, and nothing stands above them -/
def PRows (a b Lk : List Int) (n k : Nat) : Prop :=
  Lk.length = n + b.length ∧ Wf Lk ∧ num Lk = num a * num (b.take k) ∧ ∀ i, n + k ≤ i → Lk.getD i 0 = 0

theorem getD_replicate (n i : Nat) : (List.replicate n (0 : Int)).getD i 0 = 0 := by
  by_cases h : i < n <;> simp [List.getD, h]

theorem PRows.start (a b : List Int) (n m : Nat) (hm : b.length = m) : PRows a b (List.replicate (n + m) 0) n 0 :=
  ⟨by simp [hm], Wf.replicate _, by simp [num_replicate, num], fun i _ => getD_replicate _ i⟩

theorem mul_bounds {x y : Int} (x0 : 0 ≤ x) (x1 : x < 4294967296) (y0 : 0 ≤ y) (y1 : y < 4294967296) : 0 ≤ x * y ∧ x * y ≤ 18446744065119617025 := by
  refine ⟨Int.mul_nonneg x0 y0, ?_⟩
  have h1 : x * y ≤ 4294967295 * y := Int.mul_le_mul_of_nonneg_right (by omega) y0
  omega

theorem row_step (k j : Nat) (x y N : Int) : 4294967296 ^ k * (x * N) + 4294967296 ^ (k + j) * (x * y) = 4294967296 ^ k * (x * (N + 4294967296 ^ j * y)) := by
  rw [Int.pow_add, Int.mul_add, Int.mul_add, Int.mul_assoc, Int.mul_left_comm (4294967296 ^ j) x y]

theorem getD_of_drop_le {zs ys : List Int} {k i : Nat} (h : zs.drop k = ys.drop k) (hi : k ≤ i) : zs.getD i 0 = ys.getD i 0 := by
  have := congrArg (fun l => l.getD (i - k) 0) h
  simpa [List.getD, show k + (i - k) = i by omega] using this

theorem PRows.step {a b Lk L' : List Int} {n k : Nat} {x : Int} {i : Nat} (h : PRows a b Lk n k) (st : Added Lk L' (i + 1) 0 (4294967296 ^ k * (x * num a))) (hi : i = k + n) (hk : k < b.length) (hx : b.getD k 0 = x) :
    PRows a b L' n (k + 1) := by
  obtain ⟨h1, h2, h3, h4⟩ := h
  refine ⟨by rw [st.1, h1], st.2.1, ?_, ?_⟩
  · rw [st.done, h3, num_take_succ b k hk, hx, Int.mul_add]
    congr 1
    rw [Int.mul_comm x, Int.mul_left_comm]
  · intro j hj
    rw [getD_of_drop_le st.2.2.1 (by omega)]
    exact h4 j (by omega)

set_option maxRecDepth 100000 in
set_option maxHeartbeats 2000000 in
theorem long_any (xs ys : List Int) (ao bo : Option Addr) (n m ca cb : Nat) (w : World) (ha : Sl w ao n ca xs) (hb : Sl w bo m cb ys) (hn : n ≤ 1000000000) (hm : m ≤ 1000000000) :
    Calls Tryz.prog 79 #[.slice ao n ca, .slice bo m cb] w fun e w' => ∃ ao' k cap, e = .returned (.slice ao' k cap) ∧ Sl w' ao' k cap (limbs (num xs * num ys).toNat) ∧ Below w.heap.size w w' := by
  have hst := PRows.start xs ys n m hb.len
  have HS := Lib.hid hst; clear hst
  go_enter Tryz.func79, Tryz.ntmps79
  go_wp2_with (refine wpList_make_u32 _ rfl _ _ rfl _ (n + m) rfl rfl (by omega) (by omega) ?_)
  intro w1 hb1 hw1
  have ha1 := ha.below hw1
  have hb1' := hb.below hw1
  have hsa := ha.cells.stay_below hw1 (Nat.le_refl _)
  have hsb := hb.cells.stay_below hw1 (Nat.le_refl _)
  generalize hg : w.heap.size = g at *
  have HG := Lib.hid hg; clear hg
  go_wp2
  go_loopw [6, 7, 8, 9, 10, 11, 20, 35] (fun _ _ _ _ _ _ i _ wr => ∃ (k : Nat) (Lk : List Int), k ≤ m ∧ i = .int .i64 k ∧ PRows xs ys Lk n k ∧ Blk wr g Lk ∧ Only g w1 wr)
    (fun _ _ _ _ _ _ i _ _ => m - (intOf i).toNat)
  case atStart => exact ⟨0, _, Nat.zero_le _, rfl, HS.out, hb1, Only.refl g w1⟩
  case round =>
    obtain ⟨k, Lk, hk, rfl, hP, hbk, ho⟩ := hrel
    by_cases hlt : k < m
    · obtain ⟨bb, ob, rfl, hcb⟩ := hsb _ ho (by rw [hb.len]; omega)
      have c1 := hcb k (by rw [hb.len]; omega)
      clear hcb
      have hxr := hb.wf.getD k
      obtain ⟨x, hx⟩ : ∃ x, ys.getD k 0 = x := ⟨_, rfl⟩
      rw [hx] at c1 hxr
      have HX := Lib.hid hx; clear hx
      obtain ⟨x0, x1⟩ := hxr
      have HP := Lib.hid hP; clear hP
      go_wp2
      go_loopw [9, 10, 11, 35] (fun c _ _ i wr => ∃ (j : Nat) (cc : Int) (Li : List Int), j ≤ n ∧ i = .int .i64 j ∧ c = .int .u64 cc ∧ 0 ≤ cc ∧ cc ≤ 4294967295 ∧ Added Lk Li (k + j) cc (4294967296 ^ k * (x * num (xs.take j))) ∧ Blk wr g Li ∧ Only g w1 wr)
        (fun _ _ _ i _ => n - (intOf i).toNat)
      case atStart => exact ⟨0, 0, Lk, Nat.zero_le _, rfl, rfl, by omega, by omega, Added.at HP.out.2.1 k, hbk, ho⟩
      case round =>
        obtain ⟨j, cc, Li, hj, rfl, rfl, hc0, hc1, hA, hbi, hoi⟩ := hrel
        have hlen : Li.length = n + m := by rw [hA.1, HP.out.1, hb.len]
        have hlen2 : Lk.length = n + m := by rw [HP.out.1, hb.len]
        by_cases hjt : j < n
        · obtain ⟨ba, oa, rfl, hca⟩ := hsa _ hoi (by rw [ha.len]; omega)
          have c2 := hca j (by rw [ha.len]; omega)
          clear hca
          have hyr := ha.wf.getD j
          obtain ⟨y, hy⟩ : ∃ y, xs.getD j 0 = y := ⟨_, rfl⟩
          rw [hy] at c2 hyr
          have HY := Lib.hid hy; clear hy
          obtain ⟨y0, y1⟩ := hyr
          have c3 := hbi.cell (k + j) (by omega)
          have c4 := hbi.frozen (k + j)
          rw [getD_of_drop hA.2.2.1] at c3
          have hzr := HP.out.2.1.getD (k + j)
          obtain ⟨z, hz⟩ : ∃ z, Lk.getD (k + j) 0 = z := ⟨_, rfl⟩
          rw [hz] at c3 hzr
          have HZ := Lib.hid hz; clear hz
          obtain ⟨z0, z1⟩ := hzr
          obtain ⟨p0, p1⟩ := mul_bounds x0 x1 y0 y1
          have HLn := Lib.hid hlen; clear hlen
          have HLn2 := Lib.hid hlen2; clear hlen2
          go_wp2
          go_roundw
          case rel =>
            have st := hA.step (by rw [HLn2.out]; omega) (x * y) (cc + (x * y + z)) (by rw [HZ.out]; omega)
            rw [row_step, ← HY.out, ← num_take_succ xs j (by rw [ha.len]; exact hjt), HY.out] at st
            exact ⟨j + 1, _, _, by omega, by go_num, rfl, by omega, by omega, st, hbi.set _ _, hoi.setCell _ _⟩
          case measure => simp [intOf] <;> omega
        · obtain rfl : j = n := by omega
          have HLn := Lib.hid hlen; clear hlen
          have HLn2 := Lib.hid hlen2; clear hlen2
          have c4 := hbi.frozen (k + j)
          have c3 := hbi.cell (k + j) (by rw [HLn.out]; omega)
          go_wp2
          go_roundw
          case rel =>
            have hz0 := HP.out.2.2.2 (k + j) (by omega)
            have st := hA.step (by rw [HLn2.out]; omega) 0 cc (by rw [hz0]; omega)
            rw [Int.emod_eq_of_lt hc0 (by omega), Int.ediv_eq_zero_of_lt hc0 (by omega), Int.mul_zero, Int.add_zero, List.take_of_length_le (by rw [ha.len]; exact Nat.le_refl _)] at st
            exact ⟨k + 1, _, by omega, by go_num, HP.out.step st (by omega) (by rw [hb.len]; exact hlt) HX.out, hbi.set _ _, hoi.setCell _ _⟩
          case measure => simp [intOf] <;> omega
    · obtain rfl : k = m := by omega
      have hlen : Lk.length = n + k := by rw [hP.1, hb.len]
      have HLn := Lib.hid hlen; clear hlen
      have HP := Lib.hid hP; clear hP
      go_wp2_with fail
      refine (trim_sl _ _ _ Lk wr (hbk.sl HP.out.2.1 HLn.out (by omega) (Nat.le_refl _))).mono ?_
      rintro e w4 ⟨i, rfl, hs, rfl⟩
      go_wp2
      go_ret
      refine ⟨_, i, _, rfl, ?_, by rw [HG.out]; exact hw1.trans (ho.below (Nat.le_refl _))⟩
      rw [HP.out.2.2.1, List.take_of_length_le (by rw [hb.len]; exact Nat.le_refl _)] at hs
      exact hs
end Go.Proofs.YtapcecjbmcoliaaGreatDoor
