import Derived.Test.YthicfkeiggcjjaaGreatDoorEcDlU4
import Derived.Test.YthicfkeiggcjjaaGreatDoorEcDlU5
import Derived.Deep.RegionHeld3
namespace Go.Proofs.YthicfkeiggcjjaaGreatDoor
open Go.RowKit

theorem sgd_add {nb : Bool} {zs ys : List Int} (hz : Wf zs) (hy : Wf ys) : sgd nb zs + sgd nb ys = if nb then - (((num zs).toNat + (num ys).toNat : Nat) : Int) else (((num zs).toNat + (num ys).toNat : Nat) : Int) := by
  have a := num_nonneg hz
  have b := num_nonneg hy
  unfold sgd
  cases nb <;> simp <;> omega
theorem sgd_sub_ge {nb mb : Bool} {zs ys : List Int} (hz : Wf zs) (hy : Wf ys) (hm : mb = !nb) (h : (num ys).toNat ≤ (num zs).toNat) :
    sgd nb zs + sgd mb ys = if nb then - (((num zs).toNat - (num ys).toNat : Nat) : Int) else (((num zs).toNat - (num ys).toNat : Nat) : Int) := by
  have a := num_nonneg hz
  have b := num_nonneg hy
  subst hm
  unfold sgd
  cases nb <;> simp <;> omega
theorem sgd_sub_lt {nb mb : Bool} {zs ys : List Int} (hz : Wf zs) (hy : Wf ys) (hm : mb = !nb) (h : (num zs).toNat ≤ (num ys).toNat) :
    sgd nb zs + sgd mb ys = if mb then - (((num ys).toNat - (num zs).toNat : Nat) : Int) else (((num ys).toNat - (num zs).toNat : Nat) : Int) := by
  have a := num_nonneg hz
  have b := num_nonneg hy
  subst hm
  unfold sgd
  cases nb <;> simp <;> omega

set_option maxRecDepth 100000 in
set_option maxHeartbeats 2000000 in
theorem add_same (nb : Bool) (ao : Option Addr) (n ca : Nat) (bo : Option Addr) (m cb : Nat) (x y : Int) (w : World) (ha : Bg w nb ao n ca x) (hb : Bg w nb bo m cb y) :
    Calls Tryz.prog 49 #[.agg #[.bool nb, .slice ao n ca], .agg #[.bool nb, .slice bo m cb]] w fun e w' => ∃ nr ro k cr, e = .returned (.agg #[.bool nr, .slice ro k cr]) ∧ Bn w' nr ro k cr (x + y) ∧ Below w.heap.size w w' := by
  obtain ⟨⟨zs, hs, hx⟩, hsm⟩ := ha
  obtain ⟨⟨ys, hu, hy⟩, hum⟩ := hb
  have hwz := hs.wf
  have hwy := hu.wf
  have hx' := Lib.hid hx; clear hx
  have hy' := Lib.hid hy; clear hy
  go_enter Tryz.func49, Tryz.ntmps49
  go_wp2_with fail
  obtain ⟨W, hW, hB, hbx, hby, hrx, hz⟩ := boxes2 w nb ao n ca nb bo m cb
  rw [← hW]
  clear hW
  have hs0 := hs.below hB
  have hu0 := hu.below hB
  generalize hBe : w.heap.size = B at *
  have HBe := Lib.hid hBe; clear hBe
  have hBelow := Lib.hid hB
  clear hs hu hB
  obtain ⟨k1, hk1, hs1, ht1⟩ := trim_at _ _ _ _ _ hs0
  obtain ⟨k2, hk2, hu1, ht2⟩ := trim_at _ _ _ _ _ hu0
  have HT1 := Lib.hid ht1; clear ht1
  have HT2 := Lib.hid ht2; clear ht2
  have k0 := hbx.c0
  have k1' := hbx.c1
  have l0 := hby.c0
  have l1' := hby.c1
  go_quiet ((go_at_call 51; first | (with_reducible exact quiet_left (HT1.out _ (by exact hs0.drewN _))) | (with_reducible exact quiet_left (HT2.out _ (by exact hu0.drewN _)))))
  go_wp2
  obtain ⟨W2, hW2, hq⟩ := drewN_world W nq
  rw [hW2]
  clear hW2
  have hs2 := hs1.below hq
  have hu2 := hu1.below hq
  have hbx2 := hbx.below hq
  have hrx2 := hrx.below hq
  obtain ⟨hb2, hz2⟩ := bnext hBelow.out (by omega) hq
  have hb2' := Lib.hid hb2; clear hb2
  have hz2' : B + 3 ≤ W2.heap.size := by have := hq.size; omega
  clear hs1 hu1 hs0 hu0 hbx hby hrx hq k0 k1' l0 l1' HT1 HT2
  have k0 := hbx2.c0
  go_region_held3 (fun w' => w'.cell? ⟨B, 0, none⟩ = some (.bool nb))
    (first | exact k0 | exact x2.c0 | exact x3.c0 | go_simp)
    (first
      | (go_at_call 72; refine (plus_any _ _ _ _ _ _ _ _ _ (by exact hs2.drew) (by exact hu2.drew) (by omega) (by omega)).mono ?_; rintro e w2 ⟨ro, k, cr, rfl, hp, hw2⟩; have x2 := hbx2.drew.below hw2; have y2 := hrx2.drew.below hw2)
      | (go_at_call 65; refine (signed_any _ _ _ _ _ _ (by exact hp)).mono ?_; rintro e w3 ⟨ro', cr', rfl, hs3, hw3⟩; have x3 := x2.below hw3; have y3 := y2.below hw3; have q0 := y3.c0; have q1 := y3.c1; have q2 := y3.f 0; have q3 := y3.f 1; have e0 := x3.c0))
  have z3 := y3.stored (nb && decide (0 < k)) ro' k cr'
  have z0 := z3.c0
  have z1 := z3.c1
  go_wp2
  refine bodyPost_ret (v := .agg #[.bool (nb && decide (0 < k)), .slice ro' k cr']) (by simp [results, Tryz.results49, go_sem, z0, z1]) rfl ⟨_, ro', k, cr', rfl, ?_, ?_⟩
  · refine bn_of (hs3.only_box y3 (only_set2 _ _ _ _)) rfl ?_
    rw [hx'.out, hy'.out]; exact sgd_add hwz hwy
  · obtain ⟨b1, l1⟩ := bnext hb2'.out (by omega) (Below.refl _ W2).drew
    obtain ⟨b2, l2⟩ := bnext b1 l1 hw2
    obtain ⟨b3, l3⟩ := bnext b2 l2 hw3
    rw [HBe.out]
    exact b3.trans ((only_set2 _ _ _ _).below (by omega))
set_option maxRecDepth 100000 in
set_option maxHeartbeats 2000000 in
theorem add_GE (nb mb : Bool) (ao : Option Addr) (n ca : Nat) (bo : Option Addr) (m cb : Nat) (x y : Int) (w : World) (ha : Bg w nb ao n ca x) (hb : Bg w mb bo m cb y) (hm : mb = !nb) (hge : ∀ zs ys, Sl w ao n ca zs → Sl w bo m cb ys → (num ys).toNat ≤ (num zs).toNat) :
    Calls Tryz.prog 49 #[.agg #[.bool nb, .slice ao n ca], .agg #[.bool mb, .slice bo m cb]] w fun e w' => ∃ nr ro k cr, e = .returned (.agg #[.bool nr, .slice ro k cr]) ∧ Bn w' nr ro k cr (x + y) ∧ Below w.heap.size w w' := by
  obtain ⟨⟨zs, hs, hx⟩, hsm⟩ := ha
  obtain ⟨⟨ys, hu, hy⟩, hum⟩ := hb
  have hwz := hs.wf
  have hwy := hu.wf
  have hle := hge _ _ hs hu
  have hle' := Lib.hid hle
  clear hge hle
  have hmn : (nb == mb) = false := by subst hm; cases nb <;> rfl
  have hm' := Lib.hid hm; clear hm
  have hx' := Lib.hid hx; clear hx
  have hy' := Lib.hid hy; clear hy
  go_enter Tryz.func49, Tryz.ntmps49
  go_wp2_with fail
  obtain ⟨W, hW, hB, hbx, hby, hrx, hz⟩ := boxes2 w nb ao n ca mb bo m cb
  rw [← hW]
  clear hW
  have hs0 := hs.below hB
  have hu0 := hu.below hB
  generalize hBe : w.heap.size = B at *
  have HBe := Lib.hid hBe; clear hBe
  have hBelow := Lib.hid hB
  clear hs hu hB
  obtain ⟨k1, hk1, hs1, ht1⟩ := trim_at _ _ _ _ _ hs0
  obtain ⟨k2, hk2, hu1, ht2⟩ := trim_at _ _ _ _ _ hu0
  generalize ea : (num zs).toNat = a at hs1 hle'
  generalize eb : (num ys).toNat = b at hu1 hle'
  have EA := Lib.hid ea; clear ea
  have EB := Lib.hid eb; clear eb
  have HT1 := Lib.hid ht1; clear ht1
  have HT2 := Lib.hid ht2; clear ht2
  have k0 := hbx.c0
  have k1' := hbx.c1
  have l0 := hby.c0
  have l1' := hby.c1
  go_quiet ((go_at_call 51; first | (with_reducible exact quiet_left (HT1.out _ (by exact hs0.drewN _))) | (with_reducible exact quiet_left (HT2.out _ (by exact hu0.drewN _)))))
  go_wp2_with fail
  refine (compare_any _ _ _ _ _ _ _ _ _ (by exact hs1.drewN nq) (by exact hu1.drewN nq)).mono ?_
  rintro e w' ⟨rfl, q2, rfl⟩
  rw [World.drewN_drewN]
  obtain ⟨W2, hW2, hq⟩ := drewN_world W (nq + q2)
  rw [hW2]
  clear hW2
  have hsg : decide (0 ≤ sgn3 (a : Int) (b : Int)) = true := by have := hle'.out; simp [sgn3]; omega
  have hs2 := hs1.below hq
  have hu2 := hu1.below hq
  have hbx2 := hbx.below hq
  have hrx2 := hrx.below hq
  obtain ⟨hb2, hz2⟩ := bnext hBelow.out (by omega) hq
  have hb2' := Lib.hid hb2; clear hb2
  have hz2' : B + 3 ≤ W2.heap.size := by have := hq.size; omega
  clear hs1 hu1 hs0 hu0 hbx hby hrx hq k0 k1' l0 l1' HT1 HT2
  have k0 := hbx2.c0
  go_wp2
  go_region_held3 (fun w' => w'.cell? ⟨B, 0, none⟩ = some (.bool nb))
    (first | exact k0 | exact x2.c0 | exact x3.c0 | go_simp)
    (first
      | (go_at_call 73; refine (minus_any _ _ _ _ _ _ _ _ _ (by exact hs2.drew) (by exact hu2.drew) (by exact hle'.out)).mono ?_; rintro e w2 ⟨ro, k, cr, rfl, hp, hw2⟩; have x2 := hbx2.drew.below hw2; have y2 := hrx2.drew.below hw2)
      | (go_at_call 65; refine (signed_any _ _ _ _ _ _ (by exact hp)).mono ?_; rintro e w3 ⟨ro', cr', rfl, hs3, hw3⟩; have x3 := x2.below hw3; have y3 := y2.below hw3; have q0 := y3.c0; have q1 := y3.c1; have q2 := y3.f 0; have q3 := y3.f 1; have e0 := x3.c0))
  have z3 := y3.stored (nb && decide (0 < k)) ro' k cr'
  have z0 := z3.c0
  have z1 := z3.c1
  go_wp2
  refine bodyPost_ret (v := .agg #[.bool (nb && decide (0 < k)), .slice ro' k cr']) (by simp [results, Tryz.results49, go_sem, z0, z1]) rfl ⟨_, ro', k, cr', rfl, ?_, ?_⟩
  · refine bn_of (hs3.only_box y3 (only_set2 _ _ _ _)) rfl ?_
    have e := sgd_sub_ge hwz hwy hm'.out (by rw [EA.out, EB.out]; exact hle'.out)
    rw [EA.out, EB.out] at e
    rw [hx'.out, hy'.out]; exact e
  · obtain ⟨b1, l1⟩ := bnext hb2'.out (by omega) (Below.refl _ W2).drew
    obtain ⟨b2, l2⟩ := bnext b1 l1 hw2
    obtain ⟨b3, l3⟩ := bnext b2 l2 hw3
    rw [HBe.out]
    exact b3.trans ((only_set2 _ _ _ _).below (by omega))
set_option maxRecDepth 100000 in
set_option maxHeartbeats 2000000 in
theorem add_LT (nb mb : Bool) (ao : Option Addr) (n ca : Nat) (bo : Option Addr) (m cb : Nat) (x y : Int) (w : World) (ha : Bg w nb ao n ca x) (hb : Bg w mb bo m cb y) (hm : mb = !nb) (hge : ∀ zs ys, Sl w ao n ca zs → Sl w bo m cb ys → (num zs).toNat < (num ys).toNat) :
    Calls Tryz.prog 49 #[.agg #[.bool nb, .slice ao n ca], .agg #[.bool mb, .slice bo m cb]] w fun e w' => ∃ nr ro k cr, e = .returned (.agg #[.bool nr, .slice ro k cr]) ∧ Bn w' nr ro k cr (x + y) ∧ Below w.heap.size w w' := by
  obtain ⟨⟨zs, hs, hx⟩, hsm⟩ := ha
  obtain ⟨⟨ys, hu, hy⟩, hum⟩ := hb
  have hwz := hs.wf
  have hwy := hu.wf
  have hle := hge _ _ hs hu
  have hle' := Lib.hid hle
  clear hge hle
  have hmn : (nb == mb) = false := by subst hm; cases nb <;> rfl
  have hm' := Lib.hid hm; clear hm
  have hx' := Lib.hid hx; clear hx
  have hy' := Lib.hid hy; clear hy
  go_enter Tryz.func49, Tryz.ntmps49
  go_wp2_with fail
  obtain ⟨W, hW, hB, hbx, hby, hrx, hz⟩ := boxes2 w nb ao n ca mb bo m cb
  rw [← hW]
  clear hW
  have hs0 := hs.below hB
  have hu0 := hu.below hB
  generalize hBe : w.heap.size = B at *
  have HBe := Lib.hid hBe; clear hBe
  have hBelow := Lib.hid hB
  clear hs hu hB
  obtain ⟨k1, hk1, hs1, ht1⟩ := trim_at _ _ _ _ _ hs0
  obtain ⟨k2, hk2, hu1, ht2⟩ := trim_at _ _ _ _ _ hu0
  generalize ea : (num zs).toNat = a at hs1 hle'
  generalize eb : (num ys).toNat = b at hu1 hle'
  have EA := Lib.hid ea; clear ea
  have EB := Lib.hid eb; clear eb
  have HT1 := Lib.hid ht1; clear ht1
  have HT2 := Lib.hid ht2; clear ht2
  have k0 := hbx.c0
  have k1' := hbx.c1
  have l0 := hby.c0
  have l1' := hby.c1
  go_quiet ((go_at_call 51; first | (with_reducible exact quiet_left (HT1.out _ (by exact hs0.drewN _))) | (with_reducible exact quiet_left (HT2.out _ (by exact hu0.drewN _)))))
  go_wp2_with fail
  refine (compare_any _ _ _ _ _ _ _ _ _ (by exact hs1.drewN nq) (by exact hu1.drewN nq)).mono ?_
  rintro e w' ⟨rfl, q2, rfl⟩
  rw [World.drewN_drewN]
  obtain ⟨W2, hW2, hq⟩ := drewN_world W (nq + q2)
  rw [hW2]
  clear hW2
  have hsg : decide (0 ≤ sgn3 (a : Int) (b : Int)) = false := by have := hle'.out; simp [sgn3]; omega
  have hs2 := hs1.below hq
  have hu2 := hu1.below hq
  have hbx2 := hby.below hq
  have hrx2 := hrx.below hq
  obtain ⟨hb2, hz2⟩ := bnext hBelow.out (by omega) hq
  have hb2' := Lib.hid hb2; clear hb2
  have hz2' : B + 3 ≤ W2.heap.size := by have := hq.size; omega
  clear hs1 hu1 hs0 hu0 hbx hby hrx hq k0 k1' l0 l1' HT1 HT2
  have k0 := hbx2.c0
  go_wp2
  go_region_held3 (fun w' => w'.cell? ⟨B + 1, 0, none⟩ = some (.bool mb))
    (first | exact k0 | exact x2.c0 | exact x3.c0 | go_simp)
    (first
      | (go_at_call 73; refine (minus_any _ _ _ _ _ _ _ _ _ (by exact hu2.drew) (by exact hs2.drew) (by exact Nat.le_of_lt hle'.out)).mono ?_; rintro e w2 ⟨ro, k, cr, rfl, hp, hw2⟩; have x2 := hbx2.drew.below hw2; have y2 := hrx2.drew.below hw2)
      | (go_at_call 65; refine (signed_any _ _ _ _ _ _ (by exact hp)).mono ?_; rintro e w3 ⟨ro', cr', rfl, hs3, hw3⟩; have x3 := x2.below hw3; have y3 := y2.below hw3; have q0 := y3.c0; have q1 := y3.c1; have q2 := y3.f 0; have q3 := y3.f 1; have e0 := x3.c0))
  have z3 := y3.stored (mb && decide (0 < k)) ro' k cr'
  have z0 := z3.c0
  have z1 := z3.c1
  go_wp2
  refine bodyPost_ret (v := .agg #[.bool (mb && decide (0 < k)), .slice ro' k cr']) (by simp [results, Tryz.results49, go_sem, z0, z1]) rfl ⟨_, ro', k, cr', rfl, ?_, ?_⟩
  · refine bn_of (hs3.only_box y3 (only_set2 _ _ _ _)) rfl ?_
    have e := sgd_sub_lt hwz hwy hm'.out (by rw [EA.out, EB.out]; exact Nat.le_of_lt hle'.out)
    rw [EA.out, EB.out] at e
    rw [hx'.out, hy'.out]; exact e
  · obtain ⟨b1, l1⟩ := bnext hb2'.out (by omega) (Below.refl _ W2).drew
    obtain ⟨b2, l2⟩ := bnext b1 l1 hw2
    obtain ⟨b3, l3⟩ := bnext b2 l2 hw3
    rw [HBe.out]
    exact b3.trans ((only_set2 _ _ _ _).below (by omega))
theorem num_fun {w : World} {ao : Option Addr} {n cap : Nat} {zs ys : List Int} (h : Sl w ao n cap zs) (k : Sl w ao n cap ys) : zs = ys := by
  have hl := h.len
  have kl := k.len
  apply List.ext_getElem (by rw [hl, kl])
  intro i h1 h2
  obtain ⟨b, off, e, hc⟩ := h.cells (by omega)
  obtain ⟨b', off', e', hc'⟩ := k.cells (by omega)
  rw [e] at e'
  cases e'
  have a1 := hc i h1
  rw [hc' i h2] at a1
  rw [getD_at h1, getD_at h2] at a1
  simp at a1
  exact a1.symm

/-- the sum, whatever the signs -/
theorem add_any (nb mb : Bool) (ao : Option Addr) (n ca : Nat) (bo : Option Addr) (m cb : Nat) (x y : Int) (w : World) (ha : Bg w nb ao n ca x) (hb : Bg w mb bo m cb y) :
    Calls Tryz.prog 49 #[.agg #[.bool nb, .slice ao n ca], .agg #[.bool mb, .slice bo m cb]] w fun e w' => ∃ nr ro k cr, e = .returned (.agg #[.bool nr, .slice ro k cr]) ∧ Bn w' nr ro k cr (x + y) ∧ Below w.heap.size w w' := by
  by_cases h : nb = mb
  · subst h; exact add_same nb ao n ca bo m cb x y w ha hb
  · have hm : mb = !nb := by cases nb <;> cases mb <;> simp_all
    obtain ⟨zs, hs, _⟩ := ha.ex
    obtain ⟨ys, hu, _⟩ := hb.ex
    by_cases hle : (num ys).toNat ≤ (num zs).toNat
    · exact add_GE nb mb ao n ca bo m cb x y w ha hb hm (fun zs' ys' h1 h2 => by rw [num_fun h1 hs, num_fun h2 hu]; exact hle)
    · exact add_LT nb mb ao n ca bo m cb x y w ha hb hm (fun zs' ys' h1 h2 => by rw [num_fun h1 hs, num_fun h2 hu]; omega)
end Go.Proofs.YthicfkeiggcjjaaGreatDoor
