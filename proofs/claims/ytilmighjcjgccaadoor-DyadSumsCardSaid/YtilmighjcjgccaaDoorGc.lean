/- What integer.Add does: the normalized sum. -/
import Derived.Test.YtilmighjcjgccaaDoorGa
import Derived.Test.YtilmighjcjgccaaDoorGb
import Derived.Deep.RegionHeld3
import Derived.Deep.QuietTactic
import Derived.BigQuiet
namespace Go.Proofs.YtilmighjcjgccaaDoor
open Go.RowKit

theorem sgd_add {nb : Bool} {zs ys : List Int} (hz : Wf zs) (hy : Wf ys) : sgd nb zs + sgd nb ys = if nb then - (((num zs).toNat + (num ys).toNat : Nat) : Int) else (((num zs).toNat + (num ys).toNat : Nat) : Int) := by
  have a := num_nonneg hz
  have b := num_nonneg hy
  unfold sgd
  cases nb <;> simp <;> omega
theorem sgd_sub_ge {nb mb : Bool} {zs ys : List Int} (hz : Wf zs) (hy : Wf ys) (hm : mb = !nb) (h : (num ys).toNat ≤ (num zs).toNat) :
    sgd nb zs + sgd mb ys = if nb then - (((num zs).toNat - (num ys).toNat : Nat) : Int) else (((num zs).toNat - (num ys).toNat : Nat) : Int) := by
  have a := num_nonneg hz
  have b := num_nonneg hy
  subst hm
  unfold sgd
  cases nb <;> simp <;> omega
theorem sgd_sub_lt {nb mb : Bool} {zs ys : List Int} (hz : Wf zs) (hy : Wf ys) (hm : mb = !nb) (h : (num zs).toNat ≤ (num ys).toNat) :
    sgd nb zs + sgd mb ys = if mb then - (((num ys).toNat - (num zs).toNat : Nat) : Int) else (((num ys).toNat - (num zs).toNat : Nat) : Int) := by
  have a := num_nonneg hz
  have b := num_nonneg hy
  subst hm
  unfold sgd
  cases nb <;> simp <;> omega

set_option maxRecDepth 100000 in
set_option maxHeartbeats 2000000 in
theorem add_same (nb : Bool) (ao : Option Addr) (n ca : Nat) (bo : Option Addr) (m cb : Nat) (x y : Int) (w : World) (ha : Bg w nb ao n ca x) (hb : Bg w nb bo m cb y) :
    Calls Tryd.prog 38 #[.agg #[.bool nb, .slice ao n ca], .agg #[.bool nb, .slice bo m cb]] w fun e w' => ∃ nr ro k cr, e = .returned (.agg #[.bool nr, .slice ro k cr]) ∧ Bn w' nr ro k cr (x + y) ∧ Below w.heap.size w w' := by
  obtain ⟨⟨zs, hs, hx⟩, hsm⟩ := ha
  obtain ⟨⟨ys, hu, hy⟩, hum⟩ := hb
  have hwz := hs.wf
  have hwy := hu.wf
  have hx' := Lib.hid hx; clear hx
  have hy' := Lib.hid hy; clear hy
  go_enter Tryd.func38, Tryd.ntmps38
  go_wp2_with fail
  obtain ⟨W, hW, hB, hbx, hby, hrx, hz⟩ := boxes2 w nb ao n ca nb bo m cb
  rw [← hW]
  clear hW
  have hs0 := hs.below hB
  have hu0 := hu.below hB
  generalize hBe : w.heap.size = B at *
  have HBe := Lib.hid hBe; clear hBe
  have hBelow := Lib.hid hB
  clear hs hu hB
  obtain ⟨k1, hk1, hs1, ht1⟩ := trim_at _ _ _ _ _ hs0
  obtain ⟨k2, hk2, hu1, ht2⟩ := trim_at _ _ _ _ _ hu0
  have HT1 := Lib.hid ht1; clear ht1
  have HT2 := Lib.hid ht2; clear ht2
  have k0 := hbx.c0
  have k1' := hbx.c1
  have l0 := hby.c0
  have l1' := hby.c1
  go_quiet ((go_at_call 77; first | (with_reducible exact quiet_left (HT1.out _ (by exact hs0.drewN _))) | (with_reducible exact quiet_left (HT2.out _ (by exact hu0.drewN _)))))
  go_wp2
  obtain ⟨W2, hW2, hq⟩ := drewN_world W nq
  rw [hW2]
  clear hW2
  have hs2 := hs1.below hq
  have hu2 := hu1.below hq
  have hbx2 := hbx.below hq
  have hrx2 := hrx.below hq
  obtain ⟨hb2, hz2⟩ := bnext hBelow.out (by omega) hq
  have hb2' := Lib.hid hb2; clear hb2
  have hz2' : B + 3 ≤ W2.heap.size := by have := hq.size; omega
  clear hs1 hu1 hs0 hu0 hbx hby hrx hq k0 k1' l0 l1' HT1 HT2
  have k0 := hbx2.c0
  go_region_held3 (fun w' => w'.cell? ⟨B, 0, none⟩ = some (.bool nb))
    (first | exact k0 | exact x2.c0 | exact x3.c0 | go_simp)
    (first
      | (go_at_call 84; refine (plus_any _ _ _ _ _ _ _ _ _ (by exact hs2.drew) (by exact hu2.drew) (by omega) (by omega)).mono ?_; rintro e w2 ⟨ro, k, cr, rfl, hp, hw2⟩; have x2 := hbx2.drew.below hw2; have y2 := hrx2.drew.below hw2)
      | (go_at_call 83; refine (signed_any _ _ _ _ _ _ (by exact hp)).mono ?_; rintro e w3 ⟨ro', cr', rfl, hs3, hw3⟩; have x3 := x2.below hw3; have y3 := y2.below hw3; have q0 := y3.c0; have q1 := y3.c1; have q2 := y3.f 0; have q3 := y3.f 1; have e0 := x3.c0))
  have z3 := y3.stored (nb && decide (0 < k)) ro' k cr'
  have z0 := z3.c0
  have z1 := z3.c1
  go_wp2
  refine bodyPost_ret (v := .agg #[.bool (nb && decide (0 < k)), .slice ro' k cr']) (by simp [results, Tryd.results38, go_sem, z0, z1]) rfl ⟨_, ro', k, cr', rfl, ?_, ?_⟩
  · refine bn_of (hs3.only_box y3 (only_set2 _ _ _ _)) rfl ?_
    rw [hx'.out, hy'.out]; exact sgd_add hwz hwy
  · obtain ⟨b1, l1⟩ := bnext hb2'.out (by omega) (Below.refl _ W2).drew
    obtain ⟨b2, l2⟩ := bnext b1 l1 hw2
    obtain ⟨b3, l3⟩ := bnext b2 l2 hw3
    rw [HBe.out]
    exact b3.trans ((only_set2 _ _ _ _).below (by omega))
set_option maxRecDepth 100000 in
set_option maxHeartbeats 2000000 in
theorem add_GE (nb mb : Bool) (ao : Option Addr) (n ca : Nat) (bo : Option Addr) (m cb : Nat) (x y : Int) (w : World) (ha : Bg w nb ao n ca x) (hb : Bg w mb bo m cb y) (hm : mb = !nb) (hge : ∀ zs ys, Sl w ao n ca zs → Sl w bo m cb ys → (num ys).toNat ≤ (num zs).toNat) :
    Calls Tryd.prog 38 #[.agg #[.bool nb, .slice ao n ca], .agg #[.bool mb, .slice bo m cb]] w fun e w' => ∃ nr ro k cr, e = .returned (.agg #[.bool nr, .slice ro k cr]) ∧ Bn w' nr ro k cr (x + y) ∧ Below w.heap.size w w' := by
  obtain ⟨⟨zs, hs, hx⟩, hsm⟩ := ha
  obtain ⟨⟨ys, hu, hy⟩, hum⟩ := hb
  have hwz := hs.wf
  have hwy := hu.wf
  have hle := hge _ _ hs hu
  have hle' := Lib.hid hle
  clear hge hle
  have hmn : (nb == mb) = false := by subst hm; cases nb <;> rfl
  have hm' := Lib.hid hm; clear hm
  have hx' := Lib.hid hx; clear hx
  have hy' := Lib.hid hy; clear hy
  go_enter Tryd.func38, Tryd.ntmps38
  go_wp2_with fail
  obtain ⟨W, hW, hB, hbx, hby, hrx, hz⟩ := boxes2 w nb ao n ca mb bo m cb
  rw [← hW]
  clear hW
  have hs0 := hs.below hB
  have hu0 := hu.below hB
  generalize hBe : w.heap.size = B at *
  have HBe := Lib.hid hBe; clear hBe
  have hBelow := Lib.hid hB
  clear hs hu hB
  obtain ⟨k1, hk1, hs1, ht1⟩ := trim_at _ _ _ _ _ hs0
  obtain ⟨k2, hk2, hu1, ht2⟩ := trim_at _ _ _ _ _ hu0
  generalize ea : (num zs).toNat = a at hs1 hle'
  generalize eb : (num ys).toNat = b at hu1 hle'
  have EA := Lib.hid ea; clear ea
  have EB := Lib.hid eb; clear eb
  have HT1 := Lib.hid ht1; clear ht1
  have HT2 := Lib.hid ht2; clear ht2
  have k0 := hbx.c0
  have k1' := hbx.c1
  have l0 := hby.c0
  have l1' := hby.c1
  go_quiet ((go_at_call 77; first | (with_reducible exact quiet_left (HT1.out _ (by exact hs0.drewN _))) | (with_reducible exact quiet_left (HT2.out _ (by exact hu0.drewN _)))))
  go_wp2_with fail
  refine (compare_any _ _ _ _ _ _ _ _ _ (by exact hs1.drewN nq) (by exact hu1.drewN nq)).mono ?_
  rintro e w' ⟨rfl, q2, rfl⟩
  rw [World.drewN_drewN]
  obtain ⟨W2, hW2, hq⟩ := drewN_world W (nq + q2)
  rw [hW2]
  clear hW2
  have hsg : decide (0 ≤ sgn3 (a : Int) (b : Int)) = true := by have := hle'.out; simp [sgn3]; omega
  have hs2 := hs1.below hq
  have hu2 := hu1.below hq
  have hbx2 := hbx.below hq
  have hrx2 := hrx.below hq
  obtain ⟨hb2, hz2⟩ := bnext hBelow.out (by omega) hq
  have hb2' := Lib.hid hb2; clear hb2
  have hz2' : B + 3 ≤ W2.heap.size := by have := hq.size; omega
  clear hs1 hu1 hs0 hu0 hbx hby hrx hq k0 k1' l0 l1' HT1 HT2
  have k0 := hbx2.c0
  go_wp2
  go_region_held3 (fun w' => w'.cell? ⟨B, 0, none⟩ = some (.bool nb))
    (first | exact k0 | exact x2.c0 | exact x3.c0 | go_simp)
    (first
      | (go_at_call 86; refine (minus_any _ _ _ _ _ _ _ _ _ (by exact hs2.drew) (by exact hu2.drew) (by exact hle'.out)).mono ?_; rintro e w2 ⟨ro, k, cr, rfl, hp, hw2⟩; have x2 := hbx2.drew.below hw2; have y2 := hrx2.drew.below hw2)
      | (go_at_call 83; refine (signed_any _ _ _ _ _ _ (by exact hp)).mono ?_; rintro e w3 ⟨ro', cr', rfl, hs3, hw3⟩; have x3 := x2.below hw3; have y3 := y2.below hw3; have q0 := y3.c0; have q1 := y3.c1; have q2 := y3.f 0; have q3 := y3.f 1; have e0 := x3.c0))
  have z3 := y3.stored (nb && decide (0 < k)) ro' k cr'
  have z0 := z3.c0
  have z1 := z3.c1
  go_wp2
  refine bodyPost_ret (v := .agg #[.bool (nb && decide (0 < k)), .slice ro' k cr']) (by simp [results, Tryd.results38, go_sem, z0, z1]) rfl ⟨_, ro', k, cr', rfl, ?_, ?_⟩
  · refine bn_of (hs3.only_box y3 (only_set2 _ _ _ _)) rfl ?_
    have e := sgd_sub_ge hwz hwy hm'.out (by rw [EA.out, EB.out]; exact hle'.out)
    rw [EA.out, EB.out] at e
    rw [hx'.out, hy'.out]; exact e
  · obtain ⟨b1, l1⟩ := bnext hb2'.out (by omega) (Below.refl _ W2).drew
    obtain ⟨b2, l2⟩ := bnext b1 l1 hw2
    obtain ⟨b3, l3⟩ := bnext b2 l2 hw3
    rw [HBe.out]
    exact b3.trans ((only_set2 _ _ _ _).below (by omega))
set_option maxRecDepth 100000 in
set_option maxHeartbeats 2000000 in
theorem add_LT (nb mb : Bool) (ao : Option Addr) (n ca : Nat) (bo : Option Addr) (m cb : Nat) (x y : Int) (w : World) (ha : Bg w nb ao n ca x) (hb : Bg w mb bo m cb y) (hm : mb = !nb) (hge : ∀ zs ys, Sl w ao n ca zs → Sl w bo m cb ys → (num zs).toNat < (num ys).toNat) :
    Calls Tryd.prog 38 #[.agg #[.bool nb, .slice ao n ca], .agg #[.bool mb, .slice bo m cb]] w fun e w' => ∃ nr ro k cr, e = .returned (.agg #[.bool nr, .slice ro k cr]) ∧ Bn w' nr ro k cr (x + y) ∧ Below w.heap.size w w' := by
  obtain ⟨⟨zs, hs, hx⟩, hsm⟩ := ha
  obtain ⟨⟨ys, hu, hy⟩, hum⟩ := hb
  have hwz := hs.wf
  have hwy := hu.wf
  have hle := hge _ _ hs hu
  have hle' := Lib.hid hle
  clear hge hle
  have hmn : (nb == mb) = false := by subst hm; cases nb <;> rfl
  have hm' := Lib.hid hm; clear hm
  have hx' := Lib.hid hx; clear hx
  have hy' := Lib.hid hy; clear hy
  go_enter Tryd.func38, Tryd.ntmps38
  go_wp2_with fail
  obtain ⟨W, hW, hB, hbx, hby, hrx, hz⟩ := boxes2 w nb ao n ca mb bo m cb
  rw [← hW]
  clear hW
  have hs0 := hs.below hB
  have hu0 := hu.below hB
  generalize hBe : w.heap.size = B at *
  have HBe := Lib.hid hBe; clear hBe
  have hBelow := Lib.hid hB
  clear hs hu hB
  obtain ⟨k1, hk1, hs1, ht1⟩ := trim_at _ _ _ _ _ hs0
  obtain ⟨k2, hk2, hu1, ht2⟩ := trim_at _ _ _ _ _ hu0
  generalize ea : (num zs).toNat = a at hs1 hle'
  generalize eb : (num ys).toNat = b at hu1 hle'
  have EA := Lib.hid ea; clear ea
  have EB := Lib.hid eb; clear eb
  have HT1 := Lib.hid ht1; clear ht1
  have HT2 := Lib.hid ht2; clear ht2
  have k0 := hbx.c0
  have k1' := hbx.c1
  have l0 := hby.c0
  have l1' := hby.c1
  go_quiet ((go_at_call 77; first | (with_reducible exact quiet_left (HT1.out _ (by exact hs0.drewN _))) | (with_reducible exact quiet_left (HT2.out _ (by exact hu0.drewN _)))))
  go_wp2_with fail
  refine (compare_any _ _ _ _ _ _ _ _ _ (by exact hs1.drewN nq) (by exact hu1.drewN nq)).mono ?_
  rintro e w' ⟨rfl, q2, rfl⟩
  rw [World.drewN_drewN]
  obtain ⟨W2, hW2, hq⟩ := drewN_world W (nq + q2)
  rw [hW2]
  clear hW2
  have hsg : decide (0 ≤ sgn3 (a : Int) (b : Int)) = false := by have := hle'.out; simp [sgn3]; omega
  have hs2 := hs1.below hq
  have hu2 := hu1.below hq
  have hbx2 := hby.below hq
  have hrx2 := hrx.below hq
  obtain ⟨hb2, hz2⟩ := bnext hBelow.out (by omega) hq
  have hb2' := Lib.hid hb2; clear hb2
  have hz2' : B + 3 ≤ W2.heap.size := by have := hq.size; omega
  clear hs1 hu1 hs0 hu0 hbx hby hrx hq k0 k1' l0 l1' HT1 HT2
  have k0 := hbx2.c0
  go_wp2
  go_region_held3 (fun w' => w'.cell? ⟨B + 1, 0, none⟩ = some (.bool mb))
    (first | exact k0 | exact x2.c0 | exact x3.c0 | go_simp)
    (first
      | (go_at_call 86; refine (minus_any _ _ _ _ _ _ _ _ _ (by exact hu2.drew) (by exact hs2.drew) (by exact Nat.le_of_lt hle'.out)).mono ?_; rintro e w2 ⟨ro, k, cr, rfl, hp, hw2⟩; have x2 := hbx2.drew.below hw2; have y2 := hrx2.drew.below hw2)
      | (go_at_call 83; refine (signed_any _ _ _ _ _ _ (by exact hp)).mono ?_; rintro e w3 ⟨ro', cr', rfl, hs3, hw3⟩; have x3 := x2.below hw3; have y3 := y2.below hw3; have q0 := y3.c0; have q1 := y3.c1; have q2 := y3.f 0; have q3 := y3.f 1; have e0 := x3.c0))
  have z3 := y3.stored (mb && decide (0 < k)) ro' k cr'
  have z0 := z3.c0
  have z1 := z3.c1
  go_wp2
  refine bodyPost_ret (v := .agg #[.bool (mb && decide (0 < k)), .slice ro' k cr']) (by simp [results, Tryd.results38, go_sem, z0, z1]) rfl ⟨_, ro', k, cr', rfl, ?_, ?_⟩
  · refine bn_of (hs3.only_box y3 (only_set2 _ _ _ _)) rfl ?_
    have e := sgd_sub_lt hwz hwy hm'.out (by rw [EA.out, EB.out]; exact Nat.le_of_lt hle'.out)
    rw [EA.out, EB.out] at e
    rw [hx'.out, hy'.out]; exact e
  · obtain ⟨b1, l1⟩ := bnext hb2'.out (by omega) (Below.refl _ W2).drew
    obtain ⟨b2, l2⟩ := bnext b1 l1 hw2
    obtain ⟨b3, l3⟩ := bnext b2 l2 hw3
    rw [HBe.out]
    exact b3.trans ((only_set2 _ _ _ _).below (by omega))
theorem num_fun {w : World} {ao : Option Addr} {n cap : Nat} {zs ys : List Int} (h : Sl w ao n cap zs) (k : Sl w ao n cap ys) : zs = ys := by
  have hl := h.len
  have kl := k.len
  apply List.ext_getElem (by rw [hl, kl])
  intro i h1 h2
  obtain ⟨b, off, e, hc⟩ := h.cells (by omega)
  obtain ⟨b', off', e', hc'⟩ := k.cells (by omega)
  rw [e] at e'
  cases e'
  have a1 := hc i h1
  rw [hc' i h2] at a1
  rw [getD_at h1, getD_at h2] at a1
  simp at a1
  exact a1.symm

/-- the sum, whatever the signs -/
theorem add_any (nb mb : Bool) (ao : Option Addr) (n ca : Nat) (bo : Option Addr) (m cb : Nat) (x y : Int) (w : World) (ha : Bg w nb ao n ca x) (hb : Bg w mb bo m cb y) :
    Calls Tryd.prog 38 #[.agg #[.bool nb, .slice ao n ca], .agg #[.bool mb, .slice bo m cb]] w fun e w' => ∃ nr ro k cr, e = .returned (.agg #[.bool nr, .slice ro k cr]) ∧ Bn w' nr ro k cr (x + y) ∧ Below w.heap.size w w' := by
  by_cases h : nb = mb
  · subst h; exact add_same nb ao n ca bo m cb x y w ha hb
  · have hm : mb = !nb := by cases nb <;> cases mb <;> simp_all
    obtain ⟨zs, hs, _⟩ := ha.ex
    obtain ⟨ys, hu, _⟩ := hb.ex
    by_cases hle : (num ys).toNat ≤ (num zs).toNat
    · exact add_GE nb mb ao n ca bo m cb x y w ha hb hm (fun zs' ys' h1 h2 => by rw [num_fun h1 hs, num_fun h2 hu]; exact hle)
    · exact add_LT nb mb ao n ca bo m cb x y w ha hb hm (fun zs' ys' h1 h2 => by rw [num_fun h1 hs, num_fun h2 hu]; omega)
end Go.Proofs.YtilmighjcjgccaaDoor

/- What integer.Sub does: the normalized difference. -/
namespace Go.Proofs.YtilmighjcjgccaaDoor
open Go.RowKit

theorem Bg.not {w : World} {nb : Bool} {ao : Option Addr} {n cap : Nat} {x : Int} (h : Bg w nb ao n cap x) : Bg w (!nb) ao n cap (-x) := by
  obtain ⟨⟨zs, h1, h2⟩, h3⟩ := h
  refine ⟨⟨zs, h1, ?_⟩, h3⟩
  rw [h2]
  unfold sgd
  cases nb <;> simp
theorem Bg.only_box {w w' : World} {g : Nat} {nb mb : Bool} {ao ro : Option Addr} {n cap k cr : Nat} {x : Int} (h : Bg w mb ro k cr x) (hx : Box w g nb ao n cap) (ho : Only g w w') : Bg w' mb ro k cr x := by
  obtain ⟨⟨zs, h1, h2⟩, h3⟩ := h
  exact ⟨⟨zs, h1.only_box hx ho, h2⟩, h3⟩
theorem Bn.only_box {w w' : World} {g : Nat} {nb mb : Bool} {ao ro : Option Addr} {n cap k cr : Nat} {x : Int} (h : Bn w mb ro k cr x) (hx : Box w g nb ao n cap) (ho : Only g w w') : Bn w' mb ro k cr x :=
  ⟨h.neg, h.sl.only_box hx ho⟩

set_option maxRecDepth 100000 in
set_option maxHeartbeats 2000000 in
theorem sub_any (nb mb : Bool) (ao : Option Addr) (n ca : Nat) (bo : Option Addr) (m cb : Nat) (x y : Int) (w : World) (ha : Bg w nb ao n ca x) (hb : Bg w mb bo m cb y) :
    Calls Tryd.prog 80 #[.agg #[.bool nb, .slice ao n ca], .agg #[.bool mb, .slice bo m cb]] w fun e w' => ∃ nr ro k cr, e = .returned (.agg #[.bool nr, .slice ro k cr]) ∧ Bn w' nr ro k cr (x - y) ∧ Below w.heap.size w w' := by
  go_enter Tryd.func80, Tryd.ntmps80
  go_wp2_with fail
  obtain ⟨W, hW, hB, hbx, hby, hrx, hz⟩ := boxes2 w nb ao n ca (!mb) bo m cb
  rw [← hW]
  clear hW
  refine (add_any nb (!mb) ao n ca bo m cb x (-y) W (ha.below hB) (hb.not.below hB)).mono ?_
  rintro e w2 ⟨nr, ro, k, cr, rfl, hr, hw2⟩
  have y2 := hrx.below hw2
  obtain ⟨b2, l2⟩ := bnext hB (by omega) hw2
  generalize hBe : w.heap.size = B at *
  have HBe := Lib.hid hBe; clear hBe
  have z2 := hw2.size
  clear hbx hby hrx hB hw2
  have q0 := y2.c0
  have q1 := y2.c1
  have q2 := y2.f 0
  have q3 := y2.f 1
  have z3 := y2.stored nr ro k cr
  have z0 := z3.c0
  have z1 := z3.c1
  go_wp2
  refine bodyPost_ret (v := .agg #[.bool nr, .slice ro k cr]) (by simp [results, Tryd.results80, go_sem, z0, z1]) rfl ⟨nr, ro, k, cr, rfl, ?_, ?_⟩
  · have := hr.only_box y2 (only_set2 w2 (B + 1 + 1) (.bool nr) (.slice ro k cr))
    rwa [← Int.sub_eq_add_neg] at this
  · rw [HBe.out]
    exact b2.trans ((only_set2 _ _ _ _).below (by omega))
end Go.Proofs.YtilmighjcjgccaaDoor

/- What integer.longProduct does: the limbs of the product. -/
namespace Go.Proofs.YtilmighjcjgccaaDoor
open Go.RowKit

/-- the first k rows of the product are in Lk, and nothing stands above them -/
def PRows (a b Lk : List Int) (n k : Nat) : Prop :=
  Lk.length = n + b.length ∧ Wf Lk ∧ num Lk = num a * num (b.take k) ∧ ∀ i, n + k ≤ i → Lk.getD i 0 = 0

theorem getD_replicate (n i : Nat) : (List.replicate n (0 : Int)).getD i 0 = 0 := by
  by_cases h : i < n <;> simp [List.getD, h]

theorem PRows.start (a b : List Int) (n m : Nat) (hm : b.length = m) : PRows a b (List.replicate (n + m) 0) n 0 :=
  ⟨by simp [hm], Wf.replicate _, by simp [num_replicate, num], fun i _ => getD_replicate _ i⟩

theorem mul_bounds {x y : Int} (x0 : 0 ≤ x) (x1 : x < 4294967296) (y0 : 0 ≤ y) (y1 : y < 4294967296) : 0 ≤ x * y ∧ x * y ≤ 18446744065119617025 := by
  refine ⟨Int.mul_nonneg x0 y0, ?_⟩
  have h1 : x * y ≤ 4294967295 * y := Int.mul_le_mul_of_nonneg_right (by omega) y0
  omega

theorem row_step (k j : Nat) (x y N : Int) : 4294967296 ^ k * (x * N) + 4294967296 ^ (k + j) * (x * y) = 4294967296 ^ k * (x * (N + 4294967296 ^ j * y)) := by
  rw [Int.pow_add, Int.mul_add, Int.mul_add, Int.mul_assoc, Int.mul_left_comm (4294967296 ^ j) x y]

theorem getD_of_drop_le {zs ys : List Int} {k i : Nat} (h : zs.drop k = ys.drop k) (hi : k ≤ i) : zs.getD i 0 = ys.getD i 0 := by
  have := congrArg (fun l => l.getD (i - k) 0) h
  simpa [List.getD, show k + (i - k) = i by omega] using this

theorem PRows.step {a b Lk L' : List Int} {n k : Nat} {x : Int} {i : Nat} (h : PRows a b Lk n k) (st : Added Lk L' (i + 1) 0 (4294967296 ^ k * (x * num a))) (hi : i = k + n) (hk : k < b.length) (hx : b.getD k 0 = x) :
    PRows a b L' n (k + 1) := by
  obtain ⟨h1, h2, h3, h4⟩ := h
  refine ⟨by rw [st.1, h1], st.2.1, ?_, ?_⟩
  · rw [st.done, h3, num_take_succ b k hk, hx, Int.mul_add]
    congr 1
    rw [Int.mul_comm x, Int.mul_left_comm]
  · intro j hj
    rw [getD_of_drop_le st.2.2.1 (by omega)]
    exact h4 j (by omega)

end Go.Proofs.YtilmighjcjgccaaDoor

/- What integer.times does where one of the numbers has fewer than a hundred limbs, and what integer.Mul does there. -/
namespace Go.Proofs.YtilmighjcjgccaaDoor
open Go.RowKit

theorem sgd_mul {nb mb : Bool} {zs ys : List Int} (hz : Wf zs) (hy : Wf ys) : sgd nb zs * sgd mb ys = if (nb != mb) then - (((num zs).toNat * (num ys).toNat : Nat) : Int) else (((num zs).toNat * (num ys).toNat : Nat) : Int) := by
  have a := num_nonneg hz
  have b := num_nonneg hy
  rw [Int.natCast_mul, Int.toNat_of_nonneg a, Int.toNat_of_nonneg b]
  unfold sgd
  cases nb <;> cases mb <;> simp [Int.neg_mul, Int.mul_neg]

end Go.Proofs.YtilmighjcjgccaaDoor

/- What sparsekit.Limbs does: it compares two lists of limbs. -/
namespace Go.Proofs.YtilmighjcjgccaaDoor
open Go.RowKit

set_option maxRecDepth 100000 in
set_option maxHeartbeats 400000 in
theorem limbs_same (ao bo : Option Addr) (n cap cbp : Nat) (zs : List Int) (w : World) (ha : Sl w ao n cap zs) (hb : Sl w bo n cbp zs) :
    Calls Tryd.prog 87 #[.slice ao n cap, .slice bo n cbp] w fun e w' => e = .returned (.bool true) ∧ ∃ q, w' = w.drewN q := by
  have hn := ha.big
  have h0 : ((n : Int) != n) = false := by simp
  go_enter Tryd.func87, Tryd.ntmps87
  go_wp2
  go_loopw [5] (fun i wr => ∃ k q : Nat, k ≤ n ∧ i = .int .i64 k ∧ wr = w.drewN q) (fun i _ => n - (intOf i).toNat)
  case atStart => exact ⟨0, 0, Nat.zero_le _, rfl, rfl⟩
  case round =>
    obtain ⟨k, q, hk, rfl, hw⟩ := hrel
    by_cases hlt : k < n
    · obtain ⟨b, off, rfl, hc⟩ := ha.cells (by rw [ha.len]; omega)
      obtain ⟨b', off', rfl, hc'⟩ := hb.cells (by rw [hb.len]; omega)
      subst hw
      have c1 := hc k (by rw [ha.len]; omega)
      have c2 := hc' k (by rw [hb.len]; omega)
      clear hc hc'
      obtain ⟨x, hx⟩ : ∃ x, zs.getD k 0 = x := ⟨_, rfl⟩
      rw [hx] at c1 c2
      clear hx
      have hxx : (x != x) = false := by simp
      go_wp2
      go_quiet (fail)
      go_wp2
      go_roundw
      case rel => exact ⟨k + 1, q + nq, by omega, by go_num, by simp [World.drewN]⟩
      case measure => simp [intOf]; omega
    · clear ha hb
      go_wp2
      go_ret
      exact ⟨rfl, q, rfl⟩
end Go.Proofs.YtilmighjcjgccaaDoor

/- What sparsekit.Big and Slim do. -/
namespace Go.Proofs.YtilmighjcjgccaaDoor
open Go.RowKit

set_option maxRecDepth 100000 in
set_option maxHeartbeats 1000000 in
theorem big_same (nb mb : Bool) (ao : Option Addr) (n ca : Nat) (bo : Option Addr) (m cb : Nat) (zs : List Int) (w : World) (hm : nb = mb) (ha : Sl w ao n ca zs) (hb : Sl w bo m cb zs) :
    Calls Tryd.prog 39 #[.agg #[.bool nb, .slice ao n ca], .agg #[.bool mb, .slice bo m cb]] w fun e w' => e = .returned (.bool true) ∧ Below w.heap.size w w' := by
  subst hm
  obtain rfl : n = m := by rw [← ha.len, hb.len]
  go_enter Tryd.func39, Tryd.ntmps39
  go_wp2_with fail
  obtain ⟨W, hW, hB⟩ : ∃ W, W = (w.alloc (.cells #[.bool nb, .slice ao n ca] 27)).alloc (.cells #[.bool nb, .slice bo n cb] 27) ∧ Below w.heap.size w W :=
    ⟨_, rfl, ((Below.refl _ w).alloc (Nat.le_refl _) _).alloc (by simp) _⟩
  rw [← hW]
  clear hW
  refine (limbs_same _ _ _ _ _ zs W (ha.below hB) (hb.below hB)).mono ?_
  rintro e w1 ⟨rfl, q, rfl⟩
  have hB' := Lib.hid hB; clear hB
  go_wp2
  go_ret
  exact ⟨rfl, below_drewN hB'.out q⟩

theorem big_eq (nb mb : Bool) (ao : Option Addr) (n ca : Nat) (bo : Option Addr) (m cb : Nat) (x y : Int) (w : World) (ha : Bn w nb ao n ca x) (hb : Bn w mb bo m cb y) (hxy : x = y) :
    Calls Tryd.prog 39 #[.agg #[.bool nb, .slice ao n ca], .agg #[.bool mb, .slice bo m cb]] w fun e w' => e = .returned (.bool true) ∧ Below w.heap.size w w' := by
  subst hxy
  exact big_same nb mb ao n ca bo m cb _ w (by rw [ha.neg, hb.neg]) ha.sl hb.sl

end Go.Proofs.YtilmighjcjgccaaDoor

/- The integers that a statement has at hand: each value with the number that it stands for; what each function adds to them. -/
namespace Go.Proofs.YtilmighjcjgccaaDoor
open Go.RowKit

/-- later, with all that was there as it was -/
def Ext (w w' : World) : Prop := Below w.heap.size w w'
theorem Ext.refl (w : World) : Ext w w := Below.refl _ _
theorem Ext.trans {a b c : World} (h : Ext a b) (k : Ext b c) : Ext a c := Below.trans h (Below.mono k h.size)

/-- a value, the number that it stands for, how many limbs it has at most, is it normalized -/
structure Ent where
  v : Value
  x : Int
  N : Nat
  c : Bool

def Ent.Ok (w : World) (p : Ent) : Prop :=
  ∃ nb ao n ca, p.v = .agg #[.bool nb, .slice ao n ca] ∧ Bg w nb ao n ca p.x ∧ n ≤ p.N ∧ p.x.natAbs < 4294967296 ^ p.N ∧ (p.c = true → Bn w nb ao n ca p.x)

theorem Ent.Ok.ext {w w' : World} {p : Ent} (h : p.Ok w) (he : Ext w w') : p.Ok w' := by
  obtain ⟨nb, ao, n, ca, h1, h2, h3, h4, h5⟩ := h
  exact ⟨nb, ao, n, ca, h1, h2.below he, h3, h4, fun e => (h5 e).below he⟩

/-- what is at hand -/
structure St (W w : World) (L : List Ent) : Prop where
  ext : Ext W w
  bag : ∀ p ∈ L, p.Ok w

theorem St.step {W w w' : World} {L : List Ent} (h : St W w L) (he : Ext w w') : St W w' L := ⟨h.ext.trans he, fun p hp => (h.bag p hp).ext he⟩
theorem St.push {W w w' : World} {L : List Ent} (h : St W w L) (he : Ext w w') {p : Ent} (hp : p.Ok w') : St W w' (p :: L) :=
  ⟨h.ext.trans he, fun q hq => by
    rcases List.mem_cons.1 hq with rfl | hq
    · exact hp
    · exact (h.bag q hq).ext he⟩
theorem St.drew {W w : World} {L : List Ent} (h : St W w L) : St W w.drew L := h.step (Below.refl _ _).drew
theorem St.drewN {W w : World} {L : List Ent} (h : St W w L) (q : Nat) : St W (w.drewN q) L := h.step (below_drewN (Below.refl _ _) q)

theorem len_of_lt {x : Int} {N : Nat} (h : x.natAbs < 4294967296 ^ N) : (limbs x.natAbs).length ≤ N := (limbs_len_le _ _).2 h

/-- a normalized result -/
theorem ok_bn {w : World} {nb : Bool} {ao : Option Addr} {n ca : Nat} {x : Int} {N : Nat} (h : Bn w nb ao n ca x) (hx : x.natAbs < 4294967296 ^ N) (hN : N ≤ 1000000000) : Ent.Ok w ⟨.agg #[.bool nb, .slice ao n ca], x, N, true⟩ := by
  have hl := len_of_lt hx
  rw [h.sl.len] at hl
  exact ⟨nb, ao, n, ca, rfl, h.bg (by omega), hl, hx, fun _ => h⟩

theorem pow_le {a b : Nat} (h : a ≤ b) : 4294967296 ^ a ≤ 4294967296 ^ b := Nat.pow_le_pow_right (by omega) h

theorem abs_add {x y : Int} {N M : Nat} (hx : x.natAbs < 4294967296 ^ N) (hy : y.natAbs < 4294967296 ^ M) : (x + y).natAbs < 4294967296 ^ (max N M + 1) := by
  have h1 := Nat.lt_of_lt_of_le hx (pow_le (Nat.le_max_left N M))
  have h2 := Nat.lt_of_lt_of_le hy (pow_le (Nat.le_max_right N M))
  have h3 := Int.natAbs_add_le x y
  rw [Nat.pow_succ]
  omega
theorem abs_sub {x y : Int} {N M : Nat} (hx : x.natAbs < 4294967296 ^ N) (hy : y.natAbs < 4294967296 ^ M) : (x - y).natAbs < 4294967296 ^ (max N M + 1) := by
  have := abs_add hx (y := -y) (M := M) (by rw [Int.natAbs_neg]; exact hy)
  rwa [← Int.sub_eq_add_neg] at this
theorem abs_mul {x y : Int} {N M : Nat} (hx : x.natAbs < 4294967296 ^ N) (hy : y.natAbs < 4294967296 ^ M) : (x * y).natAbs < 4294967296 ^ (N + M) := by
  rw [Int.natAbs_mul, Nat.pow_add]
  by_cases h0 : y.natAbs = 0
  · rw [h0, Nat.mul_zero]; exact Nat.mul_pos (Nat.pos_of_ne_zero (by simp)) (Nat.pos_of_ne_zero (by simp))
  · exact Nat.mul_lt_mul_of_lt_of_le hx (Nat.le_of_lt hy) (Nat.pos_of_ne_zero (by simp))

section
variable {W w : World} {L : List Ent} {u v : Value} {x y : Int} {N M : Nat} {c d : Bool}

theorem add_bag (h : St W w L) (h1 : ⟨u, x, N, c⟩ ∈ L) (h2 : ⟨v, y, M, d⟩ ∈ L) (hN : N ≤ 100000) (hM : M ≤ 100000) :
    Calls Tryd.prog 38 #[u, v] w fun e w' => ∃ r, e = .returned r ∧ St W w' (⟨r, x + y, max N M + 1, true⟩ :: L) := by
  obtain ⟨nb, ao, n, ca, rfl, b1, n1, a1, _⟩ := h.bag _ h1
  obtain ⟨mb, bo, m, cb, rfl, b2, n2, a2, _⟩ := h.bag _ h2
  refine (add_any nb mb ao n ca bo m cb x y w b1 b2).mono fun e w' ⟨nr, ro, k, cr, he, hr, hw⟩ => ⟨_, he, h.push hw (ok_bn hr (abs_add a1 a2) (by omega))⟩

theorem sub_bag (h : St W w L) (h1 : ⟨u, x, N, c⟩ ∈ L) (h2 : ⟨v, y, M, d⟩ ∈ L) (hN : N ≤ 100000) (hM : M ≤ 100000) :
    Calls Tryd.prog 80 #[u, v] w fun e w' => ∃ r, e = .returned r ∧ St W w' (⟨r, x - y, max N M + 1, true⟩ :: L) := by
  obtain ⟨nb, ao, n, ca, rfl, b1, n1, a1, _⟩ := h.bag _ h1
  obtain ⟨mb, bo, m, cb, rfl, b2, n2, a2, _⟩ := h.bag _ h2
  refine (sub_any nb mb ao n ca bo m cb x y w b1 b2).mono fun e w' ⟨nr, ro, k, cr, he, hr, hw⟩ => ⟨_, he, h.push hw (ok_bn hr (abs_sub a1 a2) (by omega))⟩

theorem norm_bag (h : St W w L) (h1 : ⟨u, x, N, c⟩ ∈ L) (hN : N ≤ 100000) :
    Calls Tryd.prog 66 #[u] w fun e w' => ∃ r, e = .returned r ∧ St W w' (⟨r, x, N, true⟩ :: L) := by
  obtain ⟨nb, ao, n, ca, rfl, b1, n1, a1, _⟩ := h.bag _ h1
  refine (norm_any nb ao n ca x w b1).mono fun e w' ⟨nr, ro, k, cr, he, hr, hw⟩ => ⟨_, he, h.push hw (ok_bn hr a1 (by omega))⟩

theorem big_bag (h : St W w L) (h1 : ⟨u, x, N, true⟩ ∈ L) (h2 : ⟨v, y, M, true⟩ ∈ L) (hxy : x = y) :
    Calls Tryd.prog 39 #[u, v] w fun e w' => e = .returned (.bool true) ∧ St W w' L := by
  obtain ⟨nb, ao, n, ca, rfl, _, _, _, c1⟩ := h.bag _ h1
  obtain ⟨mb, bo, m, cb, rfl, _, _, _, c2⟩ := h.bag _ h2
  refine (big_eq nb mb ao n ca bo m cb x y w (c1 rfl) (c2 rfl) hxy).mono fun e w' ⟨he, hw⟩ => ⟨he, h.step hw⟩
end

theorem ok_zero (w : World) : Ent.Ok w ⟨.agg #[.bool false, .slice none 0 0], 0, 0, true⟩ := by
  have hb : Bn w false none 0 0 0 := ⟨by simp, by simp [limbs_zero]; exact Sl.nil w⟩
  exact ok_bn hb (by simp) (by omega)

/-- a small raw argument -/
theorem ok_raw {w : World} {nb : Bool} {ao : Option Addr} {n ca : Nat} {zs : List Int} (h : Sl w ao n ca zs) (N : Nat) (hn : n ≤ N) (hN : N ≤ 100000) : Ent.Ok w ⟨.agg #[.bool nb, .slice ao n ca], sgd nb zs, N, false⟩ := by
  refine ⟨nb, ao, n, ca, rfl, ⟨⟨zs, h, rfl⟩, by omega⟩, hn, ?_, fun e => by cases e⟩
  simp only
  rw [sgd_natAbs h.wf]
  have h1 := num_lt h.wf
  have h2 := num_nonneg h.wf
  rw [h.len] at h1
  have h3 : ((num zs).toNat : Int) < ((4294967296 ^ n : Nat) : Int) := by rw [Int.toNat_of_nonneg h2, Int.natCast_pow]; exact h1
  exact Nat.lt_of_lt_of_le (Int.ofNat_lt.1 h3) (pow_le hn)

end Go.Proofs.YtilmighjcjgccaaDoor
