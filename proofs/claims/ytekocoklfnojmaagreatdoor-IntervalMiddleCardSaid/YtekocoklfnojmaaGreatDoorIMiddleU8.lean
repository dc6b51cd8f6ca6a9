import Derived.Test.YtekocoklfnojmaaGreatDoorIMiddleU6
import Derived.Test.YtekocoklfnojmaaGreatDoorIMiddleU7
import Derived.Deep.RegionHeld3
import Derived.Laws.Bits64
import Derived.Deep.QuietTactic
import Derived.BigQuiet
namespace Go.Proofs.YtekocoklfnojmaaGreatDoor
open Go.RowKit

theorem sgd_add {nb : Bool} {zs ys : List Int} (hz : Wf zs) (hy : Wf ys) : sgd nb zs + sgd nb ys = if nb then - (((num zs).toNat + (num ys).toNat : Nat) : Int) else (((num zs).toNat + (num ys).toNat : Nat) : Int) := by
  have a := num_nonneg hz
  have b := num_nonneg hy
  unfold sgd
  cases nb <;> simp <;> omega
theorem sgd_sub_ge {nb mb : Bool} {zs ys : List Int} (hz : Wf zs) (hy : Wf ys) (hm : mb = !nb) (h : (num ys).toNat ≤ (num zs).toNat) :
    sgd nb zs + sgd mb ys = if nb then - (((num zs).toNat - (num ys).toNat : Nat) : Int) else (((num zs).toNat - (num ys).toNat : Nat) : Int) := by
  have a := num_nonneg hz
  have b := num_nonneg hy
  subst hm
  unfold sgd
  cases nb <;> simp <;> omega
theorem sgd_sub_lt {nb mb : Bool} {zs ys : List Int} (hz : Wf zs) (hy : Wf ys) (hm : mb = !nb) (h : (num zs).toNat ≤ (num ys).toNat) :
    sgd nb zs + sgd mb ys = if mb then - (((num ys).toNat - (num zs).toNat : Nat) : Int) else (((num ys).toNat - (num zs).toNat : Nat) : Int) := by
  have a := num_nonneg hz
  have b := num_nonneg hy
  subst hm
  unfold sgd
  cases nb <;> simp <;> omega

set_option maxRecDepth 100000 in
set_option maxHeartbeats 2000000 in
theorem add_same (nb : Bool) (ao : Option Addr) (n ca : Nat) (bo : Option Addr) (m cb : Nat) (x y : Int) (w : World) (ha : Bg w nb ao n ca x) (hb : Bg w nb bo m cb y) :
    Calls Tryz.prog 107 #[.agg #[.bool nb, .slice ao n ca], .agg #[.bool nb, .slice bo m cb]] w fun e w' => ∃ nr ro k cr, e = .returned (.agg #[.bool nr, .slice ro k cr]) ∧ Bn w' nr ro k cr (x + y) ∧ Below w.heap.size w w' := by
  obtain ⟨⟨zs, hs, hx⟩, hsm⟩ := ha
  obtain ⟨⟨ys, hu, hy⟩, hum⟩ := hb
  have hwz := hs.wf
  have hwy := hu.wf
  have hx' := Lib.hid hx; clear hx
  have hy' := Lib.hid hy; clear hy
  go_enter Tryz.func107, Tryz.ntmps107
  go_wp2_with fail
  obtain ⟨W, hW, hB, hbx, hby, hrx, hz⟩ := boxes2 w nb ao n ca nb bo m cb
  rw [← hW]
  clear hW
  have hs0 := hs.below hB
  have hu0 := hu.below hB
  generalize hBe : w.heap.size = B at *
  have HBe := Lib.hid hBe; clear hBe
  have hBelow := Lib.hid hB
  clear hs hu hB
  obtain ⟨k1, hk1, hs1, ht1⟩ := trim_at _ _ _ _ _ hs0
  obtain ⟨k2, hk2, hu1, ht2⟩ := trim_at _ _ _ _ _ hu0
  have HT1 := Lib.hid ht1; clear ht1
  have HT2 := Lib.hid ht2; clear ht2
  have k0 := hbx.c0
  have k1' := hbx.c1
  have l0 := hby.c0
  have l1' := hby.c1
  go_quiet ((go_at_call 158; first | (with_reducible exact quiet_left (HT1.out _ (by exact hs0.drewN _))) | (with_reducible exact quiet_left (HT2.out _ (by exact hu0.drewN _)))))
  go_wp2
  obtain ⟨W2, hW2, hq⟩ := drewN_world W nq
  rw [hW2]
  clear hW2
  have hs2 := hs1.below hq
  have hu2 := hu1.below hq
  have hbx2 := hbx.below hq
  have hrx2 := hrx.below hq
  obtain ⟨hb2, hz2⟩ := bnext hBelow.out (by omega) hq
  have hb2' := Lib.hid hb2; clear hb2
  have hz2' : B + 3 ≤ W2.heap.size := by have := hq.size; omega
  clear hs1 hu1 hs0 hu0 hbx hby hrx hq k0 k1' l0 l1' HT1 HT2
  have k0 := hbx2.c0
  go_region_held3 (fun w' => w'.cell? ⟨B, 0, none⟩ = some (.bool nb))
    (first | exact k0 | exact x2.c0 | exact x3.c0 | go_simp)
    (first
      | (go_at_call 159; refine (plus_any _ _ _ _ _ _ _ _ _ (by exact hs2.drew) (by exact hu2.drew) (by omega) (by omega)).mono ?_; rintro e w2 ⟨ro, k, cr, rfl, hp, hw2⟩; have x2 := hbx2.drew.below hw2; have y2 := hrx2.drew.below hw2)
      | (go_at_call 152; refine (signed_any _ _ _ _ _ _ (by exact hp)).mono ?_; rintro e w3 ⟨ro', cr', rfl, hs3, hw3⟩; have x3 := x2.below hw3; have y3 := y2.below hw3; have q0 := y3.c0; have q1 := y3.c1; have q2 := y3.f 0; have q3 := y3.f 1; have e0 := x3.c0))
  have z3 := y3.stored (nb && decide (0 < k)) ro' k cr'
  have z0 := z3.c0
  have z1 := z3.c1
  go_wp2
  refine bodyPost_ret (v := .agg #[.bool (nb && decide (0 < k)), .slice ro' k cr']) (by simp [results, Tryz.results107, go_sem, z0, z1]) rfl ⟨_, ro', k, cr', rfl, ?_, ?_⟩
  · refine bn_of (hs3.only_box y3 (only_set2 _ _ _ _)) rfl ?_
    rw [hx'.out, hy'.out]; exact sgd_add hwz hwy
  · obtain ⟨b1, l1⟩ := bnext hb2'.out (by omega) (Below.refl _ W2).drew
    obtain ⟨b2, l2⟩ := bnext b1 l1 hw2
    obtain ⟨b3, l3⟩ := bnext b2 l2 hw3
    rw [HBe.out]
    exact b3.trans ((only_set2 _ _ _ _).below (by omega))
set_option maxRecDepth 100000 in
set_option maxHeartbeats 2000000 in
theorem add_GE (nb mb : Bool) (ao : Option Addr) (n ca : Nat) (bo : Option Addr) (m cb : Nat) (x y : Int) (w : World) (ha : Bg w nb ao n ca x) (hb : Bg w mb bo m cb y) (hm : mb = !nb) (hge : ∀ zs ys, Sl w ao n ca zs → Sl w bo m cb ys → (num ys).toNat ≤ (num zs).toNat) :
    Calls Tryz.prog 107 #[.agg #[.bool nb, .slice ao n ca], .agg #[.bool mb, .slice bo m cb]] w fun e w' => ∃ nr ro k cr, e = .returned (.agg #[.bool nr, .slice ro k cr]) ∧ Bn w' nr ro k cr (x + y) ∧ Below w.heap.size w w' := by
  obtain ⟨⟨zs, hs, hx⟩, hsm⟩ := ha
  obtain ⟨⟨ys, hu, hy⟩, hum⟩ := hb
  have hwz := hs.wf
  have hwy := hu.wf
  have hle := hge _ _ hs hu
  have hle' := Lib.hid hle
  clear hge hle
  have hmn : (nb == mb) = false := by subst hm; cases nb <;> rfl
  have hm' := Lib.hid hm; clear hm
  have hx' := Lib.hid hx; clear hx
  have hy' := Lib.hid hy; clear hy
  go_enter Tryz.func107, Tryz.ntmps107
  go_wp2_with fail
  obtain ⟨W, hW, hB, hbx, hby, hrx, hz⟩ := boxes2 w nb ao n ca mb bo m cb
  rw [← hW]
  clear hW
  have hs0 := hs.below hB
  have hu0 := hu.below hB
  generalize hBe : w.heap.size = B at *
  have HBe := Lib.hid hBe; clear hBe
  have hBelow := Lib.hid hB
  clear hs hu hB
  obtain ⟨k1, hk1, hs1, ht1⟩ := trim_at _ _ _ _ _ hs0
  obtain ⟨k2, hk2, hu1, ht2⟩ := trim_at _ _ _ _ _ hu0
  generalize ea : (num zs).toNat = a at hs1 hle'
  generalize eb : (num ys).toNat = b at hu1 hle'
  have EA := Lib.hid ea; clear ea
  have EB := Lib.hid eb; clear eb
  have HT1 := Lib.hid ht1; clear ht1
  have HT2 := Lib.hid ht2; clear ht2
  have k0 := hbx.c0
  have k1' := hbx.c1
  have l0 := hby.c0
  have l1' := hby.c1
  go_quiet ((go_at_call 158; first | (with_reducible exact quiet_left (HT1.out _ (by exact hs0.drewN _))) | (with_reducible exact quiet_left (HT2.out _ (by exact hu0.drewN _)))))
  go_wp2_with fail
  refine (compare_any _ _ _ _ _ _ _ _ _ (by exact hs1.drewN nq) (by exact hu1.drewN nq)).mono ?_
  rintro e w' ⟨rfl, q2, rfl⟩
  rw [World.drewN_drewN]
  obtain ⟨W2, hW2, hq⟩ := drewN_world W (nq + q2)
  rw [hW2]
  clear hW2
  have hsg : decide (0 ≤ sgn3 (a : Int) (b : Int)) = true := by have := hle'.out; simp [sgn3]; omega
  have hs2 := hs1.below hq
  have hu2 := hu1.below hq
  have hbx2 := hbx.below hq
  have hrx2 := hrx.below hq
  obtain ⟨hb2, hz2⟩ := bnext hBelow.out (by omega) hq
  have hb2' := Lib.hid hb2; clear hb2
  have hz2' : B + 3 ≤ W2.heap.size := by have := hq.size; omega
  clear hs1 hu1 hs0 hu0 hbx hby hrx hq k0 k1' l0 l1' HT1 HT2
  have k0 := hbx2.c0
  go_wp2
  go_region_held3 (fun w' => w'.cell? ⟨B, 0, none⟩ = some (.bool nb))
    (first | exact k0 | exact x2.c0 | exact x3.c0 | go_simp)
    (first
      | (go_at_call 161; refine (minus_any _ _ _ _ _ _ _ _ _ (by exact hs2.drew) (by exact hu2.drew) (by exact hle'.out)).mono ?_; rintro e w2 ⟨ro, k, cr, rfl, hp, hw2⟩; have x2 := hbx2.drew.below hw2; have y2 := hrx2.drew.below hw2)
      | (go_at_call 152; refine (signed_any _ _ _ _ _ _ (by exact hp)).mono ?_; rintro e w3 ⟨ro', cr', rfl, hs3, hw3⟩; have x3 := x2.below hw3; have y3 := y2.below hw3; have q0 := y3.c0; have q1 := y3.c1; have q2 := y3.f 0; have q3 := y3.f 1; have e0 := x3.c0))
  have z3 := y3.stored (nb && decide (0 < k)) ro' k cr'
  have z0 := z3.c0
  have z1 := z3.c1
  go_wp2
  refine bodyPost_ret (v := .agg #[.bool (nb && decide (0 < k)), .slice ro' k cr']) (by simp [results, Tryz.results107, go_sem, z0, z1]) rfl ⟨_, ro', k, cr', rfl, ?_, ?_⟩
  · refine bn_of (hs3.only_box y3 (only_set2 _ _ _ _)) rfl ?_
    have e := sgd_sub_ge hwz hwy hm'.out (by rw [EA.out, EB.out]; exact hle'.out)
    rw [EA.out, EB.out] at e
    rw [hx'.out, hy'.out]; exact e
  · obtain ⟨b1, l1⟩ := bnext hb2'.out (by omega) (Below.refl _ W2).drew
    obtain ⟨b2, l2⟩ := bnext b1 l1 hw2
    obtain ⟨b3, l3⟩ := bnext b2 l2 hw3
    rw [HBe.out]
    exact b3.trans ((only_set2 _ _ _ _).below (by omega))
set_option maxRecDepth 100000 in
set_option maxHeartbeats 2000000 in
theorem add_LT (nb mb : Bool) (ao : Option Addr) (n ca : Nat) (bo : Option Addr) (m cb : Nat) (x y : Int) (w : World) (ha : Bg w nb ao n ca x) (hb : Bg w mb bo m cb y) (hm : mb = !nb) (hge : ∀ zs ys, Sl w ao n ca zs → Sl w bo m cb ys → (num zs).toNat < (num ys).toNat) :
    Calls Tryz.prog 107 #[.agg #[.bool nb, .slice ao n ca], .agg #[.bool mb, .slice bo m cb]] w fun e w' => ∃ nr ro k cr, e = .returned (.agg #[.bool nr, .slice ro k cr]) ∧ Bn w' nr ro k cr (x + y) ∧ Below w.heap.size w w' := by
  obtain ⟨⟨zs, hs, hx⟩, hsm⟩ := ha
  obtain ⟨⟨ys, hu, hy⟩, hum⟩ := hb
  have hwz := hs.wf
  have hwy := hu.wf
  have hle := hge _ _ hs hu
  have hle' := Lib.hid hle
  clear hge hle
  have hmn : (nb == mb) = false := by subst hm; cases nb <;> rfl
  have hm' := Lib.hid hm; clear hm
  have hx' := Lib.hid hx; clear hx
  have hy' := Lib.hid hy; clear hy
  go_enter Tryz.func107, Tryz.ntmps107
  go_wp2_with fail
  obtain ⟨W, hW, hB, hbx, hby, hrx, hz⟩ := boxes2 w nb ao n ca mb bo m cb
  rw [← hW]
  clear hW
  have hs0 := hs.below hB
  have hu0 := hu.below hB
  generalize hBe : w.heap.size = B at *
  have HBe := Lib.hid hBe; clear hBe
  have hBelow := Lib.hid hB
  clear hs hu hB
  obtain ⟨k1, hk1, hs1, ht1⟩ := trim_at _ _ _ _ _ hs0
  obtain ⟨k2, hk2, hu1, ht2⟩ := trim_at _ _ _ _ _ hu0
  generalize ea : (num zs).toNat = a at hs1 hle'
  generalize eb : (num ys).toNat = b at hu1 hle'
  have EA := Lib.hid ea; clear ea
  have EB := Lib.hid eb; clear eb
  have HT1 := Lib.hid ht1; clear ht1
  have HT2 := Lib.hid ht2; clear ht2
  have k0 := hbx.c0
  have k1' := hbx.c1
  have l0 := hby.c0
  have l1' := hby.c1
  go_quiet ((go_at_call 158; first | (with_reducible exact quiet_left (HT1.out _ (by exact hs0.drewN _))) | (with_reducible exact quiet_left (HT2.out _ (by exact hu0.drewN _)))))
  go_wp2_with fail
  refine (compare_any _ _ _ _ _ _ _ _ _ (by exact hs1.drewN nq) (by exact hu1.drewN nq)).mono ?_
  rintro e w' ⟨rfl, q2, rfl⟩
  rw [World.drewN_drewN]
  obtain ⟨W2, hW2, hq⟩ := drewN_world W (nq + q2)
  rw [hW2]
  clear hW2
  have hsg : decide (0 ≤ sgn3 (a : Int) (b : Int)) = false := by have := hle'.out; simp [sgn3]; omega
  have hs2 := hs1.below hq
  have hu2 := hu1.below hq
  have hbx2 := hby.below hq
  have hrx2 := hrx.below hq
  obtain ⟨hb2, hz2⟩ := bnext hBelow.out (by omega) hq
  have hb2' := Lib.hid hb2; clear hb2
  have hz2' : B + 3 ≤ W2.heap.size := by have := hq.size; omega
  clear hs1 hu1 hs0 hu0 hbx hby hrx hq k0 k1' l0 l1' HT1 HT2
  have k0 := hbx2.c0
  go_wp2
  go_region_held3 (fun w' => w'.cell? ⟨B + 1, 0, none⟩ = some (.bool mb))
    (first | exact k0 | exact x2.c0 | exact x3.c0 | go_simp)
    (first
      | (go_at_call 161; refine (minus_any _ _ _ _ _ _ _ _ _ (by exact hu2.drew) (by exact hs2.drew) (by exact Nat.le_of_lt hle'.out)).mono ?_; rintro e w2 ⟨ro, k, cr, rfl, hp, hw2⟩; have x2 := hbx2.drew.below hw2; have y2 := hrx2.drew.below hw2)
      | (go_at_call 152; refine (signed_any _ _ _ _ _ _ (by exact hp)).mono ?_; rintro e w3 ⟨ro', cr', rfl, hs3, hw3⟩; have x3 := x2.below hw3; have y3 := y2.below hw3; have q0 := y3.c0; have q1 := y3.c1; have q2 := y3.f 0; have q3 := y3.f 1; have e0 := x3.c0))
  have z3 := y3.stored (mb && decide (0 < k)) ro' k cr'
  have z0 := z3.c0
  have z1 := z3.c1
  go_wp2
  refine bodyPost_ret (v := .agg #[.bool (mb && decide (0 < k)), .slice ro' k cr']) (by simp [results, Tryz.results107, go_sem, z0, z1]) rfl ⟨_, ro', k, cr', rfl, ?_, ?_⟩
  · refine bn_of (hs3.only_box y3 (only_set2 _ _ _ _)) rfl ?_
    have e := sgd_sub_lt hwz hwy hm'.out (by rw [EA.out, EB.out]; exact Nat.le_of_lt hle'.out)
    rw [EA.out, EB.out] at e
    rw [hx'.out, hy'.out]; exact e
  · obtain ⟨b1, l1⟩ := bnext hb2'.out (by omega) (Below.refl _ W2).drew
    obtain ⟨b2, l2⟩ := bnext b1 l1 hw2
    obtain ⟨b3, l3⟩ := bnext b2 l2 hw3
    rw [HBe.out]
    exact b3.trans ((only_set2 _ _ _ _).below (by omega))
theorem num_fun {w : World} {ao : Option Addr} {n cap : Nat} {zs ys : List Int} (h : Sl w ao n cap zs) (k : Sl w ao n cap ys) : zs = ys := by
  have hl := h.len
  have kl := k.len
  apply List.ext_getElem (by rw [hl, kl])
  intro i h1 h2
  obtain ⟨b, off, e, hc⟩ := h.cells (by omega)
  obtain ⟨b', off', e', hc'⟩ := k.cells (by omega)
  rw [e] at e'
  cases e'
  have a1 := hc i h1
  rw [hc' i h2] at a1
  rw [getD_at h1, getD_at h2] at a1
  simp at a1
  exact a1.symm

/-- the sum, whatever the signs -/
theorem add_any (nb mb : Bool) (ao : Option Addr) (n ca : Nat) (bo : Option Addr) (m cb : Nat) (x y : Int) (w : World) (ha : Bg w nb ao n ca x) (hb : Bg w mb bo m cb y) :
    Calls Tryz.prog 107 #[.agg #[.bool nb, .slice ao n ca], .agg #[.bool mb, .slice bo m cb]] w fun e w' => ∃ nr ro k cr, e = .returned (.agg #[.bool nr, .slice ro k cr]) ∧ Bn w' nr ro k cr (x + y) ∧ Below w.heap.size w w' := by
  by_cases h : nb = mb
  · subst h; exact add_same nb ao n ca bo m cb x y w ha hb
  · have hm : mb = !nb := by cases nb <;> cases mb <;> simp_all
    obtain ⟨zs, hs, _⟩ := ha.ex
    obtain ⟨ys, hu, _⟩ := hb.ex
    by_cases hle : (num ys).toNat ≤ (num zs).toNat
    · exact add_GE nb mb ao n ca bo m cb x y w ha hb hm (fun zs' ys' h1 h2 => by rw [num_fun h1 hs, num_fun h2 hu]; exact hle)
    · exact add_LT nb mb ao n ca bo m cb x y w ha hb hm (fun zs' ys' h1 h2 => by rw [num_fun h1 hs, num_fun h2 hu]; omega)
end Go.Proofs.YtekocoklfnojmaaGreatDoor

namespace Go.Proofs.YtekocoklfnojmaaGreatDoor
open Go.RowKit

theorem Bg.not {w : World} {nb : Bool} {ao : Option Addr} {n cap : Nat} {x : Int} (h : Bg w nb ao n cap x) : Bg w (!nb) ao n cap (-x) := by
  obtain ⟨⟨zs, h1, h2⟩, h3⟩ := h
  refine ⟨⟨zs, h1, ?_⟩, h3⟩
  rw [h2]
  unfold sgd
  cases nb <;> simp
theorem Bg.only_box {w w' : World} {g : Nat} {nb mb : Bool} {ao ro : Option Addr} {n cap k cr : Nat} {x : Int} (h : Bg w mb ro k cr x) (hx : Box w g nb ao n cap) (ho : Only g w w') : Bg w' mb ro k cr x := by
  obtain ⟨⟨zs, h1, h2⟩, h3⟩ := h
  exact ⟨⟨zs, h1.only_box hx ho, h2⟩, h3⟩
theorem Bn.only_box {w w' : World} {g : Nat} {nb mb : Bool} {ao ro : Option Addr} {n cap k cr : Nat} {x : Int} (h : Bn w mb ro k cr x) (hx : Box w g nb ao n cap) (ho : Only g w w') : Bn w' mb ro k cr x :=
  ⟨h.neg, h.sl.only_box hx ho⟩

end Go.Proofs.YtekocoklfnojmaaGreatDoor

namespace Go.Proofs.YtekocoklfnojmaaGreatDoor
open Go.RowKit

set_option maxRecDepth 100000 in
set_option maxHeartbeats 2000000 in
theorem norm_any (nb : Bool) (ao : Option Addr) (n cap : Nat) (x : Int) (w : World) (h : Bg w nb ao n cap x) :
    Calls Tryz.prog 187 #[.agg #[.bool nb, .slice ao n cap]] w fun e w' => ∃ nr ro k cr, e = .returned (.agg #[.bool nr, .slice ro k cr]) ∧ Bn w' nr ro k cr x ∧ Below w.heap.size w w' := by
  obtain ⟨⟨zs, hs, hx⟩, hsm⟩ := h
  have hx' := Lib.hid hx; clear hx
  go_enter Tryz.func187, Tryz.ntmps187
  go_wp2_with fail
  obtain ⟨W, hW, hB, hbx, hrx, hz⟩ := boxes1 w nb ao n cap
  rw [← hW]
  clear hW
  have hs0 := hs.below hB
  generalize hBe : w.heap.size = B at *
  have HBe := Lib.hid hBe; clear hBe
  have hBelow := Lib.hid hB
  clear hs hB
  have k0 := hbx.c0
  have k1 := hbx.c1
  go_region_held3 (fun w' => w'.cell? ⟨B, 0, none⟩ = some (.bool nb) ∧ w'.cell? ⟨B, 1, none⟩ = some (.slice ao n cap))
    (first | exact ⟨k0, k1⟩ | exact ⟨x2.c0, x2.c1⟩ | exact ⟨x3.c0, x3.c1⟩ | (refine ⟨?_, ?_⟩ <;> go_simp))
    (first
      | (go_at_call 158; refine (trim_sl ao n cap zs _ (by exact hs0.below ((Below.refl _ _).drew))).mono ?_; rintro e w1 ⟨k, rfl, hs1, rfl⟩)
      | (go_at_call 206; refine (clone_any _ _ _ _ _ hs1).mono ?_; rintro e w2 ⟨rfl, hb2, hw2⟩; have x2 := (hbx.below ((Below.refl _ _).drew)).below hw2; have y2 := (hrx.below ((Below.refl _ _).drew)).below hw2)
      | (go_at_call 152; refine (signed_any _ _ _ _ _ _ (hb2.sl (Wf.limbs _) hs1.len hs1.big (Nat.le_refl _))).mono ?_; rintro e w3 ⟨ro, cr, rfl, hs3, hw3⟩; have x3 := x2.below hw3; have y3 := y2.below hw3; have q0 := y3.c0; have q1 := y3.c1; have q2 := y3.f 0; have q3 := y3.f 1; have e0 := x3.c0; have e1 := x3.c1))
  have z3 := y3.stored (nb && decide (0 < k)) ro k cr
  have z0 := z3.c0
  have z1 := z3.c1
  go_wp2
  refine bodyPost_ret (v := .agg #[.bool (nb && decide (0 < k)), .slice ro k cr]) (by simp [results, Tryz.results187, go_sem, z0, z1]) rfl ⟨_, ro, k, cr, rfl, ?_, ?_⟩
  · refine bn_of (hs3.only_box y3 (only_set2 _ _ _ _)) rfl ?_
    rw [hx'.out, Int.toNat_of_nonneg (num_nonneg hs0.wf)]; rfl
  · obtain ⟨b1, l1⟩ := bnext hBelow.out (by omega) (Below.refl _ W).drew
    obtain ⟨b2, l2⟩ := bnext b1 l1 hw2
    obtain ⟨b3, l3⟩ := bnext b2 l2 hw3
    rw [HBe.out]
    exact b3.trans ((only_set2 _ _ _ _).below (by omega))
end Go.Proofs.YtekocoklfnojmaaGreatDoor

namespace Go.Proofs.YtekocoklfnojmaaGreatDoor
open Go.RowKit

theorem num_two (v : Int) : num [v % 4294967296, v / 4294967296] = v := by simp only [num]; omega

set_option maxRecDepth 100000 in
set_option maxHeartbeats 1000000 in
theorem fromWord_any (v : Int) (w : World) (h0 : 0 ≤ v) (h1 : v ≤ 18446744073709551615) :
    Calls Tryz.prog 153 #[.int .u64 v] w fun e w' => ∃ ro k cr, e = .returned (.slice ro k cr) ∧ Sl w' ro k cr (limbs v.toNat) ∧ Below w.heap.size w w' := by
  go_enter Tryz.func153, Tryz.ntmps153
  go_wp2_with fail
  have hb : Blk (w.alloc (.cells #[.int .u32 (v % 4294967296), .int .u32 (v / 4294967296)] 101)) w.heap.size [v % 4294967296, v / 4294967296] := heap_alloc_new w _
  refine (trim_sl _ _ _ _ _ (hb.sl (n := 2) (Wf.cons (by omega) (Wf.cons (by omega) Wf.nil)) rfl (by omega) (Nat.le_refl _))).mono ?_
  rintro e w4 ⟨k, rfl, hs, rfl⟩
  rw [num_two] at hs
  go_wp2
  go_ret
  exact ⟨_, k, _, rfl, hs, (Below.refl _ w).alloc (Nat.le_refl _) _⟩

set_option maxRecDepth 100000 in
set_option maxHeartbeats 1000000 in
theorem fromInt_any (x : Int) (w : World) (h0 : -9223372036854775808 ≤ x) (h1 : x ≤ 9223372036854775807) :
    Calls Tryz.prog 102 #[.int .i64 x] w fun e w' => ∃ nr ro k cr, e = .returned (.agg #[.bool nr, .slice ro k cr]) ∧ Bn w' nr ro k cr x ∧ Below w.heap.size w w' := by
  by_cases hx : x < 0
  · go_enter Tryz.func102, Tryz.ntmps102
    go_wp2_with fail
    rw [show IntKind.u64.wrap (-IntKind.u64.wrap x) = -x from by rw [IntKind.wrap_u64, IntKind.wrap_u64]; omega]
    have hrx := Box.new w false none 0 0
    have hB := (Below.refl w.heap.size w).alloc (Nat.le_refl _) (.cells #[.bool false, .slice none 0 0] 34)
    have hz : w.heap.size + 1 ≤ (w.alloc (.cells #[.bool false, .slice none 0 0] 34)).heap.size := by simp
    generalize w.alloc (.cells #[.bool false, .slice none 0 0] 34) = W at *
    refine (fromWord_any (-x) W (by omega) (by omega)).mono ?_
    rintro e w2 ⟨ro, k, cr, rfl, hs, hw2⟩
    have y2 := hrx.below hw2
    go_wp2_with fail
    refine (signed_any _ _ _ _ _ _ hs).mono ?_
    rintro e w3 ⟨ro', cr', rfl, hs3, hw3⟩
    have y3 := y2.below hw3
    obtain ⟨b2, l2⟩ := bnext hB (by omega) hw2
    obtain ⟨b3, l3⟩ := bnext b2 l2 hw3
    generalize hBe : w.heap.size = B at *
    have HBe := Lib.hid hBe; clear hBe
    have z2 := hw2.size
    have z3' := hw3.size
    clear hrx hB hw2 hw3 y2 hs b2 l2
    have q0 := y3.c0
    have q1 := y3.c1
    have q2 := y3.f 0
    have q3 := y3.f 1
    have z3 := y3.stored (true && decide (0 < k)) ro' k cr'
    have z0 := z3.c0
    have z1 := z3.c1
    simp only [Bool.true_and] at z0 z1
    go_wp2
    refine bodyPost_ret (v := .agg #[.bool (true && decide (0 < k)), .slice ro' k cr']) (by simp [results, Tryz.results102, go_sem, z0, z1]) rfl ⟨_, ro', k, cr', rfl, ?_, ?_⟩
    · refine bn_of (nb := true) (Sl.only_box hs3 y3 (only_set2 _ _ _ _)) rfl ?_
      simp; omega
    · rw [HBe.out]
      exact b3.trans ((only_set2 _ _ _ _).below (by omega))
  · go_enter Tryz.func102, Tryz.ntmps102
    go_wp2_with fail
    have hrx := Box.new w false none 0 0
    have hB := (Below.refl w.heap.size w).alloc (Nat.le_refl _) (.cells #[.bool false, .slice none 0 0] 34)
    have hz : w.heap.size + 1 ≤ (w.alloc (.cells #[.bool false, .slice none 0 0] 34)).heap.size := by simp
    generalize w.alloc (.cells #[.bool false, .slice none 0 0] 34) = W at *
    refine (fromWord_any x W (by omega) (by omega)).mono ?_
    rintro e w2 ⟨ro, k, cr, rfl, hs, hw2⟩
    have y2 := hrx.below hw2
    go_wp2_with fail
    refine (signed_any _ _ _ _ _ _ hs).mono ?_
    rintro e w3 ⟨ro', cr', rfl, hs3, hw3⟩
    have y3 := y2.below hw3
    obtain ⟨b2, l2⟩ := bnext hB (by omega) hw2
    obtain ⟨b3, l3⟩ := bnext b2 l2 hw3
    generalize hBe : w.heap.size = B at *
    have HBe := Lib.hid hBe; clear hBe
    have z2 := hw2.size
    have z3' := hw3.size
    clear hrx hB hw2 hw3 y2 hs b2 l2
    have q0 := y3.c0
    have q1 := y3.c1
    have q2 := y3.f 0
    have q3 := y3.f 1
    have z3 := y3.stored (false && decide (0 < k)) ro' k cr'
    have z0 := z3.c0
    have z1 := z3.c1
    simp only [Bool.false_and] at z0 z1
    go_wp2
    refine bodyPost_ret (v := .agg #[.bool (false && decide (0 < k)), .slice ro' k cr']) (by simp [results, Tryz.results102, go_sem, z0, z1]) rfl ⟨_, ro', k, cr', rfl, ?_, ?_⟩
    · refine bn_of (nb := false) (Sl.only_box hs3 y3 (only_set2 _ _ _ _)) rfl ?_
      simp; omega
    · rw [HBe.out]
      exact b3.trans ((only_set2 _ _ _ _).below (by omega))
end Go.Proofs.YtekocoklfnojmaaGreatDoor

namespace Go.Proofs.YtekocoklfnojmaaGreatDoor
open Go.RowKit

/-- later, with all that was there as it was -/
def Ext (w w' : World) : Prop := Below w.heap.size w w'
theorem Ext.refl (w : World) : Ext w w := Below.refl _ _
theorem Ext.trans {a b c : World} (h : Ext a b) (k : Ext b c) : Ext a c := Below.trans h (Below.mono k h.size)

/-- a value, the number that it stands for, how many limbs it has at most, is it normalized -/
structure Ent where
  v : Value
  x : Int
  N : Nat
  c : Bool

def Ent.Ok (w : World) (p : Ent) : Prop :=
  ∃ nb ao n ca, p.v = .agg #[.bool nb, .slice ao n ca] ∧ Bg w nb ao n ca p.x ∧ n ≤ p.N ∧ p.x.natAbs < 4294967296 ^ p.N ∧ (p.c = true → Bn w nb ao n ca p.x)

theorem Ent.Ok.ext {w w' : World} {p : Ent} (h : p.Ok w) (he : Ext w w') : p.Ok w' := by
  obtain ⟨nb, ao, n, ca, h1, h2, h3, h4, h5⟩ := h
  exact ⟨nb, ao, n, ca, h1, h2.below he, h3, h4, fun e => (h5 e).below he⟩

/-- what is at hand -/
structure St (W w : World) (L : List Ent) : Prop where
  ext : Ext W w
  bag : ∀ p ∈ L, p.Ok w

theorem St.step {W w w' : World} {L : List Ent} (h : St W w L) (he : Ext w w') : St W w' L := ⟨h.ext.trans he, fun p hp => (h.bag p hp).ext he⟩
theorem St.drew {W w : World} {L : List Ent} (h : St W w L) : St W w.drew L := h.step (Below.refl _ _).drew
theorem St.drewN {W w : World} {L : List Ent} (h : St W w L) (q : Nat) : St W (w.drewN q) L := h.step (below_drewN (Below.refl _ _) q)

theorem len_of_lt {x : Int} {N : Nat} (h : x.natAbs < 4294967296 ^ N) : (limbs x.natAbs).length ≤ N := (limbs_len_le _ _).2 h

theorem pow_le {a b : Nat} (h : a ≤ b) : 4294967296 ^ a ≤ 4294967296 ^ b := Nat.pow_le_pow_right (by omega) h

theorem abs_add {x y : Int} {N M : Nat} (hx : x.natAbs < 4294967296 ^ N) (hy : y.natAbs < 4294967296 ^ M) : (x + y).natAbs < 4294967296 ^ (max N M + 1) := by
  have h1 := Nat.lt_of_lt_of_le hx (pow_le (Nat.le_max_left N M))
  have h2 := Nat.lt_of_lt_of_le hy (pow_le (Nat.le_max_right N M))
  have h3 := Int.natAbs_add_le x y
  rw [Nat.pow_succ]
  omega
theorem abs_sub {x y : Int} {N M : Nat} (hx : x.natAbs < 4294967296 ^ N) (hy : y.natAbs < 4294967296 ^ M) : (x - y).natAbs < 4294967296 ^ (max N M + 1) := by
  have := abs_add hx (y := -y) (M := M) (by rw [Int.natAbs_neg]; exact hy)
  rwa [← Int.sub_eq_add_neg] at this
section
variable {W w : World} {L : List Ent} {u v : Value} {x y : Int} {N M : Nat} {c d : Bool}

end

/-- a small raw argument -/
theorem ok_raw {w : World} {nb : Bool} {ao : Option Addr} {n ca : Nat} {zs : List Int} (h : Sl w ao n ca zs) (N : Nat) (hn : n ≤ N) (hN : N ≤ 100000) : Ent.Ok w ⟨.agg #[.bool nb, .slice ao n ca], sgd nb zs, N, false⟩ := by
  refine ⟨nb, ao, n, ca, rfl, ⟨⟨zs, h, rfl⟩, by omega⟩, hn, ?_, fun e => by cases e⟩
  simp only
  rw [sgd_natAbs h.wf]
  have h1 := num_lt h.wf
  have h2 := num_nonneg h.wf
  rw [h.len] at h1
  have h3 : ((num zs).toNat : Int) < ((4294967296 ^ n : Nat) : Int) := by rw [Int.toNat_of_nonneg h2, Int.natCast_pow]; exact h1
  exact Nat.lt_of_lt_of_le (Int.ofNat_lt.1 h3) (pow_le hn)

end Go.Proofs.YtekocoklfnojmaaGreatDoor
