import Derived.Test.YtecaaklbhhjcjaaGreatDoorDividesU36
import Derived.Test.YtecaaklbhhjcjaaGreatDoorDividesU37
import Derived.Test.YtecaaklbhhjcjaaGreatDoorDividesU38
import Derived.Test.YtecaaklbhhjcjaaGreatDoorDividesU39
import Derived.Test.YtecaaklbhhjcjaaGreatDoorDividesU40
import Derived.Test.YtecaaklbhhjcjaaGreatDoorDividesU23
import Derived.Deep.QuietTactic
namespace Go.Proofs.YtecaaklbhhjcjaaGreatDoor
open Go Go.RowKit

theorem dm_n {a b : Nat} (h0 : b ≠ 0) (h : a % b = 0) : -(a : Int) / (b : Int) = -((a / b : Nat) : Int) ∧ -(a : Int) % (b : Int) = 0 := by
  refine (Int.ediv_emod_unique (by omega)).2 ⟨?_, by omega, by omega⟩
  have := Nat.div_add_mod a b
  have e : (a : Int) = b * (a / b : Nat) := by rw [← Int.natCast_mul]; omega
  rw [Int.mul_neg]
  omega
theorem dm_nA {a b : Nat} (h0 : b ≠ 0) (h : a % b ≠ 0) : -(a : Int) / (b : Int) = -((a / b : Nat) : Int) - 1 ∧ -(a : Int) % (b : Int) = -((a % b : Nat) : Int) + (b : Int) := by
  have hl := Nat.mod_lt a (Nat.pos_of_ne_zero h0)
  refine (Int.ediv_emod_unique (by omega)).2 ⟨?_, by omega, by omega⟩
  have := Nat.div_add_mod a b
  have e : (a : Int) = b * (a / b : Nat) + (a % b : Nat) := by rw [← Int.natCast_mul, ← Int.natCast_add, this]
  rw [Int.mul_sub, Int.mul_neg, Int.mul_one]
  omega
/-- quotient and remainder of any integers -/
theorem refDivMod_any (nb mb : Bool) (ao : Option Addr) (n ca : Nat) (bo : Option Addr) (m cb : Nat) (x y : Int) (w : World) (ha : Bg w nb ao n ca x) (hb : Bg w mb bo m cb y) (hy0 : y ≠ 0) (hn : n ≤ 100000000) :
    Calls Tryz.prog 14 #[.agg #[.bool nb, .slice ao n ca], .agg #[.bool mb, .slice bo m cb]] w fun e w' => ∃ qn qo qk qc rn ro rk rc, e = .returned (.tuple #[.agg #[.bool qn, .slice qo qk qc], .agg #[.bool rn, .slice ro rk rc]]) ∧
      Bn w' qn qo qk qc (x / y) ∧ Bn w' rn ro rk rc (x % y) ∧ Ext w w' := by
  by_cases hx : x < 0
  · obtain ⟨a, rfl⟩ : ∃ a : Nat, x = -(a : Int) := ⟨x.natAbs, by omega⟩
    have h1 : a ≠ 0 := by omega
    by_cases hy : y < 0
    · obtain ⟨b, rfl⟩ : ∃ b : Nat, y = -(b : Int) := ⟨y.natAbs, by omega⟩
      have h0 : b ≠ 0 := by omega
      rw [Int.ediv_neg, Int.emod_neg]
      by_cases h : a % b = 0
      · obtain ⟨e1, e2⟩ := dm_n h0 h
        rw [e1, e2, Int.neg_neg]
        exact refDivMod_nn a b nb mb ao bo n m ca cb w ha hb hn h0 h1 h
      · obtain ⟨e1, e2⟩ := dm_nA h0 h
        rw [e1, e2, show -(-((a / b : Nat) : Int) - 1) = ((a / b : Nat) : Int) + 1 by omega]
        exact refDivMod_nnA a b nb mb ao bo n m ca cb w ha hb hn h0 h1 h
    · obtain ⟨b, rfl⟩ := Int.eq_ofNat_of_zero_le (Int.not_lt.1 hy)
      have h0 : b ≠ 0 := by omega
      by_cases h : a % b = 0
      · obtain ⟨e1, e2⟩ := dm_n h0 h
        rw [e1, e2]
        exact refDivMod_np a b nb mb ao bo n m ca cb w ha hb hn h0 h1 h
      · obtain ⟨e1, e2⟩ := dm_nA h0 h
        rw [e1, e2]
        exact refDivMod_npA a b nb mb ao bo n m ca cb w ha hb hn h0 h1 h
  · obtain ⟨a, rfl⟩ := Int.eq_ofNat_of_zero_le (Int.not_lt.1 hx)
    by_cases hy : y < 0
    · obtain ⟨b, rfl⟩ : ∃ b : Nat, y = -(b : Int) := ⟨y.natAbs, by omega⟩
      have h0 : b ≠ 0 := by omega
      rw [Int.ediv_neg, Int.emod_neg, ← Int.natCast_ediv, ← Int.natCast_emod]
      exact refDivMod_pn a b nb mb ao bo n m ca cb w ha hb hn h0
    · obtain ⟨b, rfl⟩ := Int.eq_ofNat_of_zero_le (Int.not_lt.1 hy)
      have h0 : b ≠ 0 := by omega
      rw [← Int.natCast_ediv, ← Int.natCast_emod]
      exact refDivMod_pos a b nb mb ao bo n m ca cb w ha hb hn h0
end Go.Proofs.YtecaaklbhhjcjaaGreatDoor

namespace Go.Proofs.YtecaaklbhhjcjaaGreatDoor
open Go.RowKit

theorem zero_bn (w : World) : Bn w false none 0 0 0 := ⟨rfl, by show Sl _ none 0 0 (limbs 0); rw [limbs_zero]; exact Sl.nil _⟩

set_option maxRecDepth 100000 in
set_option maxHeartbeats 2000000 in
theorem quo_inexact (nb mb : Bool) (ao : Option Addr) (n ca : Nat) (bo : Option Addr) (m cb : Nat) (x y : Int) (w : World) (ha : Bg w nb ao n ca x) (hb : Bg w mb bo m cb y) (hy0 : y ≠ 0) (hnl : n ≤ 100000000) (hd : DivSays x.natAbs y.natAbs)
    (hnr : x.natAbs % y.natAbs ≠ 0) :
    Calls Tryz.prog 9 #[.agg #[.bool nb, .slice ao n ca], .agg #[.bool mb, .slice bo m cb]] w fun e w' => ∃ qn qo qk qc, e = .returned (.tuple #[.agg #[.bool qn, .slice qo qk qc], .int .i64 10]) ∧
      Bn w' qn qo qk qc 0 ∧ Below w.heap.size w w' := by
  obtain ⟨⟨zs, hs, hx⟩, hsm⟩ := ha
  obtain ⟨⟨ys, hu, hy⟩, hum⟩ := hb
  have eax : (num zs).toNat = x.natAbs := by rw [hx, sgd_natAbs hs.wf]
  have eay : (num ys).toNat = y.natAbs := by rw [hy, sgd_natAbs hu.wf]
  clear hx hy
  have HY0 := Lib.hid hy0; clear hy0
  have HNR := Lib.hid hnr; clear hnr
  have HD := Lib.hid hd; clear hd
  go_enter Tryz.func9, Tryz.ntmps9
  go_wp2_with fail
  obtain ⟨W, hW, hB, hbx, hby, hrx, hz⟩ := boxes2 w nb ao n ca mb bo m cb
  rw [← hW]
  clear hW
  have hs0 := hs.below hB
  have hu0 := hu.below hB
  generalize hBe : w.heap.size = B at *
  have HBe := Lib.hid hBe; clear hBe
  have hBelow := Lib.hid hB
  clear hs hu hB
  obtain ⟨k1, hk1, hs1, ht1⟩ := trim_zs hs0 _ eax
  obtain ⟨k2, hk2, hu1, ht2⟩ := trim_zs hu0 _ eay
  have hk20 : ((k2 : Int) == 0) = false := by
    apply beq_eq_false_iff_ne.2
    intro h
    have h0 : (limbs y.natAbs).length = 0 := by rw [hu1.len]; omega
    have := limbs_inj ((List.eq_nil_of_length_eq_zero h0).trans limbs_zero.symm)
    exact HY0.out (by omega)
  have HT1 := Lib.hid ht1; clear ht1
  have HT2 := Lib.hid ht2; clear ht2
  clear eax eay
  have k0 := hbx.c0
  have k1' := hbx.c1
  have l0 := hby.c0
  have l1' := hby.c1
  go_wp2_with fail
  refine (HT2.out W hu0).mono ?_
  rintro e w1 ⟨rfl, rfl⟩
  go_wp2_with fail
  refine (HT1.out W hs0).mono ?_
  rintro e w1 ⟨rfl, rfl⟩
  go_wp2_with fail
  refine (HD.out _ _ _ _ _ _ W hs1 hu1 (by omega) (by omega)).mono ?_
  rintro e w2 ⟨qo, qk, qc, ro, rk, rc, rfl, hqs, hrs, hw2⟩
  have x2 := hbx.below hw2
  have y2 := hby.below hw2
  have p2 := hrx.below hw2
  obtain ⟨b2, z2⟩ := bnext hBelow.out (by omega) hw2
  have hsz : B + 3 ≤ w2.heap.size := by have := hw2.size; omega
  have hrk : (rk : Int) > 0 := by
    rcases Nat.eq_zero_or_pos rk with h | h
    · exfalso
      subst h
      have := limbs_inj ((List.eq_nil_of_length_eq_zero hrs.len).trans limbs_zero.symm)
      exact HNR.out this
    · omega
  clear hs0 hu0 hs1 hu1 hbx hby hrx hw2 k0 k1' l0 l1' HT1 HT2 HD hrs hqs x2 y2
  have q0 := p2.c0
  have q1 := p2.c1
  have q2 := p2.f 0
  have q3 := p2.f 1
  have hst := p2.stored false none 0 0
  have u0 := hst.c0
  have u1 := hst.c1
  have hbl := Lib.hid (b2.trans ((only_set2 w2 (B + 1 + 1) (.bool false) (.slice none 0 0)).below (by omega)))
  clear hst
  go_wp2
  refine bodyPost_ret (v := .tuple #[.agg #[.bool false, .slice none 0 0], .int .i64 10]) (by simp [results, Tryz.results9, go_sem, u0, u1]) rfl ⟨false, none, 0, 0, rfl, zero_bn _, ?_⟩
  rw [HBe.out]; exact hbl.out

set_option maxRecDepth 100000 in
set_option maxHeartbeats 2000000 in
theorem quo_zero (nb mb : Bool) (ao : Option Addr) (n ca : Nat) (bo : Option Addr) (m cb : Nat) (x y : Int) (w : World) (ha : Bg w nb ao n ca x) (hb : Bg w mb bo m cb y) (hy0 : y = 0) :
    Calls Tryz.prog 9 #[.agg #[.bool nb, .slice ao n ca], .agg #[.bool mb, .slice bo m cb]] w fun e w' => ∃ qn qo qk qc, e = .returned (.tuple #[.agg #[.bool qn, .slice qo qk qc], .int .i64 8]) ∧
      Bn w' qn qo qk qc 0 ∧ Below w.heap.size w w' := by
  obtain ⟨⟨zs, hs, hx⟩, hsm⟩ := ha
  obtain ⟨⟨ys, hu, hy⟩, hum⟩ := hb
  have eax : (num zs).toNat = x.natAbs := by rw [hx, sgd_natAbs hs.wf]
  have eay : (num ys).toNat = y.natAbs := by rw [hy, sgd_natAbs hu.wf]
  clear hx hy
  rw [hy0] at eay
  clear hy0
  go_enter Tryz.func9, Tryz.ntmps9
  go_wp2_with fail
  obtain ⟨W, hW, hB, hbx, hby, hrx, hz⟩ := boxes2 w nb ao n ca mb bo m cb
  rw [← hW]
  clear hW
  have hs0 := hs.below hB
  have hu0 := hu.below hB
  generalize hBe : w.heap.size = B at *
  have HBe := Lib.hid hBe; clear hBe
  have hBelow := Lib.hid hB
  clear hs hu hB
  obtain ⟨k1, hk1, hs1, ht1⟩ := trim_zs hs0 _ eax
  obtain ⟨k2, hk2, hu1, ht2⟩ := trim_zs hu0 _ eay
  have hk20 : k2 = 0 := by
    have h := hu1.len
    rw [show (0 : Int).natAbs = 0 from rfl, limbs_zero] at h
    exact h.symm
  subst hk20
  have HT1 := Lib.hid ht1; clear ht1
  have HT2 := Lib.hid ht2; clear ht2
  clear eax eay
  have k0 := hbx.c0
  have k1' := hbx.c1
  have l0 := hby.c0
  have l1' := hby.c1
  go_wp2_with fail
  refine (HT2.out W hu0).mono ?_
  rintro e w1 ⟨rfl, rfl⟩
  have q0 := hrx.c0
  have q1 := hrx.c1
  have q2 := hrx.f 0
  have q3 := hrx.f 1
  have hst := hrx.stored false none 0 0
  have u0 := hst.c0
  have u1 := hst.c1
  have hbl := Lib.hid (hBelow.out.trans ((only_set2 W (B + 1 + 1) (.bool false) (.slice none 0 0)).below (by omega)))
  clear hst
  go_wp2
  refine bodyPost_ret (v := .tuple #[.agg #[.bool false, .slice none 0 0], .int .i64 8]) (by simp [results, Tryz.results9, go_sem, u0, u1]) rfl ⟨false, none, 0, 0, rfl, zero_bn _, ?_⟩
  rw [HBe.out]; exact hbl.out

set_option maxRecDepth 100000 in
set_option maxHeartbeats 2000000 in
theorem divMod_zero (nb mb : Bool) (ao : Option Addr) (n ca : Nat) (bo : Option Addr) (m cb : Nat) (x y : Int) (w : World) (ha : Bg w nb ao n ca x) (hb : Bg w mb bo m cb y) (hy0 : y = 0) :
    Calls Tryz.prog 8 #[.agg #[.bool nb, .slice ao n ca], .agg #[.bool mb, .slice bo m cb]] w fun e w' => ∃ qn qo qk qc rn ro rk rc, e = .returned (.tuple #[.agg #[.bool qn, .slice qo qk qc], .agg #[.bool rn, .slice ro rk rc], .int .i64 8]) ∧
      Bn w' qn qo qk qc 0 ∧ Bn w' rn ro rk rc 0 ∧ Below w.heap.size w w' := by
  obtain ⟨⟨zs, hs, hx⟩, hsm⟩ := ha
  obtain ⟨⟨ys, hu, hy⟩, hum⟩ := hb
  have eax : (num zs).toNat = x.natAbs := by rw [hx, sgd_natAbs hs.wf]
  have eay : (num ys).toNat = y.natAbs := by rw [hy, sgd_natAbs hu.wf]
  rw [hy0] at eay
  clear hy0 hx hy
  go_enter Tryz.func8, Tryz.ntmps8
  go_wp2_with fail
  obtain ⟨W, hW, hB, hbx, hby, hrx, hrz, hz⟩ := boxes3 w nb ao n ca mb bo m cb
  rw [← hW]
  clear hW
  have hs0 := hs.below hB
  have hu0 := hu.below hB
  generalize hBe : w.heap.size = B at *
  have HBe := Lib.hid hBe; clear hBe
  have hBelow := Lib.hid hB
  clear hs hu hB
  obtain ⟨k1, hk1, hs1, ht1⟩ := trim_zs hs0 _ eax
  obtain ⟨k2, hk2, hu1, ht2⟩ := trim_zs hu0 _ eay
  have hk20 : k2 = 0 := by
    have h := hu1.len
    rw [show (0 : Int).natAbs = 0 from rfl, limbs_zero] at h
    exact h.symm
  subst hk20
  have EAX := Lib.hid eax; clear eax
  have EAY := Lib.hid eay; clear eay
  have HT1 := Lib.hid ht1; clear ht1
  have HT2 := Lib.hid ht2; clear ht2
  have k0 := hbx.c0
  have k1' := hbx.c1
  have l0 := hby.c0
  have l1' := hby.c1
  go_quiet ((go_at_call 58; first | (with_reducible exact quiet_left (HT1.out _ (by exact hs0.drewN _))) | (with_reducible exact quiet_left (HT2.out _ (by exact hu0.drewN _)))))
  obtain ⟨W2, hW2, hd2⟩ := drewN_world W nq
  rw [hW2]
  clear hW2
  have p2 := hrx.below hd2
  have r2 := hrz.below hd2
  have hB2 := hBelow.out.trans (hd2.mono (by omega))
  clear hrx hrz hbx hby k0 k1' l0 l1' HT1 HT2 hs0 hu0 hs1 hu1 hd2
  have q0 := p2.c0
  have q1 := p2.c1
  have q2 := p2.f 0
  have q3 := p2.f 1
  have t0 := r2.c0
  have t1 := r2.c1
  have t2 := r2.f 0
  have t3 := r2.f 1
  obtain ⟨a1, a2, -, -, a5⟩ := two_stored p2 r2 (by omega) (B := B) (by omega) (by omega) false false none none 0 0 0 0 [] [] (Sl.nil W2) (Sl.nil W2)
  have u0 := a1.c0
  have u1 := a1.c1
  have u2 := a2.c0
  have u3 := a2.c1
  have HF := Lib.hid (hB2.trans a5)
  clear a1 a2 a5 p2 r2 hB2
  go_wp2
  refine bodyPost_ret (v := .tuple #[.agg #[.bool false, .slice none 0 0], .agg #[.bool false, .slice none 0 0], .int .i64 8]) (by simp [results, Tryz.results8, go_sem, u0, u1, u2, u3]) rfl ⟨false, none, 0, 0, false, none, 0, 0, rfl, zero_bn _, zero_bn _, ?_⟩
  rw [HBe.out]; exact HF.out
end Go.Proofs.YtecaaklbhhjcjaaGreatDoor
