import Derived.Test.YtecaaklbhhjcjaaDoorDivisorU18
namespace Go.Proofs.YtecaaklbhhjcjaaDoor
open Go.RowKit

set_option maxRecDepth 100000 in
set_option maxHeartbeats 2000000 in
/-- the quotient, where the divisor divides -/
theorem quo_exact (nb mb : Bool) (ao : Option Addr) (n ca : Nat) (bo : Option Addr) (m cb : Nat) (x y : Int) (w : World) (ha : Bg w nb ao n ca x) (hb : Bg w mb bo m cb y) (hy0 : y ≠ 0) (hnl : n ≤ 100000000) (hd : DivSays x.natAbs y.natAbs)
    (hnr : x.natAbs % y.natAbs = 0) :
    Calls Tryd.prog 12 #[.agg #[.bool nb, .slice ao n ca], .agg #[.bool mb, .slice bo m cb]] w fun e w' => ∃ qn qo qk qc, e = .returned (.tuple #[.agg #[.bool qn, .slice qo qk qc], .int .i64 0]) ∧
      Bn w' qn qo qk qc (x / y) ∧ Below w.heap.size w w' := by
  obtain ⟨⟨zs, hs, hx⟩, hsm⟩ := ha
  obtain ⟨⟨ys, hu, hy⟩, hum⟩ := hb
  have eax : (num zs).toNat = x.natAbs := by rw [hx, sgd_natAbs hs.wf]
  have eay : (num ys).toNat = y.natAbs := by rw [hy, sgd_natAbs hu.wf]
  have hq := divmod_plain (nb := nb) (mb := mb) hs.wf hu.wf hx hy hy0 (fun _ => hnr)
  rw [eax, eay] at hq
  have HQ := Lib.hid hq.1; clear hq
  clear hx hy
  have HY0 := Lib.hid hy0; clear hy0
  have HNR := Lib.hid hnr; clear hnr
  have HD := Lib.hid hd; clear hd
  go_enter Tryd.func12, Tryd.ntmps12
  go_wp2_with fail
  obtain ⟨W, hW, hB, hbx, hby, hrx, hz⟩ := boxes2 w nb ao n ca mb bo m cb
  rw [← hW]
  clear hW
  have hs0 := hs.below hB
  have hu0 := hu.below hB
  generalize hBe : w.heap.size = B at *
  have HBe := Lib.hid hBe; clear hBe
  have hBelow := Lib.hid hB
  clear hs hu hB
  obtain ⟨k1, hk1, hs1, ht1⟩ := trim_zs hs0 _ eax
  obtain ⟨k2, hk2, hu1, ht2⟩ := trim_zs hu0 _ eay
  have hk20 : ((k2 : Int) == 0) = false := by
    apply beq_eq_false_iff_ne.2
    intro h
    have h0 : (limbs y.natAbs).length = 0 := by rw [hu1.len]; omega
    have := limbs_inj ((List.eq_nil_of_length_eq_zero h0).trans limbs_zero.symm)
    exact HY0.out (by omega)
  have HT1 := Lib.hid ht1; clear ht1
  have HT2 := Lib.hid ht2; clear ht2
  clear eax eay
  have k0 := hbx.c0
  have k1' := hbx.c1
  have l0 := hby.c0
  have l1' := hby.c1
  go_wp2_with fail
  refine (HT2.out W hu0).mono ?_
  rintro e w1 ⟨rfl, rfl⟩
  go_wp2_with fail
  refine (HT1.out W hs0).mono ?_
  rintro e w1 ⟨rfl, rfl⟩
  go_wp2_with fail
  refine (HD.out _ _ _ _ _ _ W hs1 hu1 (by omega) (by omega)).mono ?_
  rintro e w2 ⟨qo, qk, qc, ro, rk, rc, rfl, hqs, hrs, hw2⟩
  have x2 := hbx.below hw2
  have y2 := hby.below hw2
  have p2 := hrx.below hw2
  obtain ⟨b2, z2⟩ := bnext hBelow.out (by omega) hw2
  have hsz : B + 3 ≤ w2.heap.size := by have := hw2.size; omega
  have hrk : rk = 0 := by
    have hl := hrs.len
    rw [HNR.out, limbs_zero] at hl
    exact hl.symm
  subst hrk
  clear hs0 hu0 hs1 hu1 hbx hby hrx hw2 k0 k1' l0 l1' HT1 HT2 HD hrs
  have k0 := x2.c0
  have k1 := x2.c1
  have l0 := y2.c0
  have l1 := y2.c1
  go_wp2_with fail
  refine (signed_any _ _ _ _ _ _ hqs).mono ?_
  rintro e w3 ⟨so, sc, rfl, hs3, hw3⟩
  have p3 := p2.below hw3
  obtain ⟨b3, z3⟩ := bnext b2 z2 hw3
  clear k0 k1 l0 l1 x2 y2 hqs hw3 b2 z2 p2 hBelow
  have q0 := p3.c0
  have q1 := p3.c1
  have q2 := p3.f 0
  have q3 := p3.f 1
  have hst := p3.stored (!(nb == mb) && decide (0 < qk)) so qk sc
  have u0 := hst.c0
  have u1 := hst.c1
  have hres := bn_of (x := x / y) (nb := !(nb == mb)) (hs3.only_box p3 (only_set2 w3 (B + 1 + 1) (.bool (!(nb == mb) && decide (0 < qk))) (.slice so qk sc))) rfl (by rw [HQ.out]; cases nb <;> cases mb <;> rfl)
  have HR := Lib.hid hres; clear hres
  have hbl := b3.trans ((only_set2 w3 (B + 1 + 1) (.bool (!(nb == mb) && decide (0 < qk))) (.slice so qk sc)).below (by omega))
  go_wp2
  refine bodyPost_ret (v := .tuple #[.agg #[.bool (!(nb == mb) && decide (0 < qk)), .slice so qk sc], .int .i64 0]) (by simp [results, Tryd.results12, go_sem, u0, u1]) rfl ⟨_, so, qk, sc, rfl, HR.out, ?_⟩
  rw [HBe.out]; exact hbl
end Go.Proofs.YtecaaklbhhjcjaaDoor
