import Derived.Test.YtecaaklbhhjcjaaGreatDoorDividesU22
import Derived.Test.YtecaaklbhhjcjaaGreatDoorDividesU2
import Derived.Deep.RegionHeld3
import Derived.Test.YtecaaklbhhjcjaaGreatDoorDividesU17
import Derived.Shelf.Spec.TrailingZeros
import Derived.Test.YtecaaklbhhjcjaaGreatDoorDividesU11
namespace Go.Proofs.YtecaaklbhhjcjaaGreatDoor
open Go.RowKit

theorem box_new (w : World) (nb : Bool) (ao : Option Addr) (n ca : Nat) :
    ∃ W, W = w.alloc (.cells #[.bool nb, .slice ao n ca] 24) ∧ Below w.heap.size w W ∧ Box W w.heap.size nb ao n ca ∧ w.heap.size + 1 ≤ W.heap.size :=
  ⟨_, rfl, (Below.refl _ w).alloc (Nat.le_refl _) _, Box.new w nb ao n ca, by simp⟩

theorem make1_val {nb nr : Bool} {zs : List Int} {w : World} {ro : Option Addr} {k rc : Nat} (hz : Wf zs) (hs : Sl w ro k rc (limbs (num zs).toNat)) (hr : nr = (nb && decide (0 < k))) : Bn w nr ro k rc (sgd nb zs) := by
  refine bn_of hs hr ?_
  rw [Int.toNat_of_nonneg (num_nonneg hz)]; rfl

set_option maxRecDepth 100000 in
set_option maxHeartbeats 1000000 in
theorem make1_any (nb : Bool) (ao : Option Addr) (n cap : Nat) (zs : List Int) (w : World) (h : Sl w ao n cap zs) :
    Calls Tryz.prog 68 #[.bool nb, .slice ao n cap] w fun e w' => ∃ nr ro k cr, e = .returned (.agg #[.bool nr, .slice ro k cr]) ∧ Bn w' nr ro k cr (sgd nb zs) ∧ k ≤ n ∧ Below w.heap.size w w' := by
  go_enter Tryz.func68, Tryz.ntmps68
  go_wp2_with fail
  obtain ⟨W, hW, hB, hbx, hsz⟩ := box_new w false none 0 0
  rw [← hW]
  clear hW
  have hs0 := h.below hB
  generalize hBe : w.heap.size = B at *
  have HBe := Lib.hid hBe; clear hBe
  refine (refTrim_any ao n cap zs W hs0).mono ?_
  rintro e w1 ⟨ro, k, rc, rfl, hs1, hk, hw1⟩
  have b1 := hbx.below hw1
  obtain ⟨h1, z1⟩ := bnext hB (by omega) hw1
  have q0 := b1.c0
  have q1 := b1.c1
  have q2 := b1.f 0
  have q3 := b1.f 1
  have hst := b1.stored (nb && decide (0 < k)) ro k rc
  have u0 := hst.c0
  have u1 := hst.c1
  have hres := make1_val (nb := nb) h.wf (hs1.only_box b1 (only_set2 w1 B (.bool (nb && decide (0 < k))) (.slice ro k rc))) rfl
  have hbl := h1.trans ((only_set2 w1 B (.bool (nb && decide (0 < k))) (.slice ro k rc)).below (Nat.le_refl _))
  have HRES := Lib.hid hres; clear hres
  cases nb
  · simp only [Bool.false_and] at u0 u1 HRES hbl
    go_wp2
    refine bodyPost_ret (v := .agg #[.bool false, .slice ro k rc]) (by simp [results, Tryz.results68, go_sem, u0, u1]) rfl ⟨_, ro, k, rc, rfl, HRES.out, hk, ?_⟩
    rw [HBe.out]; exact hbl
  · simp only [Bool.true_and] at u0 u1 HRES hbl
    go_wp2
    refine bodyPost_ret (v := .agg #[.bool (decide (0 < k)), .slice ro k rc]) (by simp [results, Tryz.results68, go_sem, u0, u1]) rfl ⟨_, ro, k, rc, rfl, HRES.out, hk, ?_⟩
    rw [HBe.out]; exact hbl

set_option maxRecDepth 100000 in
set_option maxHeartbeats 1000000 in
theorem refNorm_any (nb : Bool) (ao : Option Addr) (n cap : Nat) (x : Int) (w : World) (h : Bg w nb ao n cap x) :
    Calls Tryz.prog 66 #[.agg #[.bool nb, .slice ao n cap]] w fun e w' => ∃ nr ro k cr, e = .returned (.agg #[.bool nr, .slice ro k cr]) ∧ Bn w' nr ro k cr x ∧ k ≤ n ∧ Below w.heap.size w w' := by
  obtain ⟨⟨zs, hs, hx⟩, hsm⟩ := h
  subst hx
  go_enter Tryz.func66, Tryz.ntmps66
  go_wp2_with fail
  obtain ⟨W, hW, hB, hbx, hrx, hz⟩ := boxes1 w nb ao n cap
  rw [← hW]
  clear hW
  have hs0 := hs.below hB
  generalize hBe : w.heap.size = B at *
  have HBe := Lib.hid hBe; clear hBe
  have k0 := hbx.c0
  have k1 := hbx.c1
  go_wp2_with fail
  refine (make1_any nb ao n cap zs W hs0).mono ?_
  rintro e w1 ⟨nr, ro, k, rc, rfl, hs1, hk, hw1⟩
  have b1 := hrx.below hw1
  obtain ⟨h1, z1⟩ := bnext hB (by omega) hw1
  have q0 := b1.c0
  have q1 := b1.c1
  have q2 := b1.f 0
  have q3 := b1.f 1
  have hst := b1.stored nr ro k rc
  have u0 := hst.c0
  have u1 := hst.c1
  have hres : Bn ((w1.setCell ⟨B + 1, 0, none⟩ (.bool nr)).setCell ⟨B + 1, 1, none⟩ (.slice ro k rc)) nr ro k rc (sgd nb zs) := ⟨hs1.neg, hs1.sl.only_box b1 (only_set2 _ _ _ _)⟩
  have hbl := h1.trans ((only_set2 w1 (B + 1) (.bool nr) (.slice ro k rc)).below (Nat.le_succ B))
  have HRES := Lib.hid hres; clear hres
  go_wp2
  refine bodyPost_ret (v := .agg #[.bool nr, .slice ro k rc]) (by simp [results, Tryz.results66, go_sem, u0, u1]) rfl ⟨_, ro, k, rc, rfl, HRES.out, hk, ?_⟩
  rw [HBe.out]; exact hbl

set_option maxRecDepth 100000 in
set_option maxHeartbeats 1000000 in
theorem refSign_any (nb : Bool) (ao : Option Addr) (n cap : Nat) (x : Int) (w : World) (h : Bg w nb ao n cap x) :
    Calls Tryz.prog 13 #[.agg #[.bool nb, .slice ao n cap]] w fun e w' => e = .returned (.int .i64 (sgn3 x 0)) ∧ Below w.heap.size w w' := by
  go_enter Tryz.func13, Tryz.ntmps13
  go_wp2_with fail
  obtain ⟨W, hW, hB, hbx, hsz⟩ := box_new w nb ao n cap
  rw [← hW]
  clear hW
  have hs0 := h.below hB
  generalize hBe : w.heap.size = B at *
  have HBe := Lib.hid hBe; clear hBe
  have k0 := hbx.c0
  have k1 := hbx.c1
  go_wp2_with fail
  refine (refNorm_any nb ao n cap x W hs0).mono ?_
  rintro e w1 ⟨nr, ro, k, rc, rfl, hs1, hk, hw1⟩
  have b1 := hbx.below hw1
  obtain ⟨h1, z1⟩ := bnext hB (by omega) hw1
  have q0 := b1.c0
  have q1 := b1.c1
  have q2 := b1.f 0
  have q3 := b1.f 1
  have hst := b1.stored nr ro k rc
  have u0 := hst.c0
  have u1 := hst.c1
  have hbl := h1.trans ((only_set2 w1 B (.bool nr) (.slice ro k rc)).below (Nat.le_refl B))
  have hz := len_zero_iff hs1.sl.len
  have hneg := hs1.neg
  clear h hs0 hB hbx k0 k1 b1 h1 hst hsz
  have HN := Lib.hid hneg; clear hneg
  by_cases h0 : k = 0
  · have hx0 : x = 0 := by have := hz.1 h0; omega
    have HX := Lib.hid hx0
    subst h0
    clear hz hx0
    go_wp2
    go_ret
    exact ⟨by rw [HX.out]; rfl, by rw [HBe.out]; exact hbl⟩
  · have hk0 : ((k : Int) == 0) = false := beq_eq_false_iff_ne.2 (by omega)
    have hx0 : x ≠ 0 := by intro e; exact h0 (hz.2 (by omega))
    have HX := Lib.hid hx0
    clear hx0 h0 hz
    cases nr with
    | true =>
      have hlt : x < 0 := by have := HN.out; simpa using this.symm
      have e : sgn3 x 0 = -1 := by simp [sgn3]; omega
      have HE := Lib.hid e
      clear e hlt
      go_wp2
      go_ret
      exact ⟨by rw [HE.out]; rfl, by rw [HBe.out]; exact hbl⟩
    | false =>
      have hlt : ¬ x < 0 := by have := HN.out; simpa using this.symm
      have e : sgn3 x 0 = 1 := by have := HX.out; simp [sgn3]; omega
      have HE := Lib.hid e
      clear e hlt
      go_wp2
      go_ret
      exact ⟨by rw [HE.out]; rfl, by rw [HBe.out]; exact hbl⟩
end Go.Proofs.YtecaaklbhhjcjaaGreatDoor

namespace Go.Proofs.YtecaaklbhhjcjaaGreatDoor

theorem two_pos (k : Nat) : (0 : Int) < 2 ^ k := Int.pow_pos (by omega)
/-- a dyad: none if it is not representable, otherwise the odd integer and the exponent (or two zeros) -/
abbrev Dy := Option (Int × Int)

/-- the integer in units of 2^-65536; not for none -/
def sc : Dy → Int
  | none => 0
  | some (m, e) => m * 2 ^ (e + 65536).toNat

end Go.Proofs.YtecaaklbhhjcjaaGreatDoor

namespace Go.Proofs.YtecaaklbhhjcjaaGreatDoor
open Go.RowKit

set_option maxRecDepth 100000 in
set_option maxHeartbeats 2000000 in
/-- the quotient, where the divisor divides -/
theorem quo_exact (nb mb : Bool) (ao : Option Addr) (n ca : Nat) (bo : Option Addr) (m cb : Nat) (x y : Int) (w : World) (ha : Bg w nb ao n ca x) (hb : Bg w mb bo m cb y) (hy0 : y ≠ 0) (hnl : n ≤ 100000000) (hd : DivSays x.natAbs y.natAbs)
    (hnr : x.natAbs % y.natAbs = 0) :
    Calls Tryz.prog 9 #[.agg #[.bool nb, .slice ao n ca], .agg #[.bool mb, .slice bo m cb]] w fun e w' => ∃ qn qo qk qc, e = .returned (.tuple #[.agg #[.bool qn, .slice qo qk qc], .int .i64 0]) ∧
      Bn w' qn qo qk qc (x / y) ∧ Below w.heap.size w w' := by
  obtain ⟨⟨zs, hs, hx⟩, hsm⟩ := ha
  obtain ⟨⟨ys, hu, hy⟩, hum⟩ := hb
  have eax : (num zs).toNat = x.natAbs := by rw [hx, sgd_natAbs hs.wf]
  have eay : (num ys).toNat = y.natAbs := by rw [hy, sgd_natAbs hu.wf]
  have hq := divmod_plain (nb := nb) (mb := mb) hs.wf hu.wf hx hy hy0 (fun _ => hnr)
  rw [eax, eay] at hq
  have HQ := Lib.hid hq.1; clear hq
  clear hx hy
  have HY0 := Lib.hid hy0; clear hy0
  have HNR := Lib.hid hnr; clear hnr
  have HD := Lib.hid hd; clear hd
  go_enter Tryz.func9, Tryz.ntmps9
  go_wp2_with fail
  obtain ⟨W, hW, hB, hbx, hby, hrx, hz⟩ := boxes2 w nb ao n ca mb bo m cb
  rw [← hW]
  clear hW
  have hs0 := hs.below hB
  have hu0 := hu.below hB
  generalize hBe : w.heap.size = B at *
  have HBe := Lib.hid hBe; clear hBe
  have hBelow := Lib.hid hB
  clear hs hu hB
  obtain ⟨k1, hk1, hs1, ht1⟩ := trim_zs hs0 _ eax
  obtain ⟨k2, hk2, hu1, ht2⟩ := trim_zs hu0 _ eay
  have hk20 : ((k2 : Int) == 0) = false := by
    apply beq_eq_false_iff_ne.2
    intro h
    have h0 : (limbs y.natAbs).length = 0 := by rw [hu1.len]; omega
    have := limbs_inj ((List.eq_nil_of_length_eq_zero h0).trans limbs_zero.symm)
    exact HY0.out (by omega)
  have HT1 := Lib.hid ht1; clear ht1
  have HT2 := Lib.hid ht2; clear ht2
  clear eax eay
  have k0 := hbx.c0
  have k1' := hbx.c1
  have l0 := hby.c0
  have l1' := hby.c1
  go_wp2_with fail
  refine (HT2.out W hu0).mono ?_
  rintro e w1 ⟨rfl, rfl⟩
  go_wp2_with fail
  refine (HT1.out W hs0).mono ?_
  rintro e w1 ⟨rfl, rfl⟩
  go_wp2_with fail
  refine (HD.out _ _ _ _ _ _ W hs1 hu1 (by omega) (by omega)).mono ?_
  rintro e w2 ⟨qo, qk, qc, ro, rk, rc, rfl, hqs, hrs, hw2⟩
  have x2 := hbx.below hw2
  have y2 := hby.below hw2
  have p2 := hrx.below hw2
  obtain ⟨b2, z2⟩ := bnext hBelow.out (by omega) hw2
  have hsz : B + 3 ≤ w2.heap.size := by have := hw2.size; omega
  have hrk : rk = 0 := by
    have hl := hrs.len
    rw [HNR.out, limbs_zero] at hl
    exact hl.symm
  subst hrk
  clear hs0 hu0 hs1 hu1 hbx hby hrx hw2 k0 k1' l0 l1' HT1 HT2 HD hrs
  have k0 := x2.c0
  have k1 := x2.c1
  have l0 := y2.c0
  have l1 := y2.c1
  go_wp2_with fail
  refine (signed_any _ _ _ _ _ _ hqs).mono ?_
  rintro e w3 ⟨so, sc, rfl, hs3, hw3⟩
  have p3 := p2.below hw3
  obtain ⟨b3, z3⟩ := bnext b2 z2 hw3
  clear k0 k1 l0 l1 x2 y2 hqs hw3 b2 z2 p2 hBelow
  have q0 := p3.c0
  have q1 := p3.c1
  have q2 := p3.f 0
  have q3 := p3.f 1
  have hst := p3.stored (!(nb == mb) && decide (0 < qk)) so qk sc
  have u0 := hst.c0
  have u1 := hst.c1
  have hres := bn_of (x := x / y) (nb := !(nb == mb)) (hs3.only_box p3 (only_set2 w3 (B + 1 + 1) (.bool (!(nb == mb) && decide (0 < qk))) (.slice so qk sc))) rfl (by rw [HQ.out]; cases nb <;> cases mb <;> rfl)
  have HR := Lib.hid hres; clear hres
  have hbl := b3.trans ((only_set2 w3 (B + 1 + 1) (.bool (!(nb == mb) && decide (0 < qk))) (.slice so qk sc)).below (by omega))
  go_wp2
  refine bodyPost_ret (v := .tuple #[.agg #[.bool (!(nb == mb) && decide (0 < qk)), .slice so qk sc], .int .i64 0]) (by simp [results, Tryz.results9, go_sem, u0, u1]) rfl ⟨_, so, qk, sc, rfl, HR.out, ?_⟩
  rw [HBe.out]; exact hbl
end Go.Proofs.YtecaaklbhhjcjaaGreatDoor
