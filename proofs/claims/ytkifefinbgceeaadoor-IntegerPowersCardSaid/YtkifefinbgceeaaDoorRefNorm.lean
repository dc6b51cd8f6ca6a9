/- What the reference's make1, Norm and Sign do. -/
import Derived.Test.YtkifefinbgceeaaDoorRefTrim
import Derived.Test.YtkifefinbgceeaaDoorSign
import Derived.Test.YtkifefinbgceeaaDoorNorm
namespace Go.Proofs.YtkifefinbgceeaaDoor
open Go.RowKit

theorem box_new (w : World) (nb : Bool) (ao : Option Addr) (n ca : Nat) :
    ∃ W, W = w.alloc (.cells #[.bool nb, .slice ao n ca] 24) ∧ Below w.heap.size w W ∧ Box W w.heap.size nb ao n ca ∧ w.heap.size + 1 ≤ W.heap.size :=
  ⟨_, rfl, (Below.refl _ w).alloc (Nat.le_refl _) _, Box.new w nb ao n ca, by simp⟩

theorem make1_val {nb nr : Bool} {zs : List Int} {w : World} {ro : Option Addr} {k rc : Nat} (hz : Wf zs) (hs : Sl w ro k rc (limbs (num zs).toNat)) (hr : nr = (nb && decide (0 < k))) : Bn w nr ro k rc (sgd nb zs) := by
  refine bn_of hs hr ?_
  rw [Int.toNat_of_nonneg (num_nonneg hz)]; rfl

set_option maxRecDepth 100000 in
set_option maxHeartbeats 1000000 in
theorem make1_any (nb : Bool) (ao : Option Addr) (n cap : Nat) (zs : List Int) (w : World) (h : Sl w ao n cap zs) :
    Calls Tryd.prog 52 #[.bool nb, .slice ao n cap] w fun e w' => ∃ nr ro k cr, e = .returned (.agg #[.bool nr, .slice ro k cr]) ∧ Bn w' nr ro k cr (sgd nb zs) ∧ k ≤ n ∧ Below w.heap.size w w' := by
  go_enter Tryd.func52, Tryd.ntmps52
  go_wp2_with fail
  obtain ⟨W, hW, hB, hbx, hsz⟩ := box_new w false none 0 0
  rw [← hW]
  clear hW
  have hs0 := h.below hB
  generalize hBe : w.heap.size = B at *
  have HBe := Lib.hid hBe; clear hBe
  refine (refTrim_any ao n cap zs W hs0).mono ?_
  rintro e w1 ⟨ro, k, rc, rfl, hs1, hk, hw1⟩
  have b1 := hbx.below hw1
  obtain ⟨h1, z1⟩ := bnext hB (by omega) hw1
  have q0 := b1.c0
  have q1 := b1.c1
  have q2 := b1.f 0
  have q3 := b1.f 1
  have hst := b1.stored (nb && decide (0 < k)) ro k rc
  have u0 := hst.c0
  have u1 := hst.c1
  have hres := make1_val (nb := nb) h.wf (hs1.only_box b1 (only_set2 w1 B (.bool (nb && decide (0 < k))) (.slice ro k rc))) rfl
  have hbl := h1.trans ((only_set2 w1 B (.bool (nb && decide (0 < k))) (.slice ro k rc)).below (Nat.le_refl _))
  have HRES := Lib.hid hres; clear hres
  cases nb
  · simp only [Bool.false_and] at u0 u1 HRES hbl
    go_wp2
    refine bodyPost_ret (v := .agg #[.bool false, .slice ro k rc]) (by simp [results, Tryd.results52, go_sem, u0, u1]) rfl ⟨_, ro, k, rc, rfl, HRES.out, hk, ?_⟩
    rw [HBe.out]; exact hbl
  · simp only [Bool.true_and] at u0 u1 HRES hbl
    go_wp2
    refine bodyPost_ret (v := .agg #[.bool (decide (0 < k)), .slice ro k rc]) (by simp [results, Tryd.results52, go_sem, u0, u1]) rfl ⟨_, ro, k, rc, rfl, HRES.out, hk, ?_⟩
    rw [HBe.out]; exact hbl

set_option maxRecDepth 100000 in
set_option maxHeartbeats 1000000 in
theorem refNorm_any (nb : Bool) (ao : Option Addr) (n cap : Nat) (x : Int) (w : World) (h : Bg w nb ao n cap x) :
    Calls Tryd.prog 18 #[.agg #[.bool nb, .slice ao n cap]] w fun e w' => ∃ nr ro k cr, e = .returned (.agg #[.bool nr, .slice ro k cr]) ∧ Bn w' nr ro k cr x ∧ k ≤ n ∧ Below w.heap.size w w' := by
  obtain ⟨⟨zs, hs, hx⟩, hsm⟩ := h
  subst hx
  go_enter Tryd.func18, Tryd.ntmps18
  go_wp2_with fail
  obtain ⟨W, hW, hB, hbx, hrx, hz⟩ := boxes1 w nb ao n cap
  rw [← hW]
  clear hW
  have hs0 := hs.below hB
  generalize hBe : w.heap.size = B at *
  have HBe := Lib.hid hBe; clear hBe
  have k0 := hbx.c0
  have k1 := hbx.c1
  go_wp2_with fail
  refine (make1_any nb ao n cap zs W hs0).mono ?_
  rintro e w1 ⟨nr, ro, k, rc, rfl, hs1, hk, hw1⟩
  have b1 := hrx.below hw1
  obtain ⟨h1, z1⟩ := bnext hB (by omega) hw1
  have q0 := b1.c0
  have q1 := b1.c1
  have q2 := b1.f 0
  have q3 := b1.f 1
  have hst := b1.stored nr ro k rc
  have u0 := hst.c0
  have u1 := hst.c1
  have hres : Bn ((w1.setCell ⟨B + 1, 0, none⟩ (.bool nr)).setCell ⟨B + 1, 1, none⟩ (.slice ro k rc)) nr ro k rc (sgd nb zs) := ⟨hs1.neg, hs1.sl.only_box b1 (only_set2 _ _ _ _)⟩
  have hbl := h1.trans ((only_set2 w1 (B + 1) (.bool nr) (.slice ro k rc)).below (Nat.le_succ B))
  have HRES := Lib.hid hres; clear hres
  go_wp2
  refine bodyPost_ret (v := .agg #[.bool nr, .slice ro k rc]) (by simp [results, Tryd.results18, go_sem, u0, u1]) rfl ⟨_, ro, k, rc, rfl, HRES.out, hk, ?_⟩
  rw [HBe.out]; exact hbl

set_option maxRecDepth 100000 in
set_option maxHeartbeats 1000000 in
theorem refSign_any (nb : Bool) (ao : Option Addr) (n cap : Nat) (x : Int) (w : World) (h : Bg w nb ao n cap x) :
    Calls Tryd.prog 22 #[.agg #[.bool nb, .slice ao n cap]] w fun e w' => e = .returned (.int .i64 (sgn3 x 0)) ∧ Below w.heap.size w w' := by
  go_enter Tryd.func22, Tryd.ntmps22
  go_wp2_with fail
  obtain ⟨W, hW, hB, hbx, hsz⟩ := box_new w nb ao n cap
  rw [← hW]
  clear hW
  have hs0 := h.below hB
  generalize hBe : w.heap.size = B at *
  have HBe := Lib.hid hBe; clear hBe
  have k0 := hbx.c0
  have k1 := hbx.c1
  go_wp2_with fail
  refine (refNorm_any nb ao n cap x W hs0).mono ?_
  rintro e w1 ⟨nr, ro, k, rc, rfl, hs1, hk, hw1⟩
  have b1 := hbx.below hw1
  obtain ⟨h1, z1⟩ := bnext hB (by omega) hw1
  have q0 := b1.c0
  have q1 := b1.c1
  have q2 := b1.f 0
  have q3 := b1.f 1
  have hst := b1.stored nr ro k rc
  have u0 := hst.c0
  have u1 := hst.c1
  have hbl := h1.trans ((only_set2 w1 B (.bool nr) (.slice ro k rc)).below (Nat.le_refl B))
  have hz := len_zero_iff hs1.sl.len
  have hneg := hs1.neg
  clear h hs0 hB hbx k0 k1 b1 h1 hst hsz
  have HN := Lib.hid hneg; clear hneg
  by_cases h0 : k = 0
  · have hx0 : x = 0 := by have := hz.1 h0; omega
    have HX := Lib.hid hx0
    subst h0
    clear hz hx0
    go_wp2
    go_ret
    exact ⟨by rw [HX.out]; rfl, by rw [HBe.out]; exact hbl⟩
  · have hk0 : ((k : Int) == 0) = false := beq_eq_false_iff_ne.2 (by omega)
    have hx0 : x ≠ 0 := by intro e; exact h0 (hz.2 (by omega))
    have HX := Lib.hid hx0
    clear hx0 h0 hz
    cases nr with
    | true =>
      have hlt : x < 0 := by have := HN.out; simpa using this.symm
      have e : sgn3 x 0 = -1 := by simp [sgn3]; omega
      have HE := Lib.hid e
      clear e hlt
      go_wp2
      go_ret
      exact ⟨by rw [HE.out]; rfl, by rw [HBe.out]; exact hbl⟩
    | false =>
      have hlt : ¬ x < 0 := by have := HN.out; simpa using this.symm
      have e : sgn3 x 0 = 1 := by have := HX.out; simp [sgn3]; omega
      have HE := Lib.hid e
      clear e hlt
      go_wp2
      go_ret
      exact ⟨by rw [HE.out]; rfl, by rw [HBe.out]; exact hbl⟩
end Go.Proofs.YtkifefinbgceeaaDoor
