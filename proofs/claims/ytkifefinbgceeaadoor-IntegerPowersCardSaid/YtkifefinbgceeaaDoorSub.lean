/- What integer.Sub does: the normalized difference. -/
import Derived.Test.YtkifefinbgceeaaDoorAdd
namespace Go.Proofs.YtkifefinbgceeaaDoor
open Go.RowKit

theorem Bg.not {w : World} {nb : Bool} {ao : Option Addr} {n cap : Nat} {x : Int} (h : Bg w nb ao n cap x) : Bg w (!nb) ao n cap (-x) := by
  obtain ⟨⟨zs, h1, h2⟩, h3⟩ := h
  refine ⟨⟨zs, h1, ?_⟩, h3⟩
  rw [h2]
  unfold sgd
  cases nb <;> simp
theorem Bg.only_box {w w' : World} {g : Nat} {nb mb : Bool} {ao ro : Option Addr} {n cap k cr : Nat} {x : Int} (h : Bg w mb ro k cr x) (hx : Box w g nb ao n cap) (ho : Only g w w') : Bg w' mb ro k cr x := by
  obtain ⟨⟨zs, h1, h2⟩, h3⟩ := h
  exact ⟨⟨zs, h1.only_box hx ho, h2⟩, h3⟩
theorem Bn.only_box {w w' : World} {g : Nat} {nb mb : Bool} {ao ro : Option Addr} {n cap k cr : Nat} {x : Int} (h : Bn w mb ro k cr x) (hx : Box w g nb ao n cap) (ho : Only g w w') : Bn w' mb ro k cr x :=
  ⟨h.neg, h.sl.only_box hx ho⟩

set_option maxRecDepth 100000 in
set_option maxHeartbeats 2000000 in
theorem sub_any (nb mb : Bool) (ao : Option Addr) (n ca : Nat) (bo : Option Addr) (m cb : Nat) (x y : Int) (w : World) (ha : Bg w nb ao n ca x) (hb : Bg w mb bo m cb y) :
    Calls Tryd.prog 31 #[.agg #[.bool nb, .slice ao n ca], .agg #[.bool mb, .slice bo m cb]] w fun e w' => ∃ nr ro k cr, e = .returned (.agg #[.bool nr, .slice ro k cr]) ∧ Bn w' nr ro k cr (x - y) ∧ Below w.heap.size w w' := by
  go_enter Tryd.func31, Tryd.ntmps31
  go_wp2_with fail
  obtain ⟨W, hW, hB, hbx, hby, hrx, hz⟩ := boxes2 w nb ao n ca (!mb) bo m cb
  rw [← hW]
  clear hW
  refine (add_any nb (!mb) ao n ca bo m cb x (-y) W (ha.below hB) (hb.not.below hB)).mono ?_
  rintro e w2 ⟨nr, ro, k, cr, rfl, hr, hw2⟩
  have y2 := hrx.below hw2
  obtain ⟨b2, l2⟩ := bnext hB (by omega) hw2
  generalize hBe : w.heap.size = B at *
  have HBe := Lib.hid hBe; clear hBe
  have z2 := hw2.size
  clear hbx hby hrx hB hw2
  have q0 := y2.c0
  have q1 := y2.c1
  have q2 := y2.f 0
  have q3 := y2.f 1
  have z3 := y2.stored nr ro k cr
  have z0 := z3.c0
  have z1 := z3.c1
  go_wp2
  refine bodyPost_ret (v := .agg #[.bool nr, .slice ro k cr]) (by simp [results, Tryd.results31, go_sem, z0, z1]) rfl ⟨nr, ro, k, cr, rfl, ?_, ?_⟩
  · have := hr.only_box y2 (only_set2 w2 (B + 1 + 1) (.bool nr) (.slice ro k cr))
    rwa [← Int.sub_eq_add_neg] at this
  · rw [HBe.out]
    exact b2.trans ((only_set2 _ _ _ _).below (by omega))
end Go.Proofs.YtkifefinbgceeaaDoor
