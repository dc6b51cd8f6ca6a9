import Derived.Test.YtecaaklbhhjcjaaGreatDoorDividesU30
import Derived.Test.YtecaaklbhhjcjaaGreatDoorDividesU32
import Derived.Test.YtecaaklbhhjcjaaGreatDoorDividesU23
import Derived.Test.YtecaaklbhhjcjaaGreatDoorDividesU16
import Derived.Test.YtecaaklbhhjcjaaGreatDoorDividesU5
import Derived.Test.YtecaaklbhhjcjaaGreatDoorDividesU26
import Derived.Test.YtecaaklbhhjcjaaGreatDoorDividesU17
import Derived.Test.YtecaaklbhhjcjaaGreatDoorDividesU2
import Derived.Shelf.Spec.TrailingZeros
import Derived.Test.YtecaaklbhhjcjaaGreatDoorDividesU11
import Derived.Test.YtecaaklbhhjcjaaGreatDoorDividesU9
import Derived.Test.YtecaaklbhhjcjaaGreatDoorDividesU28
import Derived.Deep.CutRange
import Derived.Deep.RegionHeld3
import Derived.Deep.CutBlock
import Derived.LoopTactic
import Derived.Test.YtecaaklbhhjcjaaGreatDoorDividesU0
namespace Go.Proofs.YtecaaklbhhjcjaaGreatDoor
open Go.RowKit

section
variable {W w : World} {L : List Ent} {u v : Value} {x y : Int} {N M : Nat} {c d : Bool}
end

/-- two boxes -/
theorem box_pair (w : World) (nb : Bool) (ao : Option Addr) (n ca : Nat) (mb : Bool) (bo : Option Addr) (m cb : Nat) :
    ∃ W, W = (w.alloc (.cells #[.bool nb, .slice ao n ca] 24)).alloc (.cells #[.bool mb, .slice bo m cb] 24) ∧ Ext w W ∧ Box W w.heap.size nb ao n ca ∧ Box W (w.heap.size + 1) mb bo m cb := by
  refine ⟨_, rfl, ((Below.refl _ w).alloc (Nat.le_refl _) _).alloc (by simp) _, ?_, ?_⟩
  · exact (Box.new w nb ao n ca).below ((Below.refl _ _).alloc (Nat.le_refl _) _)
  · have := Box.new (w.alloc (.cells #[.bool nb, .slice ao n ca] 24)) mb bo m cb
    simpa using this

set_option maxRecDepth 100000 in
set_option maxHeartbeats 4000000 in
theorem refSub_any (nb mb : Bool) (ao : Option Addr) (n ca : Nat) (bo : Option Addr) (m cb : Nat) (x y : Int) (w : World) (ha : Bg w nb ao n ca x) (hb : Bg w mb bo m cb y) :
    Calls Tryz.prog 71 #[.agg #[.bool nb, .slice ao n ca], .agg #[.bool mb, .slice bo m cb]] w fun e w' => ∃ nr ro k cr, e = .returned (.agg #[.bool nr, .slice ro k cr]) ∧ Bn w' nr ro k cr (x - y) ∧ Ext w w' := by
  go_enter Tryz.func71, Tryz.ntmps71
  go_wp2_with fail
  obtain ⟨W, hW, hB, hbx, hby, hrx, hz⟩ := boxes2 w nb ao n ca mb bo m cb
  rw [← hW]
  clear hW
  have ha0 := ha.below hB
  have hb0 := hb.below hB
  generalize hBe : w.heap.size = B at *
  have HBe := Lib.hid hBe; clear hBe
  have hBelow := Lib.hid hB
  clear ha hb hB
  have k0 := hbx.c0
  have k1' := hbx.c1
  have l0 := hby.c0
  have l1' := hby.c1
  go_region_held3 (fun w' => w'.cell? ⟨B, 0, none⟩ = some (.bool nb) ∧ w'.cell? ⟨B, 1, none⟩ = some (.slice ao n ca) ∧ w'.cell? ⟨B + 1, 0, none⟩ = some (.bool mb) ∧ w'.cell? ⟨B + 1, 1, none⟩ = some (.slice bo m cb))
    (first | exact ⟨k0, k1', l0, l1'⟩ | exact ⟨x1.c0, x1.c1, v1.c0, v1.c1⟩ | exact ⟨x2.c0, x2.c1, v2.c0, v2.c1⟩ | (refine ⟨?_, ?_, ?_, ?_⟩ <;> go_simp))
    (first
      | (go_at_call 146; refine (refNeg_any mb bo m cb y _ (by exact hb0.drew)).mono ?_; rintro e w1 ⟨gn, go', gk, gc, rfl, hg1, hgk, hw1⟩; have x1 := hbx.drew.below hw1; have v1 := hby.drew.below hw1; have y1 := hrx.drew.below hw1; have e0 := x1.c0; have e1 := x1.c1; have e2 := v1.c0; have e3 := v1.c1)
      | (go_at_call 69; refine (refAdd_any nb gn ao n ca go' gk gc x (-y) _ (by exact ha0.drew.below hw1) (by exact hg1.bg (Nat.le_trans hgk hb0.small))).mono ?_; rintro e w2 ⟨nr, ro, k, rc, rfl, hs2, hw2⟩; have x2 := x1.below hw2; have v2 := v1.below hw2; have y2 := y1.below hw2; clear e0 e1 e2 e3; have e0 := x2.c0; have e1 := x2.c1; have e2 := v2.c0; have e3 := v2.c1; have q0 := y2.c0; have q1 := y2.c1; have q2 := y2.f 0; have q3 := y2.f 1))
  obtain ⟨b1, l1⟩ := bnext hBelow.out (by omega) (Below.refl _ W).drew
  obtain ⟨b2, l2⟩ := bnext b1 l1 hw1
  obtain ⟨b3, l3⟩ := bnext b2 l2 hw2
  have hst := y2.stored nr ro k rc
  have u0 := hst.c0
  have u1 := hst.c1
  have HRES := Lib.hid (show Bn ((w2.setCell ⟨B + 1 + 1, 0, none⟩ (.bool nr)).setCell ⟨B + 1 + 1, 1, none⟩ (.slice ro k rc)) nr ro k rc (x - y) from by
    rw [Int.sub_eq_add_neg]; exact ⟨hs2.neg, hs2.sl.only_box y2 (only_set2 _ _ _ _)⟩)
  have HBL := Lib.hid (b3.trans ((only_set2 w2 (B + 1 + 1) (.bool nr) (.slice ro k rc)).below (by omega)))
  clear b1 b2 b3 hw1 hw2 hs2 hg1 hst ha0 hb0
  go_wp2
  refine bodyPost_ret (v := .agg #[.bool nr, .slice ro k rc]) (by simp [results, Tryz.results71, go_sem, u0, u1]) rfl ⟨_, ro, k, rc, rfl, HRES.out, ?_⟩
  rw [Ext, HBe.out]; exact HBL.out

section
variable {W w : World} {L : List Ent} {u v : Value} {x y : Int} {N M : Nat} {c d : Bool}
end
end Go.Proofs.YtecaaklbhhjcjaaGreatDoor

namespace Go.Proofs.YtecaaklbhhjcjaaGreatDoor
open Go.RowKit

theorem Bn.only_bx' {w w' : World} {g : Nat} {nb mb : Bool} {ao ro : Option Addr} {n cap k cr : Nat} {x : Int} (h : Bn w mb ro k cr x) (hx : Box w g nb ao n cap) (ho : Only g w w') : Bn w' mb ro k cr x := ⟨h.neg, h.sl.only_box hx ho⟩

end Go.Proofs.YtecaaklbhhjcjaaGreatDoor
