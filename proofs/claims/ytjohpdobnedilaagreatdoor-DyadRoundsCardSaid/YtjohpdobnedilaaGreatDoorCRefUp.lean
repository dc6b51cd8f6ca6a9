/- What the reference's Up and Lost do. -/
import Derived.Test.YtjohpdobnedilaaGreatDoorGp
import Derived.Test.YtjohpdobnedilaaGreatDoorGs
namespace Go.Proofs.YtjohpdobnedilaaGreatDoor
open Go.RowKit

/-- is a magnitude rounded up, as the reference says it: half is -1, 0 or 1 -/
def upB (neg : Bool) (half : Int) (odd : Bool) (mode : Int) : Bool :=
  if mode = 1 then neg else if mode = 2 then !neg else if mode = 3 then false else decide (half > 0) || decide (half = 0) && odd

set_option maxRecDepth 100000 in
set_option maxHeartbeats 2000000 in
theorem refUp_any (neg : Bool) (half : Int) (odd : Bool) (mode : Int) (w : World) :
    Calls Tryz.prog 195 #[.bool neg, .int .i64 half, .bool odd, .int .i64 mode] w fun e w' => e = .returned (.bool (upB neg half odd mode)) ∧ w = w' := by
  by_cases h1 : mode = 1
  · have hr : upB neg half odd mode = neg := by unfold upB; rw [if_pos h1]
    have HR := Lib.hid hr
    clear hr
    go_enter Tryz.func195, Tryz.ntmps195
    go_wp2
    go_ret
    exact ⟨by rw [HR.out]; rfl, rfl⟩
  · by_cases h2 : mode = 2
    · have hr : upB neg half odd mode = !neg := by unfold upB; rw [if_neg h1, if_pos h2]
      have HR := Lib.hid hr
      clear hr
      go_enter Tryz.func195, Tryz.ntmps195
      go_wp2
      go_ret
      exact ⟨by rw [HR.out]; rfl, rfl⟩
    · by_cases h3 : mode = 3
      · have hr : upB neg half odd mode = false := by unfold upB; rw [if_neg h1, if_neg h2, if_pos h3]
        have HR := Lib.hid hr
        clear hr
        go_enter Tryz.func195, Tryz.ntmps195
        go_wp2
        go_ret
        exact ⟨by rw [HR.out]; rfl, rfl⟩
      · have hr : upB neg half odd mode = (decide (half > 0) || decide (half = 0) && odd) := by unfold upB; rw [if_neg h1, if_neg h2, if_neg h3]
        have HR := Lib.hid hr
        clear hr
        by_cases g1 : half > 0
        · have HQ := Lib.hid (show (decide (half > 0) || decide (half = 0) && odd) = true by rw [decide_eq_true g1]; rfl)
          go_enter Tryz.func195, Tryz.ntmps195
          go_wp2
          go_ret
          exact ⟨by rw [HR.out, HQ.out]; rfl, rfl⟩
        · by_cases g2 : half = 0
          · subst g2
            have HQ := Lib.hid (show (decide ((0 : Int) > 0) || decide ((0 : Int) = 0) && odd) = odd by cases odd <;> rfl)
            clear g1
            go_enter Tryz.func195, Tryz.ntmps195
            go_wp2
            go_ret
            exact ⟨by rw [HR.out, HQ.out]; rfl, rfl⟩
          · have HQ := Lib.hid (show (decide (half > 0) || decide (half = 0) && odd) = false by rw [decide_eq_false g1, decide_eq_false g2]; rfl)
            go_enter Tryz.func195, Tryz.ntmps195
            go_wp2
            go_ret
            exact ⟨by rw [HR.out, HQ.out]; rfl, rfl⟩

set_option maxRecDepth 100000 in
set_option maxHeartbeats 2000000 in
theorem refLost_any (nb : Bool) (ao : Option Addr) (n cap : Nat) (x : Int) (e : Nat) (b : Bool) (hb : decide (x.natAbs % 2 ^ e ≠ 0) = b) (w : World) (h : Bg w nb ao n cap x) (he : e ≤ 1048576) :
    Calls Tryz.prog 194 #[.agg #[.bool nb, .slice ao n cap], .int .i64 (e : Int)] w fun r w' => r = .returned (.bool b) ∧ Ext w w' := by
  have hsm := h.small
  obtain ⟨zs, hz, hx⟩ := h.1
  have hnum : (num zs).toNat = x.natAbs := by rw [hx, sgd_natAbs hz.wf]
  have HN := Lib.hid hnum
  have HB := Lib.hid hb
  clear h hx hnum hb
  go_enter Tryz.func194, Tryz.ntmps194
  go_upto_region 1 with fail
  obtain ⟨W, hW, hB, hbx, hz1⟩ := box_new w nb ao n cap
  rw [← hW]
  clear hW
  have hz := hz.below hB
  have HE := Lib.hid (show Ext w W from hB)
  generalize w.heap.size = B at *
  have k0 := hbx.c0
  have k1 := hbx.c1
  go_wp2_with fail
  refine (refTrim_any ao n cap zs W hz).mono ?_
  rintro r w1 ⟨ro, k, rc, rfl, hs, hk, hw1⟩
  rw [HN.out] at hs
  have C := Lib.hid (refShr_num x.natAbs e ro k rc w1 hs (by omega) (by omega))
  clear hs hz k0 k1
  go_wp2_with fail
  refine C.out.mono ?_
  rintro r w3 ⟨so, l, sc, L, rfl, hL, -, hl, hw3⟩
  rw [HB.out]
  have hfin := Lib.hid (Ext.trans (Ext.trans HE.out hw1) hw3)
  go_wp2
  go_ret
  exact ⟨rfl, hfin.out⟩
end Go.Proofs.YtjohpdobnedilaaGreatDoor
