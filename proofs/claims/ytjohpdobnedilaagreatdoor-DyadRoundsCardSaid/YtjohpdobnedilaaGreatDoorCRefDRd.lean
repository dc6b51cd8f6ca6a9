/- What the reference's rounded and Round of dyads do. -/
import Derived.Test.YtjohpdobnedilaaGreatDoorCDRoundsM
import Derived.Test.YtjohpdobnedilaaGreatDoorIh
import Derived.Test.YtjohpdobnedilaaGreatDoorIb
namespace Go.Proofs.YtjohpdobnedilaaGreatDoor
open Go Go.RowKit

/-- a number without sign, given one -/
theorem Bn.signed {w : World} {nb : Bool} {ao : Option Addr} {n ca : Nat} {c : Nat} (h : Bn w nb ao n ca (c : Int)) (neg : Bool) (hn : n ≤ 1000000000) : Bg w neg ao n ca (if neg then -(c : Int) else (c : Int)) := by
  obtain ⟨⟨zs, hs, hx⟩, hsm⟩ := h.bg hn
  have hnn := num_nonneg hs.wf
  refine ⟨⟨zs, hs, ?_⟩, hsm⟩
  have hz : num zs = (c : Int) := by
    have h2 := congrArg Int.natAbs hx
    rw [Int.natAbs_natCast] at h2
    unfold sgd at h2
    split at h2 <;> omega
  unfold sgd
  rw [hz]
theorem blen_cut {neg : Bool} {N n : Nat} {t : Bool} {mode : Int} (h : blen N ≤ 900000) : blen (cutV neg N n t mode) ≤ 900001 := by
  have h1 := blen_lt N
  have h2 : cutV neg N n t mode ≤ N / 2 ^ n + 1 := by unfold cutV; split <;> omega
  have h3 : N / 2 ^ n ≤ N := Nat.div_le_self _ _
  have h5 : 0 < 2 ^ blen N := Nat.pow_pos (by omega)
  exact Nat.le_trans (blen_le_of_lt (k := blen N + 1) (by rw [Nat.pow_succ]; omega)) (by omega)

set_option maxRecDepth 100000 in
set_option maxHeartbeats 4000000 in
theorem refDRounded_any (neg nb : Bool) (ao : Option Addr) (k ca : Nat) (N : Nat) (e : Int) (more : Bool) (p : Nat) (mode : Int) (w : World) (h : Bg w nb ao k ca (N : Int)) (hbl : blen N ≤ 900000) (he : -4000000000 ≤ e ∧ e ≤ 4000000000) (hp : p ≤ 4096) (hT : Table w) :
    Calls Tryz.prog 102 #[.bool neg, .agg #[.bool nb, .slice ao k ca], .int .i64 e, .bool more, .int .i64 (p : Int), .int .i64 mode] w fun r w' => ∃ v, r = .returned v ∧ Dn w' v (rdV neg N e more p mode) ∧ Ext w w' := by
  have hc := blen_cut (neg := neg) (n := blen N - p) (t := more) (mode := mode) hbl
  have HV := Lib.hid (show dmk (if neg then -((cutV neg N (blen N - p) more mode : Nat) : Int) else ((cutV neg N (blen N - p) more mode : Nat) : Int)) (e + ((blen N - p : Nat) : Int)) = rdV neg N e more p mode from rfl)
  obtain ⟨c, hce⟩ : ∃ c, cutV neg N (blen N - p) more mode = c := ⟨_, rfl⟩
  rw [hce] at hc HV
  have HC := Lib.hid hce; clear hce
  have HBC := Lib.hid (show blen (if neg then -(c : Int) else (c : Int)).natAbs ≤ 1000000 by cases neg <;> simp <;> omega)
  have hn0 : blen N - p ≤ 900000 := by omega
  have HMX := Lib.hid (show max ((blen N : Int) - (p : Int)) 0 = ((blen N - p : Nat) : Int) by omega)
  go_enter Tryz.func102, Tryz.ntmps102
  go_upto_region 1 with fail
  obtain ⟨W, hW, hB, hbx, hrx, hz⟩ := boxes_bd w nb ao k ca
  rw [← hW]
  clear hW
  have h := h.below hB
  have HT := Lib.hid (hT.below hB)
  generalize hBe : w.heap.size = B at *
  have HBe := Lib.hid hBe; clear hBe hT
  have k0 := hbx.c0
  have k1 := hbx.c1
  have CB := refBitLen_any _ _ _ _ _ W h
  rw [Int.natAbs_natCast] at CB
  have CB := Lib.hid CB
  go_wp2_with fail
  refine CB.out.mono ?_
  rintro r w1 ⟨rfl, hw1⟩
  have hw1 : Ext W w1 := hw1
  have h := h.below hw1
  have b1 := hbx.below hw1
  have c1 := hrx.below hw1
  have HT := Lib.hid (HT.out.below hw1)
  obtain ⟨hB1, hB1'⟩ := bnext hB (by omega) hw1
  have hz1 := hw1.size
  clear k0 k1 hbx hrx CB hw1
  go_upto_region 2 with fail
  rw [HMX.out]
  have k0 := b1.c0
  have k1 := b1.c1
  generalize hnn : blen N - p = n at *
  have HCC := Lib.hid (refCut_any neg nb ao k ca N n more mode w1 h hbl (by omega) HT.out)
  go_wp2_with fail
  refine HCC.out.mono ?_
  rintro r w2 ⟨nr, ro, j, cr, rfl, hq, hw2⟩
  rw [HC.out] at hq
  have b2 := b1.below hw2
  have c2 := c1.ext hw2
  have HT := Lib.hid (HT.out.below hw2)
  obtain ⟨hB2, hB2'⟩ := bnext hB1 (by omega) hw2
  have hz2 := Below.size hw2
  clear k0 k1 b1 c1 hw2 HCC h
  go_upto_region 3 with fail
  obtain ⟨V, hV, hv, e1, hz3⟩ := box_new w2 nr ro j cr
  rw [← hV]
  clear hV
  have HT0 := HT
  have b2 := b2.below hv
  have c2 := c2.below hv
  have hq := hq.below hv
  obtain ⟨hB3, hB3'⟩ := bnext hB2 (by omega) hv
  have hD : B + 2 ≤ w2.heap.size := by omega
  have hTb := HT0.out.below (Below.trans hv ((only_set1 V w2.heap.size 0 (.bool neg)).below (Nat.le_refl _)))
  clear hv HT0
  generalize w2.heap.size = D at *
  have k0 := e1.c0
  have k1 := e1.c1
  have k2 := e1.f 0
  have ho := only_set1 V D 0 (.bool neg)
  have e2 := e1.stored0 neg
  have c3 := c2.only ho (by omega)
  have hjs : j ≤ 100000 := by
    have := limbs_of_blen (a := c) (k := 100000) (by omega)
    have hl := hq.sl.len
    rw [Int.natAbs_natCast] at hl
    rwa [hl] at this
  have hq2 : Bn _ nr ro j cr (c : Int) := ⟨hq.neg, hq.sl.only_box e1 ho⟩
  have hm := hq2.signed neg (by omega)
  have hB4 := hB3.trans (ho.below (B := B) (by omega))
  have HM := Lib.hid hm
  have hzs := ho.size
  have HT2 := Lib.hid hTb
  clear hTb hm hq2
  go_upto_region 4 with fail
  generalize V.setCell ⟨D, 0, none⟩ (.bool neg) = w5 at *
  clear k0 k1 k2 ho e1 c2 hq b2
  have k0 := e2.c0
  have k1 := e2.c1
  have HMK := Lib.hid (refMake_any _ _ _ _ _ (e + (n : Int)) w5 HM.out HBC.out (by omega) (by omega) HT2.out)
  go_wp2_with fail
  refine HMK.out.mono ?_
  rintro r w6 ⟨v, rfl, hr2, hw6⟩
  rw [HV.out] at hr2
  obtain ⟨rb, rn, ro2, rk, rc, re, rfl⟩ := hr2.parts
  have c4 := c3.ext hw6
  have hB5 : Below B w w6 := (bnext hB4 (by omega) hw6).1
  clear k0 k1 HMK
  have q0 := c4.c0
  have q1 := c4.c1
  have q2 := c4.c2
  have q3 := c4.c3
  have f0 := c4.f 0
  have f1 := c4.f 1
  have f2 := c4.f 2
  have f3 := c4.f 3
  have hres := dn_stored c4 hr2 w hB5 (by omega)
  have z3 := c4.stored rb rn ro2 rk rc re
  have z0 := z3.c0
  have z1 := z3.c1
  have z2 := z3.c2
  have z4 := z3.c3
  have HRES := Lib.hid hres; clear hres z3
  go_wp2
  refine bodyPost_ret (v := .agg #[.bool rb, .bool rn, .slice ro2 rk rc, .int .i64 re]) (by simp [results, Tryz.results102, go_sem, z0, z1, z2, z4]) rfl ⟨_, rfl, ?_, ?_⟩
  · exact HRES.out.1
  · show Below _ _ _; rw [HBe.out]; exact HRES.out.2
end Go.Proofs.YtjohpdobnedilaaGreatDoor
