/- What sparsekit.Dyad, SlimDyad and the law's same do. -/
import Derived.Test.YtjohpdobnedilaaGreatDoorGk
import Derived.Test.YtjohpdobnedilaaGreatDoorGm
import Derived.Test.YtjohpdobnedilaaGreatDoorGl
namespace Go.Proofs.YtjohpdobnedilaaGreatDoor
open Go.RowKit

theorem Dn.num {w : World} {bb nb : Bool} {ao : Option Addr} {n ca : Nat} {f : Int} {d : Dy} (h : Dn w (.agg #[.bool bb, .bool nb, .slice ao n ca, .int .i64 f]) d) : bb = d.isNone ∧ f = dx d ∧ Bn w nb ao n ca (dm d) := h.get

set_option maxRecDepth 100000 in
set_option maxHeartbeats 2000000 in
theorem kitDyad_same (u v : Value) (d : Dy) (w : World) (hu : Dn w u d) (hv : Dn w v d) :
    Calls Tryz.prog 24 #[u, v] w fun e w' => e = .returned (.bool true) ∧ Ext w w' := by
  obtain ⟨ub, un, uo, uk, uc, uf, rfl⟩ := hu.parts
  obtain ⟨vb, vn, vo, vk, vc, vf, rfl⟩ := hv.parts
  obtain ⟨a1, a2, hm⟩ := hu.get
  obtain ⟨b1, b2, hm'⟩ := hv.get
  clear hu hv
  obtain rfl : ub = vb := a1.trans b1.symm
  obtain rfl : uf = vf := a2.trans b2.symm
  clear a1 a2 b1 b2
  go_enter Tryz.func24, Tryz.ntmps24
  go_upto_region 1 with fail
  obtain ⟨W, hW, hB, hbx, hby, hz⟩ := boxes_two_d w ub un uo uk uc uf ub vn vo vk vc uf
  rw [← hW]
  clear hW
  have hm := hm.below hB
  have hm' := hm'.below hB
  have HB := Lib.hid (show Ext w W from hB)
  clear hB
  generalize w.heap.size = B at *
  generalize dm d = m at *
  have k0 := hbx.c0
  have k1 := hbx.c1
  have k2 := hbx.c2
  have k3 := hbx.c3
  have l0 := hby.c0
  have l1 := hby.c1
  have l2 := hby.c2
  have l3 := hby.c3
  go_wp2_with fail
  refine (big_eq _ _ _ _ _ _ _ _ _ _ _ hm hm' rfl).mono ?_
  rintro e w1 ⟨rfl, hw1⟩
  go_wp2
  go_ret
  exact ⟨rfl, HB.out.trans hw1⟩

end Go.Proofs.YtjohpdobnedilaaGreatDoor

/- The check of fixed numbers of the laws of dyads returns true. -/
namespace Go.Proofs.YtjohpdobnedilaaGreatDoor
open Go.RowKit

theorem limb_one (k : Nat) (h : k < 4294967296) (h0 : k ≠ 0) : limbs k = [(k : Int)] := by
  rw [limbs_pos h0, show k / 4294967296 = 0 by omega, limbs_zero, Nat.mod_eq_of_lt h]

/-- a limb in a new block -/
theorem limb_made (w : World) (k : Nat) (h : k < 4294967296) (h0 : k ≠ 0) :
    ∃ W, W = w.alloc (.cells #[.int .u32 (k : Int)] 64) ∧ Ext w W ∧ Bn W false (some ⟨w.heap.size, 0, none⟩) 1 1 (k : Int) := by
  refine ⟨_, rfl, (Below.refl _ w).alloc (Nat.le_refl _) _, by simp, ?_⟩
  have hb : Blk (w.alloc (.cells #[.int .u32 (k : Int)] 64)) w.heap.size [(k : Int)] := heap_alloc_new w _
  rw [Int.natAbs_natCast, limb_one k h h0]
  exact hb.sl (Wf.cons ⟨by omega, by omega⟩ Wf.nil) rfl (by omega) (Nat.le_refl _)

theorem dn_lit {w : World} {nb : Bool} {ao : Option Addr} {n ca : Nat} {m f : Int} (h : Bn w nb ao n ca m) (h0 : Nd (some (m, f))) : Dn w (.agg #[.bool false, .bool nb, .slice ao n ca, .int .i64 f]) (some (m, f)) := ⟨h0, nb, ao, n, ca, rfl, h⟩

theorem dmk_12 : dmk 12 3 = some (3, 5) := by
  have := dmk_shift 3 3 2
  rw [show (3 : Int) * 2 ^ 2 = 12 by decide] at this
  rw [this]
  exact dmk_norm (Or.inr ⟨by decide, by decide, by decide⟩)
theorem dmk_1 : dmk 1 0 = some (1, 0) := dmk_norm (Or.inr ⟨by decide, by decide, by decide⟩)
theorem dmk_3 : dmk 3 0 = some (3, 0) := dmk_norm (Or.inr ⟨by decide, by decide, by decide⟩)
theorem quo_13 : dquo (dmk 1 0) (dmk 3 0) 2 0 = some (3, -3) := by
  rw [dmk_1, dmk_3]
  have h1 : qsh 1 3 2 = 4 := by decide
  have h2 : qtail 1 3 2 = 11 := by
    unfold qtail
    rw [h1]
    decide
  have h3 : dquo (some (1, 0)) (some (3, 0)) 2 0 = drd (qsgn 1 3 (qtail 1 3 2)) (0 - 0 - qsh 1 3 2 - 1) 2 0 := rfl
  rw [h3, h1, h2, show qsgn 1 3 11 = 11 by decide]
  have h4 : tzf 11 = 0 := tzf_odd (by decide)
  have h5 : drd 11 (0 - 0 - 4 - 1) 2 0 = dmk 3 (-3) := by
    unfold drd rup
    rw [show (11 : Int).natAbs = 11 from rfl, h4, show blen 11 = 4 by decide]
    rfl
  rw [h5]
  exact dmk_norm (Or.inr ⟨by decide, by decide, by decide⟩)
theorem cmp_31 : sgn3 (sc (some (3, -3))) (sc (some (1, 0))) = -1 := by
  rw [sc_shift (m := 1) (e := 0) (f := -3) (by decide) (by decide), sc_some, sgn3_common]
  decide

theorem cmpOut_31 {e : Ending} (h : CmpOut (some (3, -3)) (dmk 1 0) e) : e = .returned (.tuple #[.int .i64 (-1), .bool true]) := by
  rw [dmk_1] at h
  rcases h with ⟨h1, _⟩ | ⟨_, _, h1⟩
  · rcases h1 with h1 | h1 <;> cases h1
  · rw [cmp_31] at h1; exact h1

set_option maxRecDepth 100000 in
set_option maxHeartbeats 4000000 in
theorem dawake_any (w : World) (hT : Table w) : Calls Tryz.prog 37 #[] w fun e w' => e = .returned (.bool true) ∧ Ext w w' := by
  have HT := Lib.hid hT; clear hT
  go_enter Tryz.func37, Tryz.ntmps37
  go_wp2_with fail
  obtain ⟨W, hW, hE, hb⟩ := limb_made w 12 (by omega) (by omega)
  rw [show (Value.int IntKind.u32 ((12 : Nat) : Int)) = .int .u32 12 from rfl] at hW
  rw [← hW]
  clear hW
  have HT1 := Lib.hid (HT.out.below hE)
  refine (dmake_any _ _ _ _ _ _ _ (bn_bg_of hb (by decide)) (by omega) (by omega) HT1.out).mono ?_
  rintro e w1 ⟨r, rfl, hr, hw1⟩
  rw [show ((12 : Nat) : Int) = 12 from rfl, dmk_12] at hr
  obtain ⟨xb, xn, xo, xk, xc, xe, rfl⟩ := hr.parts
  have ex1 : Ext w w1 := hE.trans hw1
  clear hb hE hw1 HT1
  go_upto_region 2 with fail
  obtain ⟨V, hV, hv, e1, hz1⟩ := dbox_new w1 xb xn xo xk xc xe
  rw [← hV]
  clear hV
  have hd := hr.ext hv
  have ex2 : Ext w V := ex1.trans hv
  generalize w1.heap.size = D1 at *
  clear hr ex1 hv
  go_wp2_with fail
  refine (dfromInt_any _ _ (by omega) (by omega) (HT.out.below ex2)).mono ?_
  rintro e w2 ⟨r1, rfl, hr1, hw2⟩
  have ex3 : Ext w w2 := ex2.trans hw2
  go_wp2_with fail
  refine (dfromInt_any _ _ (by omega) (by omega) (HT.out.below ex3)).mono ?_
  rintro e w3 ⟨r3, rfl, hr3, hw3⟩
  have ex4 : Ext w w3 := ex3.trans hw3
  go_wp2_with fail
  refine (dquo_any _ _ _ _ _ _ _ (hr1.ext hw3).dg hr3.dg (HT.out.below ex4)).mono ?_
  rintro e w4 ⟨rq, rfl, hq, hw4⟩
  rw [quo_13] at hq
  have ex5 : Ext w w4 := ex4.trans hw4
  have hd := ((hd.ext hw2).ext hw3).ext hw4
  have e1 := ((e1.ext hw2).ext hw3).ext hw4
  have hz4 := e1.lt
  obtain ⟨qb, qn, qo, qk, qc, qe, rfl⟩ := hq.parts
  clear hr1 hr3 hw2 hw3 hw4 ex2 ex3 ex4
  go_upto_region 3 with fail
  obtain ⟨V2, hV, hv, e2, hz2⟩ := dbox_new w4 qb qn qo qk qc qe
  rw [← hV]
  clear hV
  have hd := hd.ext hv
  have hq := hq.ext hv
  have e1 := e1.ext hv
  have ex6 : Ext w V2 := ex5.trans hv
  generalize w4.heap.size = D2 at *
  clear ex5 hv
  have hcells : ∀ wx, Ext V2 wx → (wx.cell? ⟨D1, 0, none⟩ = some (.bool xb) ∧ wx.cell? ⟨D1, 1, none⟩ = some (.bool xn) ∧ wx.cell? ⟨D1, 2, none⟩ = some (.slice xo xk xc) ∧ wx.cell? ⟨D1, 3, none⟩ = some (.int .i64 xe)) ∧
      (wx.cell? ⟨D2, 0, none⟩ = some (.bool qb) ∧ wx.cell? ⟨D2, 1, none⟩ = some (.bool qn) ∧ wx.cell? ⟨D2, 2, none⟩ = some (.slice qo qk qc) ∧ wx.cell? ⟨D2, 3, none⟩ = some (.int .i64 qe)) := fun wx h =>
    ⟨⟨(e1.ext h).c0, (e1.ext h).c1, (e1.ext h).c2, (e1.ext h).c3⟩, (e2.ext h).c0, (e2.ext h).c1, (e2.ext h).c2, (e2.ext h).c3⟩
  have HC := Lib.hid hcells; clear hcells e1 e2
  obtain ⟨⟨k0, k1, k2, k3⟩, l0, l1, l2, l3⟩ := HC.out V2 (Ext.refl _)
  have ex0 : Ext V2 V2.drew := (Below.refl _ _).drew
  go_region_held3 (fun wx => wx.cell? ⟨D2, 0, none⟩ = some (.bool qb) ∧ wx.cell? ⟨D2, 1, none⟩ = some (.bool qn) ∧ wx.cell? ⟨D2, 2, none⟩ = some (.slice qo qk qc) ∧ wx.cell? ⟨D2, 3, none⟩ = some (.int .i64 qe))
    (first | exact (HC.out _ (by assumption)).2)
    (first
      | (go_at_call 85; refine (dfromInt_any _ _ (by omega) (by omega) (HT.out.below (ex6.trans ex0))).mono ?_; rintro e w5 ⟨r5, rfl, hr5, hw5⟩; have ex7 : Ext V2 w5 := ex0.trans hw5)
      | (go_at_call 95; refine (dcmp_any _ _ _ _ _ (hq.ext ex7).dg hr5.dg (HT.out.below (ex6.trans ex7))).mono ?_; rintro e w6 ⟨hco, hw6⟩; have ex8 : Ext V2 w6 := ex7.trans hw6; obtain rfl := cmpOut_31 hco))
  have hd := hd.ext ex8
  have hq := hq.ext ex8
  have ex9 : Ext w w6 := ex6.trans ex8
  clear k0 k1 k2 k3 l0 l1 l2 l3 hco hr5 hw5 hw6 ex0 ex7
  obtain ⟨⟨k0, k1, k2, k3⟩, l0, l1, l2, l3⟩ := HC.out w6 ex8
  go_wp2_with fail
  obtain ⟨V3, hV, hE3, hb3⟩ := limb_made w6 3 (by omega) (by omega)
  rw [show (Value.int IntKind.u32 ((3 : Nat) : Int)) = .int .u32 3 from rfl] at hV
  rw [← hV]
  clear hV
  refine (kitDyad_same _ _ _ _ (hd.ext hE3) (dn_lit (f := 5) hb3 (Or.inr ⟨by decide, by decide, by decide⟩))).mono ?_
  rintro e w7 ⟨rfl, hw7⟩
  have ex10 : Ext V2 w7 := (ex8.trans hE3).trans hw7
  have hd := (hd.ext hE3).ext hw7
  have hq := (hq.ext hE3).ext hw7
  have ex11 : Ext w w7 := ex6.trans ex10
  clear k0 k1 k2 k3 l0 l1 l2 l3 ex8 ex9 hb3 hE3 hw7
  obtain ⟨⟨k0, k1, k2, k3⟩, l0, l1, l2, l3⟩ := HC.out w7 ex10
  go_wp2_with fail
  obtain ⟨V4, hV, hE4, hb4⟩ := limb_made w7 3 (by omega) (by omega)
  rw [show (Value.int IntKind.u32 ((3 : Nat) : Int)) = .int .u32 3 from rfl] at hV
  rw [← hV]
  clear hV
  refine (kitDyad_same _ _ _ _ (hq.ext hE4) (dn_lit (f := -3) hb4 (Or.inr ⟨by decide, by decide, by decide⟩))).mono ?_
  rintro e w8 ⟨rfl, hw8⟩
  have ex12 : Ext V2 w8 := (ex10.trans hE4).trans hw8
  have hd := (hd.ext hE4).ext hw8
  have ex13 : Ext w w8 := ex6.trans ex12
  clear k0 k1 k2 k3 l0 l1 l2 l3 ex10 ex11 hb4 hE4 hw8 hq
  obtain ⟨⟨k0, k1, k2, k3⟩, l0, l1, l2, l3⟩ := HC.out w8 ex12
  go_wp2_with fail
  refine (dvalid_any _ _ _ hd.dg (HT.out.below ex13)).mono ?_
  rintro e w9 ⟨rfl, hw9⟩
  go_wp2
  go_ret
  exact ⟨rfl, ex13.trans hw9⟩
end Go.Proofs.YtjohpdobnedilaaGreatDoor
