import Derived.Test.YtolghagbpnjpgaaGreatDoorFExactU13
import Derived.Test.YtolghagbpnjpgaaGreatDoorFExactU4
import Derived.Test.YtolghagbpnjpgaaGreatDoorFExactU16
import Derived.Test.YtolghagbpnjpgaaGreatDoorFExactU17
import Derived.WalkKit
import Derived.WalkSmall
import Derived.Lib.Hide
import Derived.Test.YtolghagbpnjpgaaGreatDoorFExactU20
import Derived.Test.YtolghagbpnjpgaaGreatDoorFExactU8
import Derived.Test.YtolghagbpnjpgaaGreatDoorFExactU9
import Derived.Deep.CutBlock
namespace Go.Proofs.YtolghagbpnjpgaaGreatDoor
open Go.RowKit

theorem fdivhalf_val : 0 + fla false (1 * 18446744073709551616 + 0) (-52 - 75 - (-51 - 75) - 64) false 2 = 4602678819172646912 := by decide +kernel

set_option maxRecDepth 100000 in
set_option maxHeartbeats 1000000 in
theorem fdiv_half (w : World) :
    Calls Tryz.prog 13 #[.int .u64 4607182418800017408, .int .u64 4611686018427387904, .int .i64 2] w fun r w' => r = .returned (.int .u64 4602678819172646912) ∧ Ext w w' := by
  have h1 := bits_xor_u64_nat 4607182418800017408 4611686018427387904 (by omega) (by omega)
  have hx : (4607182418800017408 : Nat) ^^^ 4611686018427387904 = 9218868437227405312 := by decide +kernel
  rw [hx, show ((4607182418800017408 : Nat) : Int) = 4607182418800017408 from rfl, show ((4611686018427387904 : Nat) : Int) = 4611686018427387904 from rfl, show ((9218868437227405312 : Nat) : Int) = 9218868437227405312 from rfl] at h1
  have CS := signOf_any 9218868437227405312 (by omega)
  rw [show sgz (fneg 9218868437227405312) = 0 by decide +kernel, show ((9218868437227405312 : Nat) : Int) = 9218868437227405312 from rfl, show ((0 : Nat) : Int) = 0 from rfl] at CS
  have NA := isNaN_any 4607182418800017408 (by omega)
  have NB := isNaN_any 4611686018427387904 (by omega)
  have IA := isInf_any 4607182418800017408 (by omega)
  have IB := isInf_any 4611686018427387904 (by omega)
  have ZA := isZero_any 4607182418800017408 (by omega)
  have ZB := isZero_any 4611686018427387904 (by omega)
  have SA := fsplit_any 4607182418800017408 (by omega)
  have SBB := fsplit_any 4611686018427387904 (by omega)
  rw [show nanB 4607182418800017408 = false by decide +kernel] at NA
  rw [show nanB 4611686018427387904 = false by decide +kernel] at NB
  rw [show infB 4607182418800017408 = false by decide +kernel] at IA
  rw [show infB 4611686018427387904 = false by decide +kernel] at IB
  rw [show zeroB 4607182418800017408 = false by decide +kernel] at ZA
  rw [show zeroB 4611686018427387904 = false by decide +kernel] at ZB
  rw [show sig 4607182418800017408 = 4503599627370496 by decide +kernel, show fsh 4607182418800017408 = 1022 by decide +kernel, show -1074 + ((1022 : Nat) : Int) = -52 by decide] at SA
  rw [show sig 4611686018427387904 = 4503599627370496 by decide +kernel, show fsh 4611686018427387904 = 1023 by decide +kernel, show -1074 + ((1023 : Nat) : Int) = -51 by decide] at SBB
  rw [show ((4607182418800017408 : Nat) : Int) = 4607182418800017408 from rfl] at NA IA ZA SA
  rw [show ((4611686018427387904 : Nat) : Int) = 4611686018427387904 from rfl] at NB IB ZB SBB
  rw [show ((4503599627370496 : Nat) : Int) = 4503599627370496 from rfl] at SA SBB
  have CQ := fquot_one (-52) (-51) (by omega) (by omega) (by omega) (by omega)
  have CR := fround_at 1 0 (-52 - 75 - (-51 - 75) - 64) false false 2 (by omega) (by omega) (by omega) (by simp) (by omega) (by omega) (z := 0) rfl 4602678819172646912 fdivhalf_val
  rw [show ((1 : Nat) : Int) = 1 from rfl, show ((0 : Nat) : Int) = 0 from rfl, show ((4602678819172646912 : Nat) : Int) = 4602678819172646912 from rfl] at CR
  have NA := Lib.hid NA; have NB := Lib.hid NB; have IA := Lib.hid IA; have IB := Lib.hid IB; have ZA := Lib.hid ZA; have ZB := Lib.hid ZB
  have SA := Lib.hid SA; have SBB := Lib.hid SBB; have CQ := Lib.hid CQ; have CR := Lib.hid CR; have CS := Lib.hid CS
  clear hx
  go_enter Tryz.func13, Tryz.ntmps13
  go_wp2_with (first | ((with_reducible refine (NA.out _).mono ?_); rintro r w1 ⟨rfl, rfl⟩) | ((with_reducible refine (NB.out _).mono ?_); rintro r w1 ⟨rfl, rfl⟩) | ((with_reducible refine (IA.out _).mono ?_); rintro r w1 ⟨rfl, rfl⟩) | ((with_reducible refine (IB.out _).mono ?_); rintro r w1 ⟨rfl, rfl⟩) | ((with_reducible refine (ZA.out _).mono ?_); rintro r w1 ⟨rfl, rfl⟩) | ((with_reducible refine (ZB.out _).mono ?_); rintro r w1 ⟨rfl, rfl⟩))
  refine (SA.out _).mono ?_
  rintro r w1 ⟨rfl, hE1⟩
  have E1 := Lib.hid hE1
  clear hE1
  go_wp2_with fail
  refine (SBB.out _).mono ?_
  rintro r w2 ⟨rfl, hE2⟩
  have E2 := Lib.hid (Ext.trans E1.out hE2)
  clear hE2
  go_wp2_with fail
  refine (CQ.out _).mono ?_
  rintro r w3 ⟨rfl, hE3⟩
  have E3 := Lib.hid (Ext.trans E2.out hE3)
  clear hE3
  go_wp2_with fail
  refine (CS.out _).mono ?_
  rintro r w4 ⟨rfl, rfl⟩
  go_wp2_with fail
  refine (CR.out _).mono ?_
  rintro r w5 ⟨rfl, hE4⟩
  go_wp2
  go_ret
  exact ⟨rfl, Ext.trans E3.out hE4⟩

set_option maxRecDepth 100000 in
set_option maxHeartbeats 2000000 in
theorem fleading_one (ao : Option Addr) (n ca : Nat) (w : World) (h : Sl w ao n ca [1]) :
    Calls Tryz.prog 84 #[.slice ao n ca, .int .i64 0] w fun r w' => r = .returned (.agg #[.int .u64 0, .int .u64 1, .int .i64 0, .bool false]) ∧ Ext w w' := by
  obtain rfl : 1 = n := h.len
  obtain ⟨bb, ob, rfl, hc⟩ := h.cells (by simp)
  have hcell : w.cell? ⟨bb, ob, none⟩ = some (.int .u32 1) := by have := hc 0 (by simp); simpa using this
  have hcap := h.cap
  have hbb0 := lt_of_cell hcell
  clear h hc
  go_enter Tryz.func84, Tryz.ntmps84
  go_upto_region 2 with fail
  obtain ⟨W, hW, hB, hr, hx, hz⟩ := boxes_nn w 0 0 0 false 0 0 0 false
  rw [← hW]
  clear hW
  have hcell := (show W.cell? ⟨bb, ob, none⟩ = some (.int .u32 1) by rw [hB.cell (p := ⟨bb, ob, none⟩) hbb0]; exact hcell)
  generalize hBe : w.heap.size = B at *
  have HBe := Lib.hid hBe
  clear hBe
  have o0 : bits BinOp.or IntKind.u64 0 0 = 0 := by decide
  have o1 : bits BinOp.or IntKind.u64 0 1 = 1 := by decide
  go_upto_region 3 with fail
  go_loopw [6] (fun rest wx => ((rest = .int .i64 1 ∧ NBox wx (B + 1) 0 0 0 false) ∨ (rest = .int .i64 0 ∧ NBox wx (B + 1) 0 1 0 false)) ∧ NBox wx B 0 0 0 false ∧ Below B w wx ∧ wx.cell? ⟨bb, ob, none⟩ = some (.int .u32 1)) (fun rest _ => (intOf rest).toNat)
  case atStart => exact ⟨Or.inl ⟨rfl, hx⟩, hr, hB, hcell⟩
  case round =>
    clear hx hr hB hcell
    obtain ⟨⟨rfl, hx⟩ | ⟨rfl, hx⟩, hr, hB, hcell⟩ := hrel
    · have c0 := hx.c0
      have c1 := hx.c1
      have c2 := hx.c2
      have c3 := hx.c3
      have g0 := hx.f 0
      have g1 := hx.f 1
      go_wp2
      go_region
      go_wp2
      go_roundw
      case rel =>
        have ho := only_set2 wr (B + 1) (.int .u64 0) (.int .u64 1)
        exact ⟨Or.inr ⟨rfl, (hx.stored01 0 1).drew⟩, hr.only ho.drew (by omega), hB.trans (ho.drew.below (B := B) (by omega)), (World.cell?_of_block (w := wr) (ho.drew.block bb (by omega))).trans hcell⟩
      case measure => simp [intOf] <;> omega
    · have c0 := hx.c0
      have c1 := hx.c1
      have c2 := hx.c2
      have c3 := hx.c3
      have g2 := hx.f 2
      go_upto_region 13 with fail
      have x1 := hx.stored2 0
      have r1 := hr.only (only_set1 wr (B + 1) 2 (.int .i64 0)) (by omega)
      have b1 := hB.trans ((only_set1 wr (B + 1) 2 (.int .i64 0)).below (B := B) (by omega))
      generalize wr.setCell ⟨B + 1, 2, none⟩ (.int .i64 0) = W3 at *
      clear c0 c1 c2 c3 g2 hx hr hB hcell
      have c0 := x1.c0
      have c1 := x1.c1
      have c2 := x1.c2
      have c3 := x1.c3
      have q0 := r1.c0
      have q1 := r1.c1
      have q2 := r1.c2
      have q3 := r1.c3
      have p0 := r1.f 0
      have p1 := r1.f 1
      have p2 := r1.f 2
      have p3 := r1.f 3
      have z := r1.stored 0 1 0 false
      have z0 := z.c0
      have z1 := z.c1
      have z2 := z.c2
      have z3 := z.c3
      have B1 := Lib.hid (b1.trans ((only_nset4 W3 B (.int .u64 0) (.int .u64 1) (.int .i64 0) (.bool false)).below (B := B) (Nat.le_refl _)))
      clear z x1 r1 b1
      go_wp2
      refine bodyPost_ret (v := .agg #[.int .u64 0, .int .u64 1, .int .i64 0, .bool false]) (by simp [results, Tryz.results84, go_sem, z0, z1, z2, z3]) rfl ⟨rfl, ?_⟩
      show Below _ _ _
      rw [HBe.out]
      exact B1.out

set_option maxRecDepth 100000 in
theorem signOfDyad_pos (bb : Bool) (ao : Option Addr) (n ca : Nat) (f : Int) (w : World) :
    Calls Tryz.prog 85 #[.agg #[.bool bb, .bool false, .slice ao n ca, .int .i64 f]] w fun e w' => e = .returned (.int .u64 0) ∧ Ext w w' := by
  go_enter Tryz.func85, Tryz.ntmps85
  go_upto_region 1 with fail
  obtain ⟨W, hW, hB, hx, hz⟩ := dbox_new w bb false ao n ca f
  rw [← hW]
  clear hW
  have HB := Lib.hid (show Ext w W from hB)
  clear hB
  generalize w.heap.size = B at *
  have c1 := hx.c1
  go_wp2
  go_ret
  exact ⟨rfl, HB.out⟩

theorem fone_val : 0 + fla false (0 * 18446744073709551616 + 1) 0 false 1 = 4607182418800017408 := by decide +kernel

set_option maxRecDepth 100000 in
set_option maxHeartbeats 4000000 in
theorem fround_one (v : Value) (w : World) (hv : Dn w v (some (1, 0))) (hT : Table w) :
    Calls Tryz.prog 21 #[v, .int .i64 1] w fun r w' => r = .returned (.int .u64 4607182418800017408) ∧ Ext w w' := by
  obtain ⟨vb, vn, vo, vk, vc, ve, rfl⟩ := hv.parts
  have HT := Lib.hid hT
  clear hT
  go_enter Tryz.func21, Tryz.ntmps21
  go_upto_region 1 with fail
  obtain ⟨W, hW, hB, hx, hz⟩ := dbox_new w vb vn vo vk vc ve
  rw [← hW]
  clear hW
  have hd := hv.dg.ext (show Ext w W from hB)
  have hTW := HT.out.below hB
  generalize hBe : w.heap.size = B at *
  have HBe := Lib.hid hBe
  clear hBe hv
  have c0 := hx.c0
  have c1 := hx.c1
  have c2 := hx.c2
  have c3 := hx.c3
  have HD := Lib.hid hd
  have HTW := Lib.hid hTW
  clear hd hTW
  go_wp2_with fail
  refine (dnorm_any _ _ _ HD.out HTW.out).mono ?_
  rintro r w1 ⟨v1, rfl, hd, hE⟩
  obtain ⟨nb, nn, no, nk, nc, ne, rfl⟩ := hd.parts
  obtain ⟨h1, h2, h3⟩ := hd.get
  obtain rfl : nb = false := h1
  obtain rfl : ne = 0 := h2
  have hbn : Bn w1 nn no nk nc 1 := h3
  have hnn : nn = false := by rw [hbn.neg]; rfl
  subst hnn
  have x1 := hx.below hE
  have b1 : Below B w w1 := hB.trans (Below.mono hE (by omega))
  clear c0 c1 c2 c3 hd hx hB hE
  have g0 := x1.f 0
  have g1 := x1.f 1
  have g2 := x1.f 2
  have g3 := x1.f 3
  have c0 := x1.c0
  have c1 := x1.c1
  have c2 := x1.c2
  have c3 := x1.c3
  go_upto_region 2 with fail
  have hsl := hbn.sl
  rw [show (1 : Int).natAbs = 1 from rfl, show limbs 1 = [1] by rw [limbs_pos (by omega)]; simp [limbs_zero]] at hsl
  have ho := only_set4 w1 B (.bool false) (.bool false) (.slice no nk nc) (.int .i64 0)
  have x2 := x1.stored false false no nk nc 0
  have s2 := hsl.only_dbox x1 ho
  have n2 := hbn.only_dbox x1 ho
  have b2 := b1.trans (ho.below (B := B) (Nat.le_refl _))
  generalize (((w1.setCell ⟨B, 0, none⟩ (.bool false)).setCell ⟨B, 1, none⟩ (.bool false)).setCell ⟨B, 2, none⟩ (.slice no nk nc)).setCell ⟨B, 3, none⟩ (.int .i64 0) = W2 at *
  clear c0 c1 c2 c3 g0 g1 g2 g3 x1 b1 ho hsl hbn
  have hnk : nk ≤ 1000000000 := by have := s2.len; simp at this; omega
  have CS := Lib.hid (fun wx (h : Ext W2 wx) => sign_any false no nk nc 1 wx ((n2.below h).bg hnk))
  have CL := Lib.hid (fun wx (h : Ext W2 wx) => fleading_one no nk nc wx (s2.below h))
  have CR := fround_at 0 1 0 false false 1 (by omega) (by omega) (by omega) (by simp) (by omega) (by omega) (z := 0) rfl 4607182418800017408 fone_val
  rw [show ((1 : Nat) : Int) = 1 from rfl, show ((0 : Nat) : Int) = 0 from rfl, show ((4607182418800017408 : Nat) : Int) = 4607182418800017408 from rfl] at CR
  have CR := Lib.hid CR
  have CG := Lib.hid (signOfDyad_pos false no nk nc 0)
  have hcells : ∀ wx, Ext W2 wx → (wx.cell? ⟨B, 0, none⟩ = some (.bool false) ∧ wx.cell? ⟨B, 1, none⟩ = some (.bool false) ∧ wx.cell? ⟨B, 2, none⟩ = some (.slice no nk nc) ∧ wx.cell? ⟨B, 3, none⟩ = some (.int .i64 0)) := fun wx h => ⟨(x2.ext h).c0, (x2.ext h).c1, (x2.ext h).c2, (x2.ext h).c3⟩
  have HC := Lib.hid hcells
  have B2 := Lib.hid (And.intro b2 x2.lt)
  clear hcells s2 n2 x2 b2 hnk
  obtain ⟨c0, c1, c2, c3⟩ := HC.out W2 (Ext.refl _)
  go_wp2_with fail
  refine (CS.out _ (Ext.refl _)).mono ?_
  rintro r w3 ⟨rfl, hE⟩
  have E3 : Ext W2 w3 := hE
  have v1 : sgn3 1 0 = 1 := by decide
  clear c0 c1 c2 c3 hE
  obtain ⟨c0, c1, c2, c3⟩ := HC.out w3 E3
  go_upto_region 6 with fail
  clear v1
  have e0 : Ext W2 w3.drew := Ext.trans E3 ((Below.refl _ _).drew)
  go_region_held3 (fun wx => wx.cell? ⟨B, 0, none⟩ = some (.bool false) ∧ wx.cell? ⟨B, 1, none⟩ = some (.bool false) ∧ wx.cell? ⟨B, 2, none⟩ = some (.slice no nk nc) ∧ wx.cell? ⟨B, 3, none⟩ = some (.int .i64 0))
    (first | exact HC.out _ (by assumption))
    (first
      | (go_at_call 84; refine (CL.out _ (by assumption)).mono ?_; rintro e wn ⟨rfl, hE1⟩; have e1 : Ext W2 wn := Ext.trans (by assumption) hE1)
      | (go_at_call 85; refine (CG.out _).mono ?_; rintro e wn ⟨rfl, hE1⟩; have e1 : Ext W2 wn := Ext.trans (by assumption) hE1)
      | (go_at_call 74; refine (CR.out _).mono ?_; rintro e wn ⟨rfl, hE1⟩; have e1 : Ext W2 wn := Ext.trans (by assumption) hE1))
  all_goals
    have EF : Ext W2 wn := by assumption
    go_wp2
    go_ret
    refine ⟨rfl, ?_⟩
    show Below _ _ _
    rw [HBe.out]
    exact B2.out.1.trans (Below.mono EF (by have := B2.out.2; omega))

set_option maxRecDepth 100000 in
set_option maxHeartbeats 4000000 in
theorem fawake_any (w : World) (hT : Table w) : Calls Tryz.prog 19 #[] w fun e w' => e = .returned (.bool true) ∧ Ext w w' := by
  have C1 := fadd_any 4607182418800017408 4607182418800017408 0 (by omega) (by omega)
  rw [show faddF 4607182418800017408 4607182418800017408 0 = 4611686018427387904 by decide +kernel, show ((4607182418800017408 : Nat) : Int) = 4607182418800017408 from rfl, show ((4611686018427387904 : Nat) : Int) = 4611686018427387904 from rfl] at C1
  have C2 := fmul_any 1 1 2 (by omega) (by omega)
  rw [show fmulF 1 1 2 = 1 by decide +kernel, show ((1 : Nat) : Int) = 1 from rfl] at C2
  have C3 := kind_any 9218868437227405312 (by omega)
  rw [show fkind 9218868437227405312 = 2 by decide +kernel, show ((9218868437227405312 : Nat) : Int) = 9218868437227405312 from rfl] at C3
  have C1 := Lib.hid C1
  have C2 := Lib.hid C2
  have C3 := Lib.hid C3
  have HT := Lib.hid hT
  clear hT
  go_enter Tryz.func19, Tryz.ntmps19
  go_wp2_with fail
  refine (C1.out _).mono ?_
  rintro r w1 ⟨rfl, hE1⟩
  have E1 := Lib.hid hE1
  clear hE1
  go_wp2_with fail
  refine (fdiv_half _).mono ?_
  rintro r w2 ⟨rfl, hE2⟩
  have E2 := Lib.hid (Ext.trans E1.out hE2)
  clear hE2
  go_wp2_with fail
  refine (dfromInt_any 1 _ (by omega) (by omega) (HT.out.below E2.out)).mono ?_
  rintro r w3 ⟨v, rfl, hv, hE3⟩
  rw [show dmk 1 0 = some (1, 0) from dmk_norm (Or.inr ⟨by decide, by decide, by decide⟩)] at hv
  have E3 := Lib.hid (Ext.trans E2.out hE3)
  have HV := Lib.hid hv
  clear hE3 hv
  go_wp2_with fail
  refine (fround_one v _ HV.out (HT.out.below E3.out)).mono ?_
  rintro r w4 ⟨rfl, hE4⟩
  have E4 := Lib.hid (Ext.trans E3.out hE4)
  clear hE4
  go_wp2_with fail
  refine (C3.out _).mono ?_
  rintro r w5 ⟨rfl, rfl⟩
  go_wp2_with fail
  refine (C2.out _).mono ?_
  rintro r w6 ⟨rfl, hE5⟩
  go_wp2
  go_ret
  exact ⟨rfl, Ext.trans E4.out hE5⟩
end Go.Proofs.YtolghagbpnjpgaaGreatDoor

namespace Go.Proofs.YtolghagbpnjpgaaGreatDoor
open Go.RowKit

/-- a dyad rounded -/
def frdF (d : Dy) (mode : Int) : Nat :=
  match d with
  | none => 9221120237041090560
  | some (m, e) => rz m e mode

theorem Dg.parts {w : World} {v : Value} {d : Dy} (h : Dg w v d) : ∃ bb nb ao n ca f, v = .agg #[.bool bb, .bool nb, .slice ao n ca, .int .i64 f] := by
  obtain ⟨bb, nb, ao, n, ca, x, f, h1, h2⟩ := h
  exact ⟨_, _, _, _, _, _, h1⟩

end Go.Proofs.YtolghagbpnjpgaaGreatDoor

namespace Go.Proofs.YtolghagbpnjpgaaGreatDoor
open Go.RowKit

theorem Box.ext' {w w' : World} {g : Nat} {nb : Bool} {ao : Option Addr} {n ca : Nat} (h : Box w g nb ao n ca) (he : Ext w w') : Box w' g nb ao n ca := h.below he
theorem Bg.ext {w w' : World} {nb : Bool} {ao : Option Addr} {n ca : Nat} {x : Int} (h : Bg w nb ao n ca x) (he : Ext w w') : Bg w' nb ao n ca x := h.below he

end Go.Proofs.YtolghagbpnjpgaaGreatDoor

namespace Go.Proofs.YtolghagbpnjpgaaGreatDoor
open Go.RowKit

theorem Dn.num {w : World} {bb nb : Bool} {ao : Option Addr} {n ca : Nat} {f : Int} {d : Dy} (h : Dn w (.agg #[.bool bb, .bool nb, .slice ao n ca, .int .i64 f]) d) : bb = d.isNone ∧ f = dx d ∧ Bn w nb ao n ca (dm d) := h.get

end Go.Proofs.YtolghagbpnjpgaaGreatDoor

namespace Go.Proofs.YtolghagbpnjpgaaGreatDoor
open Go.RowKit

theorem dn_lit {w : World} {nb : Bool} {ao : Option Addr} {n ca : Nat} {m f : Int} (h : Bn w nb ao n ca m) (h0 : Nd (some (m, f))) : Dn w (.agg #[.bool false, .bool nb, .slice ao n ca, .int .i64 f]) (some (m, f)) := ⟨h0, nb, ao, n, ca, rfl, h⟩

end Go.Proofs.YtolghagbpnjpgaaGreatDoor

namespace Go.Proofs.YtolghagbpnjpgaaGreatDoor

/-- the multiples of 2^(k+1) around x, which is none of them -/
structure Around (x : Int) (p k : Nat) (q r : Int) : Prop where
  eq : x = q * 2 ^ (k + 1) + r
  pos : 0 < r
  lt : r < 2 ^ (k + 1)
  lo : -2 ^ p ≤ q
  hi : q + 1 ≤ 2 ^ p

end Go.Proofs.YtolghagbpnjpgaaGreatDoor

namespace Go.Proofs.YtolghagbpnjpgaaGreatDoor
open Go.RowKit

/-- a value, the dyad that it reads as, is it normalized -/
structure DEnt where
  v : Value
  d : Dy
  c : Bool

def DEnt.Ok (w : World) (p : DEnt) : Prop := Dg w p.v p.d ∧ (p.c = true → Dn w p.v p.d)

theorem DEnt.Ok.ext {w w' : World} {p : DEnt} (h : p.Ok w) (he : Ext w w') : p.Ok w' := ⟨h.1.ext he, fun e => (h.2 e).ext he⟩
/-- what is at hand -/
structure DSt (W w : World) (L : List DEnt) : Prop where
  ext : Ext W w
  tab : Table w
  bag : ∀ p ∈ L, p.Ok w

theorem DSt.step {W w w' : World} {L : List DEnt} (h : DSt W w L) (he : Ext w w') : DSt W w' L := ⟨h.ext.trans he, h.tab.below he, fun p hp => (h.bag p hp).ext he⟩
theorem DSt.drew {W w : World} {L : List DEnt} (h : DSt W w L) : DSt W w.drew L := h.step (Below.refl _ _).drew
theorem DSt.alloc {W w : World} {L : List DEnt} (h : DSt W w L) (o : Obj) : DSt W (w.alloc o) L := h.step ((Below.refl _ w).alloc (Nat.le_refl _) o)
theorem DSt.dn {W w : World} {L : List DEnt} {v : Value} {d : Dy} (h : DSt W w L) (h1 : ⟨v, d, true⟩ ∈ L) : Dn w v d := (h.bag _ h1).2 rfl

section
variable {W w : World} {L : List DEnt} {u v : Value} {d d' : Dy} {c c' : Bool}

end
end Go.Proofs.YtolghagbpnjpgaaGreatDoor

namespace Go.Proofs.YtolghagbpnjpgaaGreatDoor

/-- how many bits the integer of a slim dyad has at most -/
def SB : Nat := 640 + 4000
section
variable {a b c : Dy}
end

end Go.Proofs.YtolghagbpnjpgaaGreatDoor
