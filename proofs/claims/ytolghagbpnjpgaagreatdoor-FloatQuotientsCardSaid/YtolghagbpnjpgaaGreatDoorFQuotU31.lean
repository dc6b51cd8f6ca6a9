import Derived.Test.YtolghagbpnjpgaaGreatDoorFQuotU30
import Derived.Test.YtolghagbpnjpgaaGreatDoorFQuotU29
import Derived.Test.YtolghagbpnjpgaaGreatDoorFQuotU24
import Derived.Test.YtolghagbpnjpgaaGreatDoorFQuotU13
namespace Go.Proofs.YtolghagbpnjpgaaGreatDoor
open Go.RowKit

theorem boxes_ddn (w : World) (bb nb : Bool) (ao : Option Addr) (n cap : Nat) (e : Int) (cb mb : Bool) (bo : Option Addr) (m cap' : Nat) (f : Int) :
    ∃ W, W = ((w.alloc (.cells #[.bool bb, .bool nb, .slice ao n cap, .int .i64 e] 33)).alloc (.cells #[.bool cb, .bool mb, .slice bo m cap', .int .i64 f] 33)).alloc (.cells #[.int .u64 0, .int .u64 0, .int .i64 0, .bool false] 58) ∧ Below w.heap.size w W ∧
      DBox W w.heap.size bb nb ao n cap e ∧ DBox W (w.heap.size + 1) cb mb bo m cap' f ∧ NBox W (w.heap.size + 1 + 1) 0 0 0 false ∧ w.heap.size + 3 ≤ W.heap.size := by
  refine ⟨_, rfl, (((Below.refl _ w).alloc (Nat.le_refl _) _).alloc (by simp) _).alloc (by simp; omega) _, ?_, ?_, ?_, by simp⟩
  · exact (DBox.new w bb nb ao n cap e).below (((Below.refl _ _).alloc (Nat.le_refl _) _).alloc (by simp) _)
  · have := DBox.new (w.alloc (.cells #[.bool bb, .bool nb, .slice ao n cap, .int .i64 e] 33)) cb mb bo m cap' f
    have h := this.below ((Below.refl _ _).alloc (Nat.le_refl _) (.cells #[.int .u64 0, .int .u64 0, .int .i64 0, .bool false] 58))
    simpa using h
  · have := NBox.new ((w.alloc (.cells #[.bool bb, .bool nb, .slice ao n cap, .int .i64 e] 33)).alloc (.cells #[.bool cb, .bool mb, .slice bo m cap', .int .i64 f] 33)) 0 0 0 false
    simpa using this
theorem int_div_nat (X : Int) (C : Nat) (h : 0 ≤ X) : (X / (C : Int)).natAbs = X.toNat / C ∧ (X % (C : Int)).natAbs = X.toNat % C := by
  obtain ⟨n, rfl⟩ := Int.eq_ofNat_of_zero_le h
  rw [Int.toNat_natCast]
  exact ⟨by rw [← Int.natCast_ediv, Int.natAbs_natCast], by rw [← Int.natCast_emod, Int.natAbs_natCast]⟩

set_option maxRecDepth 100000 in
set_option maxHeartbeats 8000000 in
theorem flongquo_any (xn yn : Bool) (xo yo : Option Addr) (xk yk xc yc : Nat) (x y : Int) (A C : Nat) (xe ye : Int) (w : World) (ga : Bg w xn xo xk xc x) (gb : Bg w yn yo yk yc y) (hA : x.natAbs = A) (hC : y.natAbs = C) (hodd : A % 2 = 1) (hC0 : C ≠ 0) (hnx : blen A ≤ 140000) (hny : blen C ≤ 140000) (hx0 : -70000 ≤ xe) (hx1 : xe ≤ 70000) (hy0 : -70000 ≤ ye) (hy1 : ye ≤ 70000) (hT : Table w) :
    Calls Tryz.prog 91 #[.agg #[.bool false, .bool xn, .slice xo xk xc, .int .i64 xe], .agg #[.bool false, .bool yn, .slice yo yk yc, .int .i64 ye]] w fun r w' => ∃ (H L : Nat) (E : Int) (T : Bool),
      r = .returned (.agg #[.int .u64 (H : Int), .int .u64 (L : Int), .int .i64 E, .bool T]) ∧ H < 18446744073709551616 ∧ L < 18446744073709551616 ∧ QuoG A C (xe - ye) (H * 18446744073709551616 + L) E T ∧ -1000000 ≤ E ∧ E ≤ 1000000 ∧ Ext w w' := by
  have ga := bg_abs ga
  have gb := bg_abs gb
  rw [hA] at ga
  rw [hC] at gb
  clear hA hC
  have HT0 := Lib.hid hT
  clear hT
  go_enter Tryz.func91, Tryz.ntmps91
  go_upto_region 1 with fail
  obtain ⟨W, hW, hB, hbx, hby, rN, hz⟩ := boxes_ddn w false xn xo xk xc xe false yn yo yk yc ye
  rw [← hW]
  clear hW
  have gm := ga.below hB
  have gm' := gb.below hB
  generalize hBe : w.heap.size = B at *
  have HBe := Lib.hid hBe; clear hBe ga gb
  have k1 := hbx.c1
  have l1 := hby.c1
  have f1 := hbx.f 1
  have g1 := hby.f 1
  go_upto_region 2 with fail
  have o1 := only_set1 W B 1 (.bool false)
  have gm := gm.only_dbox hbx o1
  have gm' := gm'.only_dbox hbx o1
  have bY := hby.only o1 (by omega)
  have rN := rN.only o1 (by omega)
  have bx := hbx.stored1 false
  have hB3 := hB.trans (o1.below (B := B) (Nat.le_refl B))
  have hz3 := o1.size
  clear o1 k1 l1 f1 g1 hB hbx hby
  generalize W.setCell ⟨B, 1, none⟩ (.bool false) = w3 at *
  have o2 := only_set1 w3 (B + 1) 1 (.bool false)
  have gm := gm.only_dbox bY o2
  have gm' := gm'.only_dbox bY o2
  have bx := bx.only o2 (by omega)
  have rN := rN.only o2 (by omega)
  have bY := bY.stored1 false
  have hB4 := hB3.trans (o2.below (B := B) (by omega))
  have hz4 := o2.size
  clear o2 hB3
  generalize w3.setCell ⟨B + 1, 1, none⟩ (.bool false) = w4 at *
  have hT4 := (show Table w from HT0.out).below (w' := w4) (by rw [HBe.out]; exact hB4)
  have HT := Lib.hid hT4; clear hT4
  have hcells : ∀ wx, Ext w4 wx → (wx.cell? ⟨B, 0, none⟩ = some (.bool false) ∧ wx.cell? ⟨B, 1, none⟩ = some (.bool false) ∧ wx.cell? ⟨B, 2, none⟩ = some (.slice xo xk xc) ∧ wx.cell? ⟨B, 3, none⟩ = some (.int .i64 xe)) ∧
  (wx.cell? ⟨B + 1, 0, none⟩ = some (.bool false) ∧ wx.cell? ⟨B + 1, 1, none⟩ = some (.bool false) ∧ wx.cell? ⟨B + 1, 2, none⟩ = some (.slice yo yk yc) ∧ wx.cell? ⟨B + 1, 3, none⟩ = some (.int .i64 ye)) := fun wx h =>
    ⟨⟨(bx.ext h).c0, (bx.ext h).c1, (bx.ext h).c2, (bx.ext h).c3⟩, ⟨(bY.ext h).c0, (bY.ext h).c1, (bY.ext h).c2, (bY.ext h).c3⟩⟩
  have HC := Lib.hid hcells; clear hcells
  have ex0 : Ext w4 w4.drew := (Below.refl _ _).drew
  obtain ⟨⟨k0, k1, k2, k3⟩, l0, l1, l2, l3⟩ := HC.out w4 (Ext.refl _)
  obtain ⟨bm, hbm⟩ : ∃ bm, blen A = bm := ⟨_, rfl⟩
  obtain ⟨bm', hbm'⟩ : ∃ bm, blen C = bm := ⟨_, rfl⟩
  obtain ⟨sh, hsh⟩ : ∃ sh : Int, sh = 127 + (bm' : Int) - bm := ⟨_, rfl⟩
  have HG := Lib.hid (fun (q : Nat) (t : Bool) (hq : q = (shf (A : Int) sh).toNat / C) (ht : t = (decide (sh < 0) || decide ((shf (A : Int) sh).toNat % C ≠ 0))) => quoG_long (e := xe - ye) hodd hC0 (by rw [hbm, hbm']; exact hsh) hq ht)
  rw [hbm] at hnx
  rw [hbm'] at hny
  have HBM : Hid (blen ((A : Int)).natAbs = bm) := Lib.hid (by rw [Int.natAbs_natCast]; exact hbm)
  have HBM' : Hid (blen ((C : Int)).natAbs = bm') := Lib.hid (by rw [Int.natAbs_natCast]; exact hbm')
  have hsh0 : -1000000 ≤ sh := by omega
  have hsh1 : sh ≤ 1000000 := by omega
  have hsh2 : sh ≤ 140127 := by omega
  have hsh3 : -140000 ≤ sh := by omega
  have w2' : IntKind.i64.wrap (127 + (bm' : Int)) = 127 + bm' := IntWalk.i64_in _ ⟨by omega, by omega⟩
  have w3' : IntKind.i64.wrap (127 + (bm' : Int) - bm) = sh := by rw [hsh]; exact IntWalk.i64_in _ ⟨by omega, by omega⟩
  clear hbm hbm' hsh hodd
  go_region_held3 (fun wx => (wx.cell? ⟨B, 0, none⟩ = some (.bool false) ∧ wx.cell? ⟨B, 1, none⟩ = some (.bool false) ∧ wx.cell? ⟨B, 2, none⟩ = some (.slice xo xk xc) ∧ wx.cell? ⟨B, 3, none⟩ = some (.int .i64 xe)) ∧
  (wx.cell? ⟨B + 1, 0, none⟩ = some (.bool false) ∧ wx.cell? ⟨B + 1, 1, none⟩ = some (.bool false) ∧ wx.cell? ⟨B + 1, 2, none⟩ = some (.slice yo yk yc) ∧ wx.cell? ⟨B + 1, 3, none⟩ = some (.int .i64 ye)))
    (first | exact HC.out _ (by assumption))
    (first
      | (go_at_call 90; refine (bitLenOut_any _ _ _ _ _ _ (by exact gm'.ext ex0)).mono ?_; rintro e w5 ⟨rfl, hw5⟩; rw [HBM'.out]; have ex1 : Ext w4 w5 := ex0.trans hw5)
      | (go_at_call 90; refine (bitLenOut_any _ _ _ _ _ _ (by exact gm.ext ex1)).mono ?_; rintro e w6 ⟨rfl, hw6⟩; rw [HBM.out]; have ex2 : Ext w4 w6 := ex1.trans hw6))
  have hB5 := (bnext hB4 (by omega) ex2).1
  have gm6 := gm.ext ex2
  have hT6 := HT.out.below ex2
  have hzz6 := Below.size ex2
  clear k0 k1 k2 k3 l0 l1 l2 l3 ex0 ex1 hw5 hw6 w2' w3' hB4
  obtain ⟨⟨k0, k1, k2, k3⟩, l0, l1, l2, l3⟩ := HC.out w6 ex2
  have HT6 := Lib.hid hT6; clear hT6
  have hbs := blen_shf (A : Int) sh
  rw [HBM.out] at hbs
  have hA0 := shf_nonneg (x := (A : Int)) (s := sh) (Int.natCast_nonneg _)
  go_wp2_with fail
  refine (shift_any _ _ _ _ _ sh _ gm6 hsh0 hsh1 HT6.out).mono ?_
  rintro e w7 ⟨an, ao', al, ac, rfl, hA, hw7⟩
  generalize hAv : shf (A : Int) sh = X at *
  have hal : al ≤ 40000 := by rw [← hA.sl.len]; exact limbs_of_blen (by omega)
  have ex3 : Ext w4 w7 := ex2.trans hw7
  obtain ⟨hB6, hB6'⟩ := bnext hB5 (by omega) hw7
  have gA := bn_bg_of hA (by omega)
  clear k0 k1 k2 k3 l0 l1 l2 l3 hA hAv gm6
  go_upto_region 4 with fail
  obtain ⟨V1, hV, hv, e1, hz7⟩ := box_new w7 an ao' al ac
  rw [← hV]
  clear hV
  have gA := gA.below hv
  have ex4 := ex3.trans hv
  have gy := gm'.ext ex4
  obtain ⟨hB7, hB7'⟩ := bnext hB6 hB6' hv
  have hD1 : B + 3 ≤ w7.heap.size := by have := Below.size ex3; omega
  generalize w7.heap.size = D1 at *
  obtain ⟨⟨k0, k1, k2, k3⟩, l0, l1, l2, l3⟩ := HC.out V1 ex4
  have m0 := e1.c0
  have m1 := e1.c1
  have hmy0 : (C : Int) ≠ 0 := by omega
  go_wp2_with fail
  refine (divMod_any _ _ _ _ _ _ _ _ _ _ _ gA gy hmy0 (by omega) (div_says _ _ (by omega))).mono ?_
  rintro e w8 ⟨qn, qo, qk, qc, rn, ro, rk, rc, rfl, hq, hr, hw8⟩
  have ex5 : Ext w4 w8 := ex4.trans hw8
  obtain ⟨hB8, hB8'⟩ := bnext hB7 hB7' hw8
  obtain ⟨i1, i2⟩ := int_div_nat X C hA0
  have hrb : blen (X % (C : Int)).natAbs ≤ 400000 := Nat.le_trans (blen_le_of_lt (Nat.lt_of_le_of_lt (show (X % (C : Int)).natAbs ≤ C by rw [i2]; exact Nat.le_of_lt (Nat.mod_lt _ (Nat.pos_of_ne_zero hC0))) (blen_lt _))) (by have := HBM'.out; rw [Int.natAbs_natCast] at this; omega)
  have gr := bn_bg_of hr (by omega)
  obtain ⟨Q, hQ⟩ : ∃ Q, X.toNat / C = Q := ⟨_, rfl⟩
  have hqk : qk ≤ 100000 := by
    rw [← hq.sl.len]
    refine Nat.le_trans (limbs_of_blen (k := 40000) ?_) (by omega)
    rw [i1]
    refine Nat.le_trans (blen_le_of_lt (Nat.lt_of_le_of_lt (Nat.div_le_self _ _) (show X.toNat < 2 ^ blen X.natAbs by rw [show X.toNat = X.natAbs by omega]; exact blen_lt _))) (by omega)
  have hsl := hq.sl
  rw [i1, hQ] at hsl
  clear k0 k1 k2 k3 l0 l1 l2 l3 hr hq m0 m1 e1 hmy0
  go_upto_region 5 with fail
  obtain ⟨V2, hV, hv2, e2, e3⟩ := boxes_bb w8 qn qo qk qc rn ro rk rc
  rw [← hV]
  clear hV
  have hsl := hsl.below hv2
  have gr := gr.below hv2
  have ex6 : Ext w4 V2 := ex5.trans hv2
  obtain ⟨hB9, hB9'⟩ := bnext hB8 hB8' hv2
  have hD2 : B + 3 ≤ w8.heap.size := by have := Below.size ex5; omega
  generalize w8.heap.size = D2 at *
  have hR0 : decide (X.toNat % C ≠ 0) = (sgn3 (X % (C : Int)) 0 != 0) := by
    have h0 : 0 ≤ X % (C : Int) := Int.emod_nonneg _ (by omega)
    rw [← i2]
    generalize X % (C : Int) = r at *
    by_cases h : r = 0
    · subst h; rfl
    · rw [decide_eq_true (by omega)]
      unfold sgn3
      rw [if_neg (by omega), if_pos (by omega)]
      rfl
  generalize X % (C : Int) = R at *
  obtain ⟨sr, hsr⟩ : ∃ sr, sgn3 R 0 = sr := ⟨_, rfl⟩
  rw [hsr] at hR0
  have CS := Lib.hid (fun wx (h : Ext V2 wx) => sign_any _ _ _ _ _ wx (gr.ext h))
  rw [hsr] at CS
  have GQ := fun (t : Bool) (ht : t = (decide (sh < 0) || (sr != 0))) => HG.out Q t hQ.symm (by rw [ht, hR0])
  have GQ := Lib.hid GQ
  obtain ⟨g1, g2, g3⟩ := GQ.out _ rfl
  have CL := Lib.hid (fun (e : Int) (h0 : -100000000 ≤ e) (h1 : e ≤ 100000000) => flead_top qo qk qc Q e V2 hsl ⟨fun h => by rw [h] at g3; exact absurd g3 (by decide), Or.inr g2⟩ hqk h0 h1)
  have HQ2 := Lib.hid g2
  obtain ⟨⟨k0, k1, k2, k3⟩, l0, l1, l2, l3⟩ := HC.out V2 ex6
  have m0 := e2.c0
  have m1 := e2.c1
  have n0 := e3.c0
  have n1 := e3.c1
  have w4' : IntKind.i64.wrap (xe - ye) = xe - ye := IntWalk.i64_in _ ⟨by omega, by omega⟩
  have w5' : IntKind.i64.wrap (xe - ye - sh) = xe - ye - sh := IntWalk.i64_in _ ⟨by omega, by omega⟩
  have CL := Lib.hid (CL.out (xe - ye - sh) (by omega) (by omega))
  clear hsl gr HG g1 g2 g3 i1 i2 hR0 hsr hQ hrb
  go_wp2_with fail
  refine CL.out.mono ?_
  rintro e w9 ⟨H, L, E, T, j, rfl, hH, hL, hVal, -, hE, -, -, hj, -, hw9⟩
  obtain rfl : j = 0 := hj HQ2.out
  rw [Nat.pow_zero, Nat.div_one] at hVal
  obtain rfl : E = xe - ye - sh := by rw [hE]; omega
  have ex7 : Ext w4 w9 := ex6.trans hw9
  obtain ⟨hB10, hB10'⟩ := bnext hB9 hB9' hw9
  have n2 := e3.ext' hw9
  have ex72 : Ext V2 w9 := hw9
  clear k0 k1 k2 k3 l0 l1 l2 l3 m0 m1 n0 n1 hw9 e2 e3 CL hE hj w4' w5'
  have HVAL := Lib.hid hVal
  clear hVal
  obtain ⟨E, hEe⟩ : ∃ E, xe - ye - sh = E := ⟨_, rfl⟩
  have hE0 : -1000000 ≤ E := by omega
  have hE1 : E ≤ 1000000 := by omega
  rw [hEe] at GQ
  rw [hEe]
  clear hEe
  go_upto_region 6 with fail
  obtain ⟨V3, hV, hv3, bN, hz9⟩ := nbox_new w9 H L E T
  rw [← hV]
  clear hV
  have ex8 : Ext w4 V3 := ex7.trans hv3
  have ex82 : Ext V2 V3 := ex72.trans hv3
  have rN := rN.below (show Below w4.heap.size w4 V3 from ex8)
  have n3 := n2.ext' hv3
  obtain ⟨hB11, hB11'⟩ := bnext hB10 hB10' hv3
  have hD3 : B + 3 ≤ w9.heap.size := by have := Below.size ex7; omega
  have hD32 : D2 + 1 < w9.heap.size := n2.lt
  generalize w9.heap.size = D3 at *
  have n0 := n3.c0
  have n1 := n3.c1
  have t0 := bN.c3
  have t1 := bN.f 3
  by_cases hs0 : sh < 0
  · have HG := GQ.out true (by rw [decide_eq_true hs0]; rfl)
    rw [← HVAL.out] at HG
    have HG := Lib.hid HG.1
    clear GQ CS
    go_upto_region 7 with fail
    clear n0 n1 t0 t1 n2 n3
    have bN2 := bN.stored3 true
    have on := only_set1 V3 D3 3 (.bool true)
    have rN := rN.only on (by omega)
    have hB12 := hB11.trans (on.below (B := B) (by omega))
    generalize V3.setCell ⟨D3, 3, none⟩ (.bool true) = W9 at *
    have m0 := bN2.c0
    have m1 := bN2.c1
    have m2 := bN2.c2
    have m3 := bN2.c3
    have q0 := rN.c0
    have q1 := rN.c1
    have q2 := rN.c2
    have q3 := rN.c3
    have p0 := rN.f 0
    have p1 := rN.f 1
    have p2 := rN.f 2
    have p3 := rN.f 3
    have z := rN.stored (H : Int) (L : Int) E true
    have z0 := z.c0
    have z1 := z.c1
    have z2 := z.c2
    have z3 := z.c3
    have B9 := Lib.hid (hB12.trans ((only_nset4 W9 (B + 1 + 1) (.int .u64 (H : Int)) (.int .u64 (L : Int)) (.int .i64 E) (.bool true)).below (B := B) (by omega)))
    clear z bN2 rN hB12 on
    go_wp2
    refine bodyPost_ret (v := .agg #[.int .u64 (H : Int), .int .u64 (L : Int), .int .i64 E, .bool true]) (by simp [results, Tryz.results91, go_sem, z0, z1, z2, z3]) rfl ?_
    refine ⟨H, L, E, true, rfl, hH, hL, HG.out, hE0, hE1, ?_⟩
    show Below _ _ _
    rw [HBe.out]
    exact B9.out
  · have HG := GQ.out (sr != 0) (by rw [decide_eq_false hs0]; rfl)
    rw [← HVAL.out] at HG
    have HG := Lib.hid HG.1
    clear GQ
    go_wp2_with fail
    refine (CS.out _ ex82).mono ?_
    rintro e w10 ⟨rfl, hw10⟩
    have bN := bN.below hw10
    have rN := rN.below hw10
    have hD34 := bN.lt
    have hB11 := (bnext hB11 hB11' hw10).1
    clear n0 n1 t0 t1 n2 n3 CS hw10
    have t0 := bN.c3
    have t1 := bN.f 3
    go_upto_region 7 with fail
    clear t0 t1
    have bN2 := bN.stored3 (sr != 0)
    have on := only_set1 w10 D3 3 (.bool (sr != 0))
    have rN := rN.only on (by omega)
    have hB12 := hB11.trans (on.below (B := B) (by omega))
    generalize w10.setCell ⟨D3, 3, none⟩ (.bool (sr != 0)) = W9 at *
    have m0 := bN2.c0
    have m1 := bN2.c1
    have m2 := bN2.c2
    have m3 := bN2.c3
    have q0 := rN.c0
    have q1 := rN.c1
    have q2 := rN.c2
    have q3 := rN.c3
    have p0 := rN.f 0
    have p1 := rN.f 1
    have p2 := rN.f 2
    have p3 := rN.f 3
    have z := rN.stored (H : Int) (L : Int) E (sr != 0)
    have z0 := z.c0
    have z1 := z.c1
    have z2 := z.c2
    have z3 := z.c3
    have B9 := Lib.hid (hB12.trans ((only_nset4 W9 (B + 1 + 1) (.int .u64 (H : Int)) (.int .u64 (L : Int)) (.int .i64 E) (.bool (sr != 0))).below (B := B) (by omega)))
    clear z bN2 rN hB12 on
    go_wp2
    refine bodyPost_ret (v := .agg #[.int .u64 (H : Int), .int .u64 (L : Int), .int .i64 E, .bool (sr != 0)]) (by simp [results, Tryz.results91, go_sem, z0, z1, z2, z3]) rfl ?_
    refine ⟨H, L, E, (sr != 0), rfl, hH, hL, HG.out, hE0, hE1, ?_⟩
    show Below _ _ _
    rw [HBe.out]
    exact B9.out
end Go.Proofs.YtolghagbpnjpgaaGreatDoor

namespace Go.Proofs.YtolghagbpnjpgaaGreatDoor
open Go.RowKit

theorem fquotG_any {A C j hx lx : Nat} {ex ey ea : Int} {t : Bool} (h1 : hx < 18446744073709551616) (h2 : lx < 18446744073709551616) (hN : hx * 18446744073709551616 + lx = A / 2 ^ j) (h0 : hx * 18446744073709551616 + lx ≠ 0) (ht : t = decide (A % 2 ^ j ≠ 0)) (htop : t = true → 2 ^ 127 ≤ hx * 18446744073709551616 + lx) (hC1 : C < 18446744073709551616) (hC : C ≠ 0) (hex : ex = ea + j) (ex0 : -100000000 ≤ ex) (ex1 : ex ≤ 110000000) (ey0 : -100000000 ≤ ey) (ey1 : ey ≤ 100000000) (w : World) :
    Calls Tryz.prog 72 #[.agg #[.int .u64 (hx : Int), .int .u64 (lx : Int), .int .i64 ex, .bool t], .agg #[.int .u64 0, .int .u64 (C : Int), .int .i64 ey, .bool false]] w fun r w' => ∃ (H L : Nat) (E : Int) (T : Bool),
      r = .returned (.agg #[.int .u64 (H : Int), .int .u64 (L : Int), .int .i64 E, .bool T]) ∧ H < 18446744073709551616 ∧ L < 18446744073709551616 ∧ QuoG A C (ea - ey) (H * 18446744073709551616 + L) E T ∧ -400001000 ≤ E ∧ E ≤ 400001000 ∧ Ext w w' := by
  refine (fquot_any hx lx C ex ey t h1 h2 h0 hC1 hC (by omega) (by omega) (by omega) (by omega) w).mono fun r w' ⟨X1, X0, i, Y1, y, qf, hr, hw⟩ => ?_
  have hi1 := qf.i1
  have hj1 := qf.j1
  have hY0 := qf.y0
  have hX0 := qf.x0
  have hX1 := qf.x1
  have hY1 := qf.y1
  have hX2 := qf.x2
  have hm : X1 % Y1 < Y1 := Nat.mod_lt _ (by omega)
  have hlow : (X1 % Y1 * 18446744073709551616 + X0) / Y1 < 18446744073709551616 := by
    refine (Nat.div_lt_iff_lt_mul (by omega)).2 ?_
    have h9 := Nat.mul_le_mul_right 18446744073709551616 (show X1 % Y1 + 1 ≤ Y1 by omega)
    rw [Nat.mul_comm 18446744073709551616 Y1]
    omega
  have hbig : 9223372036854775808 ≤ X1 / Y1 * 18446744073709551616 + (X1 % Y1 * 18446744073709551616 + X0) / Y1 := by
    rcases Nat.lt_or_ge X1 Y1 with h8 | h8
    · rw [Nat.mod_eq_of_lt h8]
      have h7 : 9223372036854775808 ≤ (X1 * 18446744073709551616 + X0) / Y1 := (Nat.le_div_iff_mul_le (by omega)).2 (by omega)
      exact Nat.le_trans h7 (Nat.le_add_left _ _)
    · have h7 : 1 ≤ X1 / Y1 := (Nat.le_div_iff_mul_le (by omega)).2 (by omega)
      have h6 := Nat.mul_le_mul_right 18446744073709551616 h7
      have h5 : 9223372036854775808 ≤ X1 / Y1 * 18446744073709551616 := by omega
      exact Nat.le_trans h5 (Nat.le_add_right _ _)
  have hs : X1 * 18446744073709551616 + X0 = (X1 % Y1 * 18446744073709551616 + X0) + Y1 * (X1 / Y1 * 18446744073709551616) := by
    have h := Nat.div_add_mod X1 Y1
    have h2 : X1 * 18446744073709551616 = (Y1 * (X1 / Y1) + X1 % Y1) * 18446744073709551616 := by rw [h]
    rw [h2, Nat.add_mul, Nat.mul_assoc]
    omega
  have e1 : (2 : Nat) ^ 127 = 9223372036854775808 * 18446744073709551616 := by decide
  have e2 : (2 : Nat) ^ 128 = 18446744073709551616 * 18446744073709551616 := by decide
  have hl : Nat.log2 C < 64 := (Nat.log2_lt hC).2 hC1
  have hyl := shift_unique (N := C) (i := y) hC (by rw [← qf.ey, e1]; omega) (by rw [← qf.ey, e2]; omega)
  obtain ⟨y', hy'⟩ : ∃ y', y = y' + 64 := ⟨y - 64, by omega⟩
  have hY : Y1 = C * 2 ^ y' := by
    have h := qf.ey
    rw [hy', Nat.pow_add, ← Nat.mul_assoc, show (2 : Nat) ^ 64 = 18446744073709551616 from rfl] at h
    exact Nat.eq_of_mul_eq_mul_right (by omega) h
  have hi0 : t = true → i = 0 := by
    intro htt
    have h5 := htop htt
    have h6 := qf.ex
    rcases Nat.eq_zero_or_pos i with h | h
    · exact h
    · exfalso
      have h7 : (hx * 18446744073709551616 + lx) * 2 ≤ (hx * 18446744073709551616 + lx) * 2 ^ i := Nat.mul_le_mul_left _ (Nat.le_trans (by decide) (Nat.pow_le_pow_right (n := 2) (by omega) h))
      rw [← h6] at h7
      omega
  have hq : X1 / Y1 * 18446744073709551616 + (X1 % Y1 * 18446744073709551616 + X0) / Y1 = (hx * 18446744073709551616 + lx) * 2 ^ i / (C * 2 ^ y') ∧ (X1 % Y1 * 18446744073709551616 + X0) % Y1 = (hx * 18446744073709551616 + lx) * 2 ^ i % (C * 2 ^ y') := by
    rw [← qf.ex, ← hY, hs, Nat.add_mul_div_left _ _ (by omega), Nat.add_mul_mod_self_left]
    exact ⟨Nat.add_comm _ _, rfl⟩
  have hG := quoG_of (C := C) (y := y') (i := i) (e := ea - ey) (E := ex - i - (ey - y) - 64) hN ht hi0 (by omega) hq.1 (Nat.le_trans (by decide) hbig)
  rw [← hq.2] at hG
  exact ⟨_, _, _, _, hr, Nat.lt_of_le_of_lt (Nat.div_le_self _ _) hX1, hlow, hG, by omega, by omega, hw⟩
end Go.Proofs.YtolghagbpnjpgaaGreatDoor
