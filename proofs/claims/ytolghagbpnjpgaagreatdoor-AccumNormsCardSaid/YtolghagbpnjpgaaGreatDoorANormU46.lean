import Derived.Test.YtolghagbpnjpgaaGreatDoorANormU43
import Derived.Test.YtolghagbpnjpgaaGreatDoorANormU45
import Derived.Test.YtolghagbpnjpgaaGreatDoorANormU36
import Derived.Test.YtolghagbpnjpgaaGreatDoorANormU29
import Derived.Test.YtolghagbpnjpgaaGreatDoorANormU37
namespace Go.Proofs.YtolghagbpnjpgaaGreatDoor
open Go Go.RowKit

set_option maxRecDepth 100000 in
set_option maxHeartbeats 8000000 in
theorem refRoot_any (A : Nat) (nb : Bool) (ao : Option Addr) (n ca p : Nat) (e : Int) (w : World) (ha : Bg w nb ao n ca (A : Int)) (hbA : blen A ≤ 140000) (he : -1000000 ≤ e ∧ e ≤ 1000000) (hp : p ≤ 4096) :
    Calls Tryz.prog 93 #[.agg #[.bool nb, .slice ao n ca], .int .i64 e, .int .i64 (p : Int)] w fun r w' => ∃ k qn qo qk qc, 2 * (p : Int) + 4 - (blen A : Int) ≤ (k : Nat) ∧ (e - (k : Int)) % 2 = 0 ∧ k ≤ 9001 ∧ r = .returned (.tuple #[.agg #[.bool qn, .slice qo qk qc], .int .i64 ((e - (k : Int)) / 2), .bool (decide (isq (A * 2 ^ k) * isq (A * 2 ^ k) ≠ A * 2 ^ k))]) ∧ Bn w' qn qo qk qc ((isq (A * 2 ^ k) : Nat) : Int) ∧ Ext w w' := by
  have HMX := Lib.hid (show max (2 * (p : Int) + 6 - (blen A : Int)) 0 = ((2 * p + 6 - blen A : Nat) : Int) by omega)
  go_enter Tryz.func93, Tryz.ntmps93
  go_upto_region 1 with fail
  obtain ⟨W, hW, hB, hx, hD, hz⟩ := boxes1 w nb ao n ca
  rw [← hW]
  clear hW
  have ha := ha.below hB
  generalize hBe : w.heap.size = B at *
  have HBe := Lib.hid hBe; clear hBe
  have hn0 := ha.small
  have k0 := hx.c0
  have k1 := hx.c1
  have CA := Lib.hid (show Calls Tryz.prog 150 #[.agg #[.bool nb, .slice ao n ca]] W fun e w' => e = .returned (.int .i64 ((blen A : Nat) : Int)) ∧ Ext W w' from refBitLen_any nb ao n ca (A : Int) W ha)
  go_wp2_with fail
  refine CA.out.mono ?_
  rintro r V ⟨rfl, hV⟩
  have ha := ha.below hV
  have hx := hx.below hV
  have hD := hD.below hV
  have hBV : Below B w V := Below.trans hB (Below.mono hV (by omega))
  have hzV : B + 2 ≤ V.heap.size := by have := Below.size hV; omega
  clear k0 k1 CA hV hB hz
  go_upto_region 2 with fail
  rw [HMX.out]
  clear HMX
  have hke : 2 * p + 6 - blen A ≤ 9000 := by omega
  have hk1 : 2 * (p : Int) + 6 - (blen A : Int) ≤ ((2 * p + 6 - blen A : Nat) : Int) := by omega
  generalize 2 * p + 6 - blen A = k at *
  have hwk : IntKind.i64.wrap (e - (k : Int)) = e - (k : Int) := IntWalk.i64_in _ ⟨by omega, by omega⟩
  by_cases hpar : (e - (k : Int)) % 2 = 0
  · have htm : (e - (k : Int)).tmod 2 = 0 := by
      rw [Int.tmod_eq_zero_of_dvd (Int.dvd_of_emod_eq_zero hpar)]
    have htb : ((e - (k : Int)).tmod 2 != 0) = false := by rw [htm]; rfl
    have HK4 := Lib.hid (show 2 * (p : Int) + 4 - (blen A : Int) ≤ (k : Int) by omega)
    have HEV := Lib.hid hpar
    obtain ⟨M, hM⟩ : ∃ M, A * 2 ^ k = M := ⟨_, rfl⟩
    have hbM := Lib.hid (show blen M ≤ 300000 by
      have h1 := blen_lt A
      have h2 : A * 2 ^ k < 2 ^ (blen A + k) := by rw [Nat.pow_add]; exact Nat.mul_lt_mul_of_pos_right h1 (Nat.pow_pos (by omega))
      rw [← hM]
      exact Nat.le_trans (blen_le_of_lt h2) (by omega))
    have C1 := Lib.hid (fun W (hE : Ext V W) => (show Calls Tryz.prog 153 #[.agg #[.bool nb, .slice ao n ca], .int .i64 (k : Int)] W fun e w' => ∃ nr ro l cr, e = .returned (.agg #[.bool nr, .slice ro l cr]) ∧ Bn w' nr ro l cr (M : Int) ∧ Ext W w' from by
      rw [← hM, Int.natCast_mul, Int.natCast_pow]
      exact (refShift_up nb ao n ca (A : Int) k W (ha.below hE) (by omega)).mono fun r w' ⟨nr, ro, l, cr, h1, h2, _, h4⟩ => ⟨nr, ro, l, cr, h1, h2, h4⟩))
    have HM := Lib.hid hM
    clear hM
    clear hpar
    go_upto_region 4 with fail
    have k0 := hx.c0
    have k1 := hx.c1
    go_wp2_with fail
    refine (C1.out _ (Ext.refl _)).mono ?_
    rintro r w2 ⟨mn, mo, ml, mc, rfl, hm, hw2⟩
    have hx := hx.below hw2
    have hD := hD.below hw2
    have hB2 : Below B w w2 := Below.trans hBV (Below.mono hw2 (by omega))
    have hz2 : B + 2 ≤ w2.heap.size := by have := Below.size hw2; omega
    clear k0 k1 hw2 hBV hzV
    go_upto_region 5 with fail
    obtain ⟨U, hU, hu, hG, hzu⟩ := box_new w2 mn mo ml mc
    rw [← hU]
    clear hU
    have hm := hm.below hu
    have hx := hx.below hu
    have hD := hD.below hu
    have hB3 : Below B w U := Below.trans hB2 (Below.mono hu (by omega))
    have hDG : B + 1 ≠ w2.heap.size := by omega
    clear hu hB2
    generalize w2.heap.size = G at *
    have k0 := hG.c0
    have k1 := hG.c1
    have hml : ml ≤ 40000 := bn_len hm (by rw [Int.natAbs_natCast]; have := hbM.out; omega)
    have CQ := Lib.hid (refSqrt_any mn mo ml mc M U (hm.bg (by omega)) (by have := hbM.out; omega) (by omega))
    go_wp2_with fail
    refine CQ.out.mono ?_
    rintro r w4 ⟨qn, qo, qk, qc, s, rfl, hq, hs1, hs2, hw4⟩
    obtain rfl := isq_of hs1 hs2
    have hG := hG.below hw4
    have hm := hm.below hw4
    have hD := hD.below hw4
    have hB4 : Below B w w4 := Below.trans hB3 (Below.mono hw4 (by omega))
    have hqb : blen (isq M) ≤ 1000000 := by
      have h2 : isq M ≤ M := by
        rcases Nat.eq_zero_or_pos (isq M) with h | h
        · omega
        · exact Nat.le_trans (Nat.le_mul_of_pos_left _ h) hs1
      exact Nat.le_trans (blen_le_of_lt (Nat.lt_of_le_of_lt h2 (blen_lt M))) (by have := hbM.out; omega)
    have hpb : blen (isq M * isq M) ≤ 1000000 := Nat.le_trans (blen_le_of_lt (Nat.lt_of_le_of_lt hs1 (blen_lt M))) (by have := hbM.out; omega)
    have hql : qk ≤ 40000 := bn_len hq (by rw [Int.natAbs_natCast]; exact hqb)
    clear hs1 hs2 CQ hw4 hB3 k0 k1 hx
    have d0 := hD.c0
    have d1 := hD.c1
    have d2 := hD.f 0
    have d3 := hD.f 1
    have o1 := only_set2 w4 (B + 1) (.bool qn) (.slice qo qk qc)
    have hD5 := hD.stored qn qo qk qc
    have hG5 := hG.only o1 (Ne.symm hDG)
    have hq5 := Bn.only_bx' hq hD o1
    have hm5 := Bn.only_bx' hm hD o1
    have hB5 := Below.trans hB4 (o1.below (Nat.le_succ B))
    clear o1
    go_upto_region 6 with fail
    generalize (w4.setCell ⟨B + 1, 0, none⟩ (.bool qn)).setCell ⟨B + 1, 1, none⟩ (.slice qo qk qc) = X at *
    clear d0 d1 d2 d3 hD hG hq hm hB4
    obtain ⟨sg, hsg⟩ : ∃ sg, sgn3 ((isq M : Int) * (isq M : Int)) (M : Int) = sg := ⟨_, rfl⟩
    have hsb : (sg != 0) = decide (isq M * isq M ≠ M) := by
      rw [show (sg != 0) = decide (sg ≠ 0) from by by_cases h : sg = 0 <;> simp [h], ← hsg]
      unfold sgn3
      apply decide_eq_decide.2
      rw [← Int.natCast_mul]
      split
      · omega
      · split <;> omega
    have HSB := Lib.hid hsb
    have HSG := Lib.hid hsg
    have HPB := Lib.hid hpb
    have CM := Lib.hid (fun W' (hE : Ext X W') => refMul_any qn qn qo qk qc qo qk qc (isq M : Int) (isq M : Int) W' ((hq5.bg (by omega)).below hE) ((hq5.bg (by omega)).below hE))
    have HC := Lib.hid (show ∀ wx, Ext X wx → (wx.cell? ⟨B + 1, 0, none⟩ = some (.bool qn) ∧ wx.cell? ⟨B + 1, 1, none⟩ = some (.slice qo qk qc)) ∧ (wx.cell? ⟨G, 0, none⟩ = some (.bool mn) ∧ wx.cell? ⟨G, 1, none⟩ = some (.slice mo ml mc)) from fun wx h => ⟨⟨(hD5.below h).c0, (hD5.below h).c1⟩, (hG5.below h).c0, (hG5.below h).c1⟩)
    have HS := Lib.hid (show ∀ wx, Ext X wx → (fun wx => (wx.cell? ⟨B + 1, 0, none⟩ = some (.bool qn) ∧ wx.cell? ⟨B + 1, 1, none⟩ = some (.slice qo qk qc)) ∧ (wx.cell? ⟨G, 0, none⟩ = some (.bool mn) ∧ wx.cell? ⟨G, 1, none⟩ = some (.slice mo ml mc))) ((wx.setCell ⟨B + 1, 0, none⟩ (.bool qn)).setCell ⟨B + 1, 1, none⟩ (.slice qo qk qc)) from fun wx h => ⟨⟨((hD5.below h).stored qn qo qk qc).c0, ((hD5.below h).stored qn qo qk qc).c1⟩, bcells_stored hDG ⟨(hG5.below h).c0, (hG5.below h).c1⟩⟩)
    clear hsg hsb hpb hqb
    have stx : Ext X X.drew := (Below.refl _ _).drew
    obtain ⟨⟨k0, k1⟩, l0, l1⟩ := HC.out X (Ext.refl X)
    have hwk : IntKind.i64.wrap (e - (k : Int)) = e - (k : Int) := IntWalk.i64_in _ ⟨by omega, by omega⟩
    have hwd : IntKind.i64.wrap ((e - (k : Int)).tdiv 2) = (e - (k : Int)) / 2 := by
      have h2 : (e - (k : Int)).tdiv 2 = (e - (k : Int)) / 2 := Int.tdiv_eq_ediv_of_dvd (Int.dvd_of_emod_eq_zero HEV.out)
      rw [h2]
      exact IntWalk.i64_in _ ⟨by omega, by omega⟩
    have hdg1 : ¬ B + 1 = G := hDG
    have hdg2 : ¬ G = B + 1 := Ne.symm hDG
    go_region_held3 (fun wx => (wx.cell? ⟨B + 1, 0, none⟩ = some (.bool qn) ∧ wx.cell? ⟨B + 1, 1, none⟩ = some (.slice qo qk qc)) ∧ (wx.cell? ⟨G, 0, none⟩ = some (.bool mn) ∧ wx.cell? ⟨G, 1, none⟩ = some (.slice mo ml mc)))
      (first | exact HC.out _ (by first | assumption | exact Ext.refl _) | exact HS.out _ (by assumption))
      (first
        | (go_at_call 133; refine (CM.out _ stx).mono ?_; rintro r w5 ⟨pn, po, pk, pc, rfl, hp, hv5⟩; have ex5 : Ext X w5 := Ext.trans stx hv5)
        | (go_at_call 161; refine (refCmp_any _ _ _ _ _ _ _ _ _ _ _ (bn_bg_of hp (by rw [← Int.natCast_mul, Int.natAbs_natCast]; exact HPB.out)) ((hm5.bg (by omega)).below ex5) (Nat.le_trans (bn_len hp (by rw [← Int.natCast_mul, Int.natAbs_natCast]; exact HPB.out)) (by omega)) (by omega)).mono ?_; rw [HSG.out]; rintro r w6 ⟨rfl, hv6⟩; have ex6 : Ext X w6 := Ext.trans ex5 hv6; have fD := hD5.below ex6; have d0 := fD.c0; have d1 := fD.c1; have d2 := fD.f 0; have d3 := fD.f 1))
    all_goals
      have hst := fD.stored qn qo qk qc
      have z0 := hst.c0
      have z1 := hst.c1
      have HRES := Lib.hid (And.intro (Bn.only_bx' (hq5.below ex6) fD (only_set2 w6 (B + 1) (.bool qn) (.slice qo qk qc))) (Below.trans (Below.trans hB5 (Below.mono ex6 (by have := hD5.lt; omega))) ((only_set2 w6 (B + 1) (.bool qn) (.slice qo qk qc)).below (show B ≤ B + 1 by omega))))
      clear hst d0 d1 d2 d3
      go_wp2
      refine bodyPost_ret (v := .tuple #[.agg #[.bool qn, .slice qo qk qc], .int .i64 ((e - (k : Int)) / 2), .bool (sg != 0)]) (by simp [results, Tryz.results93, go_sem, z0, z1]) rfl ⟨k, qn, qo, qk, qc, HK4.out, HEV.out, by omega, by rw [HSB.out, HM.out], by rw [HM.out]; exact HRES.out.1, ?_⟩
      show Below _ _ _
      rw [HBe.out]
      exact HRES.out.2
  · have htb : ((e - (k : Int)).tmod 2 != 0) = true := by
      rw [bne_iff_ne]
      intro h
      exact hpar (Int.emod_eq_zero_of_dvd (Int.dvd_of_tmod_eq_zero h))
    have hwk1 : IntKind.i64.wrap ((k : Int) + 1) = ((k + 1 : Nat) : Int) := by rw [IntWalk.i64_in _ ⟨by omega, by omega⟩]; omega
    have hk1 : 2 * (p : Int) + 4 - (blen A : Int) ≤ ((k + 1 : Nat) : Int) := by omega
    have hev : (e - ((k + 1 : Nat) : Int)) % 2 = 0 := by omega
    have hke2 : k + 1 ≤ 9001 := by omega
    go_upto_region 3 with fail
    go_upto_region 4 with fail
    rw [show (k : Int) + 1 = ((k + 1 : Nat) : Int) by omega]
    clear hpar htb hwk1 hwk hke
    generalize k + 1 = k at *
    have HK4 := Lib.hid hk1
    have HEV := Lib.hid hev
    clear hev
    obtain ⟨M, hM⟩ : ∃ M, A * 2 ^ k = M := ⟨_, rfl⟩
    have hbM := Lib.hid (show blen M ≤ 300000 by
      have h1 := blen_lt A
      have h2 : A * 2 ^ k < 2 ^ (blen A + k) := by rw [Nat.pow_add]; exact Nat.mul_lt_mul_of_pos_right h1 (Nat.pow_pos (by omega))
      rw [← hM]
      exact Nat.le_trans (blen_le_of_lt h2) (by omega))
    have C1 := Lib.hid (fun W (hE : Ext V W) => (show Calls Tryz.prog 153 #[.agg #[.bool nb, .slice ao n ca], .int .i64 (k : Int)] W fun e w' => ∃ nr ro l cr, e = .returned (.agg #[.bool nr, .slice ro l cr]) ∧ Bn w' nr ro l cr (M : Int) ∧ Ext W w' from by
      rw [← hM, Int.natCast_mul, Int.natCast_pow]
      exact (refShift_up nb ao n ca (A : Int) k W (ha.below hE) (by omega)).mono fun r w' ⟨nr, ro, l, cr, h1, h2, _, h4⟩ => ⟨nr, ro, l, cr, h1, h2, h4⟩))
    have HM := Lib.hid hM
    clear hM
    have k0 := hx.c0
    have k1 := hx.c1
    go_wp2_with fail
    refine (C1.out _ (Ext.refl _)).mono ?_
    rintro r w2 ⟨mn, mo, ml, mc, rfl, hm, hw2⟩
    have hx := hx.below hw2
    have hD := hD.below hw2
    have hB2 : Below B w w2 := Below.trans hBV (Below.mono hw2 (by omega))
    have hz2 : B + 2 ≤ w2.heap.size := by have := Below.size hw2; omega
    clear k0 k1 hw2 hBV hzV
    go_upto_region 5 with fail
    obtain ⟨U, hU, hu, hG, hzu⟩ := box_new w2 mn mo ml mc
    rw [← hU]
    clear hU
    have hm := hm.below hu
    have hx := hx.below hu
    have hD := hD.below hu
    have hB3 : Below B w U := Below.trans hB2 (Below.mono hu (by omega))
    have hDG : B + 1 ≠ w2.heap.size := by omega
    clear hu hB2
    generalize w2.heap.size = G at *
    have k0 := hG.c0
    have k1 := hG.c1
    have hml : ml ≤ 40000 := bn_len hm (by rw [Int.natAbs_natCast]; have := hbM.out; omega)
    have CQ := Lib.hid (refSqrt_any mn mo ml mc M U (hm.bg (by omega)) (by have := hbM.out; omega) (by omega))
    go_wp2_with fail
    refine CQ.out.mono ?_
    rintro r w4 ⟨qn, qo, qk, qc, s, rfl, hq, hs1, hs2, hw4⟩
    obtain rfl := isq_of hs1 hs2
    have hG := hG.below hw4
    have hm := hm.below hw4
    have hD := hD.below hw4
    have hB4 : Below B w w4 := Below.trans hB3 (Below.mono hw4 (by omega))
    have hqb : blen (isq M) ≤ 1000000 := by
      have h2 : isq M ≤ M := by
        rcases Nat.eq_zero_or_pos (isq M) with h | h
        · omega
        · exact Nat.le_trans (Nat.le_mul_of_pos_left _ h) hs1
      exact Nat.le_trans (blen_le_of_lt (Nat.lt_of_le_of_lt h2 (blen_lt M))) (by have := hbM.out; omega)
    have hpb : blen (isq M * isq M) ≤ 1000000 := Nat.le_trans (blen_le_of_lt (Nat.lt_of_le_of_lt hs1 (blen_lt M))) (by have := hbM.out; omega)
    have hql : qk ≤ 40000 := bn_len hq (by rw [Int.natAbs_natCast]; exact hqb)
    clear hs1 hs2 CQ hw4 hB3 k0 k1 hx
    have d0 := hD.c0
    have d1 := hD.c1
    have d2 := hD.f 0
    have d3 := hD.f 1
    have o1 := only_set2 w4 (B + 1) (.bool qn) (.slice qo qk qc)
    have hD5 := hD.stored qn qo qk qc
    have hG5 := hG.only o1 (Ne.symm hDG)
    have hq5 := Bn.only_bx' hq hD o1
    have hm5 := Bn.only_bx' hm hD o1
    have hB5 := Below.trans hB4 (o1.below (Nat.le_succ B))
    clear o1
    go_upto_region 6 with fail
    generalize (w4.setCell ⟨B + 1, 0, none⟩ (.bool qn)).setCell ⟨B + 1, 1, none⟩ (.slice qo qk qc) = X at *
    clear d0 d1 d2 d3 hD hG hq hm hB4
    obtain ⟨sg, hsg⟩ : ∃ sg, sgn3 ((isq M : Int) * (isq M : Int)) (M : Int) = sg := ⟨_, rfl⟩
    have hsb : (sg != 0) = decide (isq M * isq M ≠ M) := by
      rw [show (sg != 0) = decide (sg ≠ 0) from by by_cases h : sg = 0 <;> simp [h], ← hsg]
      unfold sgn3
      apply decide_eq_decide.2
      rw [← Int.natCast_mul]
      split
      · omega
      · split <;> omega
    have HSB := Lib.hid hsb
    have HSG := Lib.hid hsg
    have HPB := Lib.hid hpb
    have CM := Lib.hid (fun W' (hE : Ext X W') => refMul_any qn qn qo qk qc qo qk qc (isq M : Int) (isq M : Int) W' ((hq5.bg (by omega)).below hE) ((hq5.bg (by omega)).below hE))
    have HC := Lib.hid (show ∀ wx, Ext X wx → (wx.cell? ⟨B + 1, 0, none⟩ = some (.bool qn) ∧ wx.cell? ⟨B + 1, 1, none⟩ = some (.slice qo qk qc)) ∧ (wx.cell? ⟨G, 0, none⟩ = some (.bool mn) ∧ wx.cell? ⟨G, 1, none⟩ = some (.slice mo ml mc)) from fun wx h => ⟨⟨(hD5.below h).c0, (hD5.below h).c1⟩, (hG5.below h).c0, (hG5.below h).c1⟩)
    have HS := Lib.hid (show ∀ wx, Ext X wx → (fun wx => (wx.cell? ⟨B + 1, 0, none⟩ = some (.bool qn) ∧ wx.cell? ⟨B + 1, 1, none⟩ = some (.slice qo qk qc)) ∧ (wx.cell? ⟨G, 0, none⟩ = some (.bool mn) ∧ wx.cell? ⟨G, 1, none⟩ = some (.slice mo ml mc))) ((wx.setCell ⟨B + 1, 0, none⟩ (.bool qn)).setCell ⟨B + 1, 1, none⟩ (.slice qo qk qc)) from fun wx h => ⟨⟨((hD5.below h).stored qn qo qk qc).c0, ((hD5.below h).stored qn qo qk qc).c1⟩, bcells_stored hDG ⟨(hG5.below h).c0, (hG5.below h).c1⟩⟩)
    clear hsg hsb hpb hqb
    have stx : Ext X X.drew := (Below.refl _ _).drew
    obtain ⟨⟨k0, k1⟩, l0, l1⟩ := HC.out X (Ext.refl X)
    have hwk : IntKind.i64.wrap (e - (k : Int)) = e - (k : Int) := IntWalk.i64_in _ ⟨by omega, by omega⟩
    have hwd : IntKind.i64.wrap ((e - (k : Int)).tdiv 2) = (e - (k : Int)) / 2 := by
      have h2 : (e - (k : Int)).tdiv 2 = (e - (k : Int)) / 2 := Int.tdiv_eq_ediv_of_dvd (Int.dvd_of_emod_eq_zero HEV.out)
      rw [h2]
      exact IntWalk.i64_in _ ⟨by omega, by omega⟩
    have hdg1 : ¬ B + 1 = G := hDG
    have hdg2 : ¬ G = B + 1 := Ne.symm hDG
    go_region_held3 (fun wx => (wx.cell? ⟨B + 1, 0, none⟩ = some (.bool qn) ∧ wx.cell? ⟨B + 1, 1, none⟩ = some (.slice qo qk qc)) ∧ (wx.cell? ⟨G, 0, none⟩ = some (.bool mn) ∧ wx.cell? ⟨G, 1, none⟩ = some (.slice mo ml mc)))
      (first | exact HC.out _ (by first | assumption | exact Ext.refl _) | exact HS.out _ (by assumption))
      (first
        | (go_at_call 133; refine (CM.out _ stx).mono ?_; rintro r w5 ⟨pn, po, pk, pc, rfl, hp, hv5⟩; have ex5 : Ext X w5 := Ext.trans stx hv5)
        | (go_at_call 161; refine (refCmp_any _ _ _ _ _ _ _ _ _ _ _ (bn_bg_of hp (by rw [← Int.natCast_mul, Int.natAbs_natCast]; exact HPB.out)) ((hm5.bg (by omega)).below ex5) (Nat.le_trans (bn_len hp (by rw [← Int.natCast_mul, Int.natAbs_natCast]; exact HPB.out)) (by omega)) (by omega)).mono ?_; rw [HSG.out]; rintro r w6 ⟨rfl, hv6⟩; have ex6 : Ext X w6 := Ext.trans ex5 hv6; have fD := hD5.below ex6; have d0 := fD.c0; have d1 := fD.c1; have d2 := fD.f 0; have d3 := fD.f 1))
    all_goals
      have hst := fD.stored qn qo qk qc
      have z0 := hst.c0
      have z1 := hst.c1
      have HRES := Lib.hid (And.intro (Bn.only_bx' (hq5.below ex6) fD (only_set2 w6 (B + 1) (.bool qn) (.slice qo qk qc))) (Below.trans (Below.trans hB5 (Below.mono ex6 (by have := hD5.lt; omega))) ((only_set2 w6 (B + 1) (.bool qn) (.slice qo qk qc)).below (show B ≤ B + 1 by omega))))
      clear hst d0 d1 d2 d3
      go_wp2
      refine bodyPost_ret (v := .tuple #[.agg #[.bool qn, .slice qo qk qc], .int .i64 ((e - (k : Int)) / 2), .bool (sg != 0)]) (by simp [results, Tryz.results93, go_sem, z0, z1]) rfl ⟨k, qn, qo, qk, qc, HK4.out, HEV.out, by omega, by rw [HSB.out, HM.out], by rw [HM.out]; exact HRES.out.1, ?_⟩
      show Below _ _ _
      rw [HBe.out]
      exact HRES.out.2
end Go.Proofs.YtolghagbpnjpgaaGreatDoor

namespace Go.Proofs.YtolghagbpnjpgaaGreatDoor
open Go Go.RowKit

set_option maxRecDepth 100000 in
set_option maxHeartbeats 4000000 in
theorem refRootF_any (u : Value) (d : Dy) (mode : Int) (w : World) (hu : Dl w u d) (hT : Table w) :
    Calls Tryz.prog 26 #[u, .int .i64 mode] w fun e w' => e = .returned (.int .u64 ((rootV d mode : Nat) : Int)) ∧ Ext w w' := by
  obtain ⟨R, hR⟩ : ∃ R, rootV d mode = R := ⟨_, rfl⟩
  rw [hR]
  have HR := Lib.hid hR
  clear hR
  have hu0 := hu
  obtain ⟨ub, un, uo, uk, uc, _, uf, rfl, -⟩ := hu0
  have HTw := Lib.hid hT
  go_enter Tryz.func26, Tryz.ntmps26
  go_upto_region 1 with fail
  obtain ⟨W, hW, hB, hbx, hz⟩ := dbox_new w ub un uo uk uc uf
  rw [← hW]
  clear hW
  have hu := hu.ext hB
  have HT := Lib.hid (hT.below hB)
  generalize hBe : w.heap.size = B at *
  have HBe := Lib.hid hBe; clear hBe hT
  have k0 := hbx.c0
  have k1 := hbx.c1
  have k2 := hbx.c2
  have k3 := hbx.c3
  go_wp2_with fail
  refine (refDNorm_any _ _ _ hu HT.out).mono ?_
  rintro e w1 ⟨r1, rfl, hr, hw1⟩
  have bx := hbx.below hw1
  obtain ⟨hB1, hB1'⟩ := bnext hB (by omega) hw1
  have hz1 := hw1.size
  obtain ⟨xb, xn, xo, xk, xc, xe, rfl⟩ := hr.parts
  clear k0 k1 k2 k3 hbx hB hw1 hu HT
  have k0 := bx.c0
  have k1 := bx.c1
  have k2 := bx.c2
  have k3 := bx.c3
  have f0 := bx.f 0
  have f1 := bx.f 1
  have f2 := bx.f 2
  have f3 := bx.f 3
  go_upto_region 2 with fail
  have ho := only_set4 w1 B (.bool xb) (.bool xn) (.slice xo xk xc) (.int .i64 xe)
  have hr := hr.only_dbox bx ho
  have bx := bx.stored xb xn xo xk xc xe
  have hB2 := hB1.trans (ho.below (B := B) (Nat.le_refl _))
  have hz2 := ho.size
  have hz3 : B + 1 ≤ ((((w1.setCell ⟨B, 0, none⟩ (.bool xb)).setCell ⟨B, 1, none⟩ (.bool xn)).setCell ⟨B, 2, none⟩ (.slice xo xk xc)).setCell ⟨B, 3, none⟩ (.int .i64 xe)).heap.size := by omega
  have hTf := HTw.out.below (w' := (((w1.setCell ⟨B, 0, none⟩ (.bool xb)).setCell ⟨B, 1, none⟩ (.bool xn)).setCell ⟨B, 2, none⟩ (.slice xo xk xc)).setCell ⟨B, 3, none⟩ (.int .i64 xe)) (by rw [HBe.out]; exact hB2)
  clear k0 k1 k2 k3 f0 f1 f2 f3 hB1 ho hz2
  generalize (((w1.setCell ⟨B, 0, none⟩ (.bool xb)).setCell ⟨B, 1, none⟩ (.bool xn)).setCell ⟨B, 2, none⟩ (.slice xo xk xc)).setCell ⟨B, 3, none⟩ (.int .i64 xe) = w2 at *
  have HT := Lib.hid hTf; clear hTf
  have k0 := bx.c0
  have k1 := bx.c1
  have k2 := bx.c2
  have k3 := bx.c3
  cases d with
  | none =>
    obtain rfl := dn_none hr
    obtain rfl : R = 9221120237041090560 := HR.out.symm
    go_wp2
    go_ret
    refine ⟨rfl, ?_⟩
    show Below _ _ _; rw [HBe.out]; exact hB2
  | some q =>
    obtain ⟨m, f⟩ := q
    obtain ⟨rfl, rfl, hm⟩ := dn_some hr
    have hnx := nd_blen hr.1
    simp only [dm, dx, Option.getD_some] at hnx
    obtain ⟨hnx, hx0, hx1⟩ := hnx
    have gm := bn_bg_of hm (by omega)
    clear hm hr
    obtain ⟨sg, hsg⟩ : ∃ sg, sgn3 m 0 = sg := ⟨_, rfl⟩
    have CS := refSign_any _ _ _ _ _ w2 gm
    rw [hsg] at CS
    have CS := Lib.hid CS
    have hsl : (decide (sg < 0)) = decide (m < 0) := by
      rw [← hsg]; unfold sgn3
      apply decide_eq_decide.2
      split
      · omega
      · split <;> omega
    by_cases h3 : m < 0
    · have hR : R = 9221120237041090560 := by
        rw [← HR.out]; unfold rootV; dsimp only
        rw [if_pos h3]
      subst hR
      have hs0 : sg < 0 := by rw [decide_eq_true h3] at hsl; exact of_decide_eq_true hsl
      clear hsl hsg
      go_wp2_with fail
      refine CS.out.mono ?_
      rintro e w3 ⟨rfl, hw3⟩
      obtain ⟨hB3, hB3'⟩ := bnext hB2 (by omega) hw3
      clear k0 k1 k2 k3 CS
      go_wp2
      go_ret
      refine ⟨rfl, ?_⟩
      show Below _ _ _; rw [HBe.out]; exact hB3
    · have hs0 : ¬ sg < 0 := by rw [decide_eq_false h3] at hsl; exact of_decide_eq_false hsl
      clear hsl
      go_wp2_with fail
      refine CS.out.mono ?_
      rintro e w3 ⟨rfl, hw3⟩
      have hw3 : Ext w2 w3 := hw3
      have bx := bx.ext hw3
      have gm := gm.below hw3
      have HT := Lib.hid (HT.out.below hw3)
      obtain ⟨hB3, hB3'⟩ := bnext hB2 (by omega) hw3
      have hz4 := Below.size hw3
      clear k0 k1 k2 k3 CS hw3 hB2
      have k0 := bx.c0
      have k1 := bx.c1
      have k2 := bx.c2
      have k3 := bx.c3
      have CS := refSign_any _ _ _ _ _ w3 gm
      rw [hsg] at CS
      have CS := Lib.hid CS
      by_cases h4 : m = 0
      · subst h4
        obtain rfl : sg = 0 := by rw [← hsg]; rfl
        have hR : R = 0 := by
          rw [← HR.out]; unfold rootV; dsimp only
          rw [if_neg (by omega), if_pos rfl]
        subst hR
        clear hsg
        go_wp2_with fail
        refine CS.out.mono ?_
        rintro e w4 ⟨rfl, hw4⟩
        obtain ⟨hB4, hB4'⟩ := bnext hB3 (by omega) hw4
        clear k0 k1 k2 k3 CS
        go_wp2
        go_ret
        refine ⟨rfl, ?_⟩
        show Below _ _ _; rw [HBe.out]; exact hB4
      · have hs1 : (sg == 0) = false := by
          rw [← hsg]; unfold sgn3
          split
          · rfl
          · split <;> first | rfl | omega
        obtain ⟨A, rfl⟩ := Int.eq_ofNat_of_zero_le (show 0 ≤ m by omega)
        rw [Int.natAbs_natCast] at hnx
        have hA0 : A ≠ 0 := by omega
        have HAb := Lib.hid (show blen A ≤ 140000 by omega)
        have HDS := Lib.hid (fun (k : Nat) (hk : 2 * ((60 : Nat) : Int) + 4 - (blen A : Int) ≤ (k : Nat)) (hev : (xe - (k : Int)) % 2 = 0) => (rootV_any (mode := mode) (e := xe) (k := k) hA0 hk hev).trans HR.out)
        have HBG := Lib.hid (fun (k : Nat) (hk : 2 * ((60 : Nat) : Int) + 4 - (blen A : Int) ≤ (k : Nat)) => root_big (k := k) hA0 hk)
        clear hsg h3 h4 HR hA0
        go_wp2_with fail
        refine CS.out.mono ?_
        rintro e w4 ⟨rfl, hw4⟩
        have hw4 : Ext w3 w4 := hw4
        have bx := bx.ext hw4
        have gm := gm.below hw4
        have HT := Lib.hid (HT.out.below hw4)
        obtain ⟨hB4, hB4'⟩ := bnext hB3 (by omega) hw4
        have hz5 := Below.size hw4
        clear k0 k1 k2 k3 CS hw4 hB3
        have k0 := bx.c0
        have k1 := bx.c1
        have k2 := bx.c2
        have k3 := bx.c3
        have CR : Calls Tryz.prog 93 #[.agg #[.bool xn, .slice xo xk xc], .int .i64 xe, .int .i64 60] w4 fun r w' => ∃ k qn qo qk qc, 2 * ((60 : Nat) : Int) + 4 - (blen A : Int) ≤ (k : Nat) ∧ (xe - (k : Int)) % 2 = 0 ∧ k ≤ 9001 ∧ r = .returned (.tuple #[.agg #[.bool qn, .slice qo qk qc], .int .i64 ((xe - (k : Int)) / 2), .bool (decide (isq (A * 2 ^ k) * isq (A * 2 ^ k) ≠ A * 2 ^ k))]) ∧ Bn w' qn qo qk qc ((isq (A * 2 ^ k) : Nat) : Int) ∧ Ext w4 w' := refRoot_any A _ _ _ _ 60 xe w4 gm HAb.out (by omega) (by omega)
        have CR := Lib.hid CR
        go_wp2_with fail
        refine CR.out.mono ?_
        rintro r w5 ⟨k, qn, qo, qk, qc, hk, hev, hk9, rfl, hq, hw5⟩
        have HV := HDS.out k hk hev
        have HBIG := HBG.out k hk
        have hIb : blen (isq (A * 2 ^ k)) ≤ 900000 := by
          have h2 := blen_lt A
          have h3 : A * 2 ^ k < 2 ^ (blen A + k) := by rw [Nat.pow_add]; exact Nat.mul_lt_mul_of_pos_right h2 (Nat.pow_pos (by omega))
          have h4 : isq (A * 2 ^ k) ≤ A * 2 ^ k := by
            have h5 := (isq_spec (A * 2 ^ k)).1
            rcases Nat.eq_zero_or_pos (isq (A * 2 ^ k)) with h | h
            · omega
            · exact Nat.le_trans (Nat.le_mul_of_pos_left _ h) h5
          exact Nat.le_trans (blen_le_of_lt (Nat.lt_of_le_of_lt h4 h3)) (by have := HAb.out; omega)
        clear hk hev
        obtain ⟨t, ht⟩ : ∃ t, decide (isq (A * 2 ^ k) * isq (A * 2 ^ k) ≠ A * 2 ^ k) = t := ⟨_, rfl⟩
        obtain ⟨Q, hQ⟩ : ∃ Q, isq (A * 2 ^ k) = Q := ⟨_, rfl⟩
        rw [ht] at HV
        rw [hQ] at HV hq hIb HBIG
        rw [ht]
        clear ht hQ
        have bx := bx.ext hw5
        have HT := Lib.hid (HT.out.below hw5)
        obtain ⟨hB5, hB5'⟩ := bnext hB4 (by omega) hw5
        have hz6 := Below.size hw5
        have HV := Lib.hid HV
        have HIb := Lib.hid hIb
        have HBIG := Lib.hid HBIG
        obtain ⟨E, hE⟩ : ∃ E : Int, (xe - (k : Int)) / 2 = E := ⟨_, rfl⟩
        have hEb : -1000000 ≤ E ∧ E ≤ 1000000 := by omega
        rw [hE] at HV
        rw [hE]
        clear k0 k1 k2 k3 CR hw5 hB4 hE hk9 hIb bx
        go_upto_region 7 with fail
        obtain ⟨U, hU, hu, hG, hzu⟩ := box_new w5 qn qo qk qc
        rw [← hU]
        clear hU
        have hq := hq.below hu
        have HT := Lib.hid (HT.out.below hu)
        obtain ⟨hB6, hB6'⟩ := bnext hB5 (by omega) hu
        have g0 := hG.c0
        have g1 := hG.c1
        have CR := refRoundedT_any false qn qo qk qc Q E t mode U (bn_bg_of hq (by rw [Int.natAbs_natCast]; have := HIb.out; omega)) (big_ne HBIG.out) (big_place HBIG.out) HIb.out hEb.1 hEb.2 HT.out
        rw [HV.out] at CR
        have CR := Lib.hid CR
        clear hu hq HBIG
        go_wp2_with fail
        with_reducible refine CR.out.mono ?_
        rintro r w7 ⟨rfl, hw7⟩
        have hB7 : Below B w w7 := (bnext hB6 (by omega) hw7).1
        have HF := Lib.hid hB7
        clear g0 g1 CR hB6
        go_wp2
        go_ret
        refine ⟨rfl, ?_⟩
        show Below _ _ _; rw [HBe.out]; exact HF.out
end Go.Proofs.YtolghagbpnjpgaaGreatDoor
