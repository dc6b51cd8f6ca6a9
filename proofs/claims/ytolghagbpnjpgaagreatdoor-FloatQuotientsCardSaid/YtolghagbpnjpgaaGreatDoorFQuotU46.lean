import Derived.Test.YtolghagbpnjpgaaGreatDoorFQuotU44
namespace Go.Proofs.YtolghagbpnjpgaaGreatDoor
open Go Go.RowKit

set_option maxRecDepth 100000 in
set_option maxHeartbeats 8000000 in
theorem refRoot_any (A : Nat) (nb : Bool) (ao : Option Addr) (n ca p : Nat) (e : Int) (w : World) (ha : Bg w nb ao n ca (A : Int)) (hbA : blen A ≤ 140000) (he : -1000000 ≤ e ∧ e ≤ 1000000) (hp : p ≤ 4096) :
    Calls Tryz.prog 93 #[.agg #[.bool nb, .slice ao n ca], .int .i64 e, .int .i64 (p : Int)] w fun r w' => ∃ k qn qo qk qc, 2 * (p : Int) + 4 - (blen A : Int) ≤ (k : Nat) ∧ (e - (k : Int)) % 2 = 0 ∧ k ≤ 9001 ∧ r = .returned (.tuple #[.agg #[.bool qn, .slice qo qk qc], .int .i64 ((e - (k : Int)) / 2), .bool (decide (isq (A * 2 ^ k) * isq (A * 2 ^ k) ≠ A * 2 ^ k))]) ∧ Bn w' qn qo qk qc ((isq (A * 2 ^ k) : Nat) : Int) ∧ Ext w w' := by
  have HMX := Lib.hid (show max (2 * (p : Int) + 6 - (blen A : Int)) 0 = ((2 * p + 6 - blen A : Nat) : Int) by omega)
  go_enter Tryz.func93, Tryz.ntmps93
  go_upto_region 1 with fail
  obtain ⟨W, hW, hB, hx, hD, hz⟩ := boxes1 w nb ao n ca
  rw [← hW]
  clear hW
  have ha := ha.below hB
  generalize hBe : w.heap.size = B at *
  have HBe := Lib.hid hBe; clear hBe
  have hn0 := ha.small
  have k0 := hx.c0
  have k1 := hx.c1
  have CA := Lib.hid (show Calls Tryz.prog 150 #[.agg #[.bool nb, .slice ao n ca]] W fun e w' => e = .returned (.int .i64 ((blen A : Nat) : Int)) ∧ Ext W w' from refBitLen_any nb ao n ca (A : Int) W ha)
  go_wp2_with fail
  refine CA.out.mono ?_
  rintro r V ⟨rfl, hV⟩
  have ha := ha.below hV
  have hx := hx.below hV
  have hD := hD.below hV
  have hBV : Below B w V := Below.trans hB (Below.mono hV (by omega))
  have hzV : B + 2 ≤ V.heap.size := by have := Below.size hV; omega
  clear k0 k1 CA hV hB hz
  go_upto_region 2 with fail
  rw [HMX.out]
  clear HMX
  have hke : 2 * p + 6 - blen A ≤ 9000 := by omega
  have hk1 : 2 * (p : Int) + 6 - (blen A : Int) ≤ ((2 * p + 6 - blen A : Nat) : Int) := by omega
  generalize 2 * p + 6 - blen A = k at *
  have hwk : IntKind.i64.wrap (e - (k : Int)) = e - (k : Int) := IntWalk.i64_in _ ⟨by omega, by omega⟩
  by_cases hpar : (e - (k : Int)) % 2 = 0
  · have htm : (e - (k : Int)).tmod 2 = 0 := by
      rw [Int.tmod_eq_zero_of_dvd (Int.dvd_of_emod_eq_zero hpar)]
    have htb : ((e - (k : Int)).tmod 2 != 0) = false := by rw [htm]; rfl
    have HK4 := Lib.hid (show 2 * (p : Int) + 4 - (blen A : Int) ≤ (k : Int) by omega)
    have HEV := Lib.hid hpar
    obtain ⟨M, hM⟩ : ∃ M, A * 2 ^ k = M := ⟨_, rfl⟩
    have hbM := Lib.hid (show blen M ≤ 300000 by
      have h1 := blen_lt A
      have h2 : A * 2 ^ k < 2 ^ (blen A + k) := by rw [Nat.pow_add]; exact Nat.mul_lt_mul_of_pos_right h1 (Nat.pow_pos (by omega))
      rw [← hM]
      exact Nat.le_trans (blen_le_of_lt h2) (by omega))
    have C1 := Lib.hid (fun W (hE : Ext V W) => (show Calls Tryz.prog 153 #[.agg #[.bool nb, .slice ao n ca], .int .i64 (k : Int)] W fun e w' => ∃ nr ro l cr, e = .returned (.agg #[.bool nr, .slice ro l cr]) ∧ Bn w' nr ro l cr (M : Int) ∧ Ext W w' from by
      rw [← hM, Int.natCast_mul, Int.natCast_pow]
      exact (refShift_up nb ao n ca (A : Int) k W (ha.below hE) (by omega)).mono fun r w' ⟨nr, ro, l, cr, h1, h2, _, h4⟩ => ⟨nr, ro, l, cr, h1, h2, h4⟩))
    have HM := Lib.hid hM
    clear hM
    clear hpar
    go_upto_region 4 with fail
    have k0 := hx.c0
    have k1 := hx.c1
    go_wp2_with fail
    refine (C1.out _ (Ext.refl _)).mono ?_
    rintro r w2 ⟨mn, mo, ml, mc, rfl, hm, hw2⟩
    have hx := hx.below hw2
    have hD := hD.below hw2
    have hB2 : Below B w w2 := Below.trans hBV (Below.mono hw2 (by omega))
    have hz2 : B + 2 ≤ w2.heap.size := by have := Below.size hw2; omega
    clear k0 k1 hw2 hBV hzV
    go_upto_region 5 with fail
    obtain ⟨U, hU, hu, hG, hzu⟩ := box_new w2 mn mo ml mc
    rw [← hU]
    clear hU
    have hm := hm.below hu
    have hx := hx.below hu
    have hD := hD.below hu
    have hB3 : Below B w U := Below.trans hB2 (Below.mono hu (by omega))
    have hDG : B + 1 ≠ w2.heap.size := by omega
    clear hu hB2
    generalize w2.heap.size = G at *
    have k0 := hG.c0
    have k1 := hG.c1
    have hml : ml ≤ 40000 := bn_len hm (by rw [Int.natAbs_natCast]; have := hbM.out; omega)
    have CQ := Lib.hid (refSqrt_any mn mo ml mc M U (hm.bg (by omega)) (by have := hbM.out; omega) (by omega))
    go_wp2_with fail
    refine CQ.out.mono ?_
    rintro r w4 ⟨qn, qo, qk, qc, s, rfl, hq, hs1, hs2, hw4⟩
    obtain rfl := isq_of hs1 hs2
    have hG := hG.below hw4
    have hm := hm.below hw4
    have hD := hD.below hw4
    have hB4 : Below B w w4 := Below.trans hB3 (Below.mono hw4 (by omega))
    have hqb : blen (isq M) ≤ 1000000 := by
      have h2 : isq M ≤ M := by
        rcases Nat.eq_zero_or_pos (isq M) with h | h
        · omega
        · exact Nat.le_trans (Nat.le_mul_of_pos_left _ h) hs1
      exact Nat.le_trans (blen_le_of_lt (Nat.lt_of_le_of_lt h2 (blen_lt M))) (by have := hbM.out; omega)
    have hpb : blen (isq M * isq M) ≤ 1000000 := Nat.le_trans (blen_le_of_lt (Nat.lt_of_le_of_lt hs1 (blen_lt M))) (by have := hbM.out; omega)
    have hql : qk ≤ 40000 := bn_len hq (by rw [Int.natAbs_natCast]; exact hqb)
    clear hs1 hs2 CQ hw4 hB3 k0 k1 hx
    have d0 := hD.c0
    have d1 := hD.c1
    have d2 := hD.f 0
    have d3 := hD.f 1
    have o1 := only_set2 w4 (B + 1) (.bool qn) (.slice qo qk qc)
    have hD5 := hD.stored qn qo qk qc
    have hG5 := hG.only o1 (Ne.symm hDG)
    have hq5 := Bn.only_bx' hq hD o1
    have hm5 := Bn.only_bx' hm hD o1
    have hB5 := Below.trans hB4 (o1.below (Nat.le_succ B))
    clear o1
    go_upto_region 6 with fail
    generalize (w4.setCell ⟨B + 1, 0, none⟩ (.bool qn)).setCell ⟨B + 1, 1, none⟩ (.slice qo qk qc) = X at *
    clear d0 d1 d2 d3 hD hG hq hm hB4
    obtain ⟨sg, hsg⟩ : ∃ sg, sgn3 ((isq M : Int) * (isq M : Int)) (M : Int) = sg := ⟨_, rfl⟩
    have hsb : (sg != 0) = decide (isq M * isq M ≠ M) := by
      rw [show (sg != 0) = decide (sg ≠ 0) from by by_cases h : sg = 0 <;> simp [h], ← hsg]
      unfold sgn3
      apply decide_eq_decide.2
      rw [← Int.natCast_mul]
      split
      · omega
      · split <;> omega
    have HSB := Lib.hid hsb
    have HSG := Lib.hid hsg
    have HPB := Lib.hid hpb
    have CM := Lib.hid (fun W' (hE : Ext X W') => refMul_any qn qn qo qk qc qo qk qc (isq M : Int) (isq M : Int) W' ((hq5.bg (by omega)).below hE) ((hq5.bg (by omega)).below hE))
    have HC := Lib.hid (show ∀ wx, Ext X wx → (wx.cell? ⟨B + 1, 0, none⟩ = some (.bool qn) ∧ wx.cell? ⟨B + 1, 1, none⟩ = some (.slice qo qk qc)) ∧ (wx.cell? ⟨G, 0, none⟩ = some (.bool mn) ∧ wx.cell? ⟨G, 1, none⟩ = some (.slice mo ml mc)) from fun wx h => ⟨⟨(hD5.below h).c0, (hD5.below h).c1⟩, (hG5.below h).c0, (hG5.below h).c1⟩)
    have HS := Lib.hid (show ∀ wx, Ext X wx → (fun wx => (wx.cell? ⟨B + 1, 0, none⟩ = some (.bool qn) ∧ wx.cell? ⟨B + 1, 1, none⟩ = some (.slice qo qk qc)) ∧ (wx.cell? ⟨G, 0, none⟩ = some (.bool mn) ∧ wx.cell? ⟨G, 1, none⟩ = some (.slice mo ml mc))) ((wx.setCell ⟨B + 1, 0, none⟩ (.bool qn)).setCell ⟨B + 1, 1, none⟩ (.slice qo qk qc)) from fun wx h => ⟨⟨((hD5.below h).stored qn qo qk qc).c0, ((hD5.below h).stored qn qo qk qc).c1⟩, bcells_stored hDG ⟨(hG5.below h).c0, (hG5.below h).c1⟩⟩)
    clear hsg hsb hpb hqb
    have stx : Ext X X.drew := (Below.refl _ _).drew
    obtain ⟨⟨k0, k1⟩, l0, l1⟩ := HC.out X (Ext.refl X)
    have hwk : IntKind.i64.wrap (e - (k : Int)) = e - (k : Int) := IntWalk.i64_in _ ⟨by omega, by omega⟩
    have hwd : IntKind.i64.wrap ((e - (k : Int)).tdiv 2) = (e - (k : Int)) / 2 := by
      have h2 : (e - (k : Int)).tdiv 2 = (e - (k : Int)) / 2 := Int.tdiv_eq_ediv_of_dvd (Int.dvd_of_emod_eq_zero HEV.out)
      rw [h2]
      exact IntWalk.i64_in _ ⟨by omega, by omega⟩
    have hdg1 : ¬ B + 1 = G := hDG
    have hdg2 : ¬ G = B + 1 := Ne.symm hDG
    go_region_held3 (fun wx => (wx.cell? ⟨B + 1, 0, none⟩ = some (.bool qn) ∧ wx.cell? ⟨B + 1, 1, none⟩ = some (.slice qo qk qc)) ∧ (wx.cell? ⟨G, 0, none⟩ = some (.bool mn) ∧ wx.cell? ⟨G, 1, none⟩ = some (.slice mo ml mc)))
      (first | exact HC.out _ (by first | assumption | exact Ext.refl _) | exact HS.out _ (by assumption))
      (first
        | (go_at_call 133; refine (CM.out _ stx).mono ?_; rintro r w5 ⟨pn, po, pk, pc, rfl, hp, hv5⟩; have ex5 : Ext X w5 := Ext.trans stx hv5)
        | (go_at_call 161; refine (refCmp_any _ _ _ _ _ _ _ _ _ _ _ (bn_bg_of hp (by rw [← Int.natCast_mul, Int.natAbs_natCast]; exact HPB.out)) ((hm5.bg (by omega)).below ex5) (Nat.le_trans (bn_len hp (by rw [← Int.natCast_mul, Int.natAbs_natCast]; exact HPB.out)) (by omega)) (by omega)).mono ?_; rw [HSG.out]; rintro r w6 ⟨rfl, hv6⟩; have ex6 : Ext X w6 := Ext.trans ex5 hv6; have fD := hD5.below ex6; have d0 := fD.c0; have d1 := fD.c1; have d2 := fD.f 0; have d3 := fD.f 1))
    all_goals
      have hst := fD.stored qn qo qk qc
      have z0 := hst.c0
      have z1 := hst.c1
      have HRES := Lib.hid (And.intro (Bn.only_bx' (hq5.below ex6) fD (only_set2 w6 (B + 1) (.bool qn) (.slice qo qk qc))) (Below.trans (Below.trans hB5 (Below.mono ex6 (by have := hD5.lt; omega))) ((only_set2 w6 (B + 1) (.bool qn) (.slice qo qk qc)).below (show B ≤ B + 1 by omega))))
      clear hst d0 d1 d2 d3
      go_wp2
      refine bodyPost_ret (v := .tuple #[.agg #[.bool qn, .slice qo qk qc], .int .i64 ((e - (k : Int)) / 2), .bool (sg != 0)]) (by simp [results, Tryz.results93, go_sem, z0, z1]) rfl ⟨k, qn, qo, qk, qc, HK4.out, HEV.out, by omega, by rw [HSB.out, HM.out], by rw [HM.out]; exact HRES.out.1, ?_⟩
      show Below _ _ _
      rw [HBe.out]
      exact HRES.out.2
  · have htb : ((e - (k : Int)).tmod 2 != 0) = true := by
      rw [bne_iff_ne]
      intro h
      exact hpar (Int.emod_eq_zero_of_dvd (Int.dvd_of_tmod_eq_zero h))
    have hwk1 : IntKind.i64.wrap ((k : Int) + 1) = ((k + 1 : Nat) : Int) := by rw [IntWalk.i64_in _ ⟨by omega, by omega⟩]; omega
    have hk1 : 2 * (p : Int) + 4 - (blen A : Int) ≤ ((k + 1 : Nat) : Int) := by omega
    have hev : (e - ((k + 1 : Nat) : Int)) % 2 = 0 := by omega
    have hke2 : k + 1 ≤ 9001 := by omega
    go_upto_region 3 with fail
    go_upto_region 4 with fail
    rw [show (k : Int) + 1 = ((k + 1 : Nat) : Int) by omega]
    clear hpar htb hwk1 hwk hke
    generalize k + 1 = k at *
    have HK4 := Lib.hid hk1
    have HEV := Lib.hid hev
    clear hev
    obtain ⟨M, hM⟩ : ∃ M, A * 2 ^ k = M := ⟨_, rfl⟩
    have hbM := Lib.hid (show blen M ≤ 300000 by
      have h1 := blen_lt A
      have h2 : A * 2 ^ k < 2 ^ (blen A + k) := by rw [Nat.pow_add]; exact Nat.mul_lt_mul_of_pos_right h1 (Nat.pow_pos (by omega))
      rw [← hM]
      exact Nat.le_trans (blen_le_of_lt h2) (by omega))
    have C1 := Lib.hid (fun W (hE : Ext V W) => (show Calls Tryz.prog 153 #[.agg #[.bool nb, .slice ao n ca], .int .i64 (k : Int)] W fun e w' => ∃ nr ro l cr, e = .returned (.agg #[.bool nr, .slice ro l cr]) ∧ Bn w' nr ro l cr (M : Int) ∧ Ext W w' from by
      rw [← hM, Int.natCast_mul, Int.natCast_pow]
      exact (refShift_up nb ao n ca (A : Int) k W (ha.below hE) (by omega)).mono fun r w' ⟨nr, ro, l, cr, h1, h2, _, h4⟩ => ⟨nr, ro, l, cr, h1, h2, h4⟩))
    have HM := Lib.hid hM
    clear hM
    have k0 := hx.c0
    have k1 := hx.c1
    go_wp2_with fail
    refine (C1.out _ (Ext.refl _)).mono ?_
    rintro r w2 ⟨mn, mo, ml, mc, rfl, hm, hw2⟩
    have hx := hx.below hw2
    have hD := hD.below hw2
    have hB2 : Below B w w2 := Below.trans hBV (Below.mono hw2 (by omega))
    have hz2 : B + 2 ≤ w2.heap.size := by have := Below.size hw2; omega
    clear k0 k1 hw2 hBV hzV
    go_upto_region 5 with fail
    obtain ⟨U, hU, hu, hG, hzu⟩ := box_new w2 mn mo ml mc
    rw [← hU]
    clear hU
    have hm := hm.below hu
    have hx := hx.below hu
    have hD := hD.below hu
    have hB3 : Below B w U := Below.trans hB2 (Below.mono hu (by omega))
    have hDG : B + 1 ≠ w2.heap.size := by omega
    clear hu hB2
    generalize w2.heap.size = G at *
    have k0 := hG.c0
    have k1 := hG.c1
    have hml : ml ≤ 40000 := bn_len hm (by rw [Int.natAbs_natCast]; have := hbM.out; omega)
    have CQ := Lib.hid (refSqrt_any mn mo ml mc M U (hm.bg (by omega)) (by have := hbM.out; omega) (by omega))
    go_wp2_with fail
    refine CQ.out.mono ?_
    rintro r w4 ⟨qn, qo, qk, qc, s, rfl, hq, hs1, hs2, hw4⟩
    obtain rfl := isq_of hs1 hs2
    have hG := hG.below hw4
    have hm := hm.below hw4
    have hD := hD.below hw4
    have hB4 : Below B w w4 := Below.trans hB3 (Below.mono hw4 (by omega))
    have hqb : blen (isq M) ≤ 1000000 := by
      have h2 : isq M ≤ M := by
        rcases Nat.eq_zero_or_pos (isq M) with h | h
        · omega
        · exact Nat.le_trans (Nat.le_mul_of_pos_left _ h) hs1
      exact Nat.le_trans (blen_le_of_lt (Nat.lt_of_le_of_lt h2 (blen_lt M))) (by have := hbM.out; omega)
    have hpb : blen (isq M * isq M) ≤ 1000000 := Nat.le_trans (blen_le_of_lt (Nat.lt_of_le_of_lt hs1 (blen_lt M))) (by have := hbM.out; omega)
    have hql : qk ≤ 40000 := bn_len hq (by rw [Int.natAbs_natCast]; exact hqb)
    clear hs1 hs2 CQ hw4 hB3 k0 k1 hx
    have d0 := hD.c0
    have d1 := hD.c1
    have d2 := hD.f 0
    have d3 := hD.f 1
    have o1 := only_set2 w4 (B + 1) (.bool qn) (.slice qo qk qc)
    have hD5 := hD.stored qn qo qk qc
    have hG5 := hG.only o1 (Ne.symm hDG)
    have hq5 := Bn.only_bx' hq hD o1
    have hm5 := Bn.only_bx' hm hD o1
    have hB5 := Below.trans hB4 (o1.below (Nat.le_succ B))
    clear o1
    go_upto_region 6 with fail
    generalize (w4.setCell ⟨B + 1, 0, none⟩ (.bool qn)).setCell ⟨B + 1, 1, none⟩ (.slice qo qk qc) = X at *
    clear d0 d1 d2 d3 hD hG hq hm hB4
    obtain ⟨sg, hsg⟩ : ∃ sg, sgn3 ((isq M : Int) * (isq M : Int)) (M : Int) = sg := ⟨_, rfl⟩
    have hsb : (sg != 0) = decide (isq M * isq M ≠ M) := by
      rw [show (sg != 0) = decide (sg ≠ 0) from by by_cases h : sg = 0 <;> simp [h], ← hsg]
      unfold sgn3
      apply decide_eq_decide.2
      rw [← Int.natCast_mul]
      split
      · omega
      · split <;> omega
    have HSB := Lib.hid hsb
    have HSG := Lib.hid hsg
    have HPB := Lib.hid hpb
    have CM := Lib.hid (fun W' (hE : Ext X W') => refMul_any qn qn qo qk qc qo qk qc (isq M : Int) (isq M : Int) W' ((hq5.bg (by omega)).below hE) ((hq5.bg (by omega)).below hE))
    have HC := Lib.hid (show ∀ wx, Ext X wx → (wx.cell? ⟨B + 1, 0, none⟩ = some (.bool qn) ∧ wx.cell? ⟨B + 1, 1, none⟩ = some (.slice qo qk qc)) ∧ (wx.cell? ⟨G, 0, none⟩ = some (.bool mn) ∧ wx.cell? ⟨G, 1, none⟩ = some (.slice mo ml mc)) from fun wx h => ⟨⟨(hD5.below h).c0, (hD5.below h).c1⟩, (hG5.below h).c0, (hG5.below h).c1⟩)
    have HS := Lib.hid (show ∀ wx, Ext X wx → (fun wx => (wx.cell? ⟨B + 1, 0, none⟩ = some (.bool qn) ∧ wx.cell? ⟨B + 1, 1, none⟩ = some (.slice qo qk qc)) ∧ (wx.cell? ⟨G, 0, none⟩ = some (.bool mn) ∧ wx.cell? ⟨G, 1, none⟩ = some (.slice mo ml mc))) ((wx.setCell ⟨B + 1, 0, none⟩ (.bool qn)).setCell ⟨B + 1, 1, none⟩ (.slice qo qk qc)) from fun wx h => ⟨⟨((hD5.below h).stored qn qo qk qc).c0, ((hD5.below h).stored qn qo qk qc).c1⟩, bcells_stored hDG ⟨(hG5.below h).c0, (hG5.below h).c1⟩⟩)
    clear hsg hsb hpb hqb
    have stx : Ext X X.drew := (Below.refl _ _).drew
    obtain ⟨⟨k0, k1⟩, l0, l1⟩ := HC.out X (Ext.refl X)
    have hwk : IntKind.i64.wrap (e - (k : Int)) = e - (k : Int) := IntWalk.i64_in _ ⟨by omega, by omega⟩
    have hwd : IntKind.i64.wrap ((e - (k : Int)).tdiv 2) = (e - (k : Int)) / 2 := by
      have h2 : (e - (k : Int)).tdiv 2 = (e - (k : Int)) / 2 := Int.tdiv_eq_ediv_of_dvd (Int.dvd_of_emod_eq_zero HEV.out)
      rw [h2]
      exact IntWalk.i64_in _ ⟨by omega, by omega⟩
    have hdg1 : ¬ B + 1 = G := hDG
    have hdg2 : ¬ G = B + 1 := Ne.symm hDG
    go_region_held3 (fun wx => (wx.cell? ⟨B + 1, 0, none⟩ = some (.bool qn) ∧ wx.cell? ⟨B + 1, 1, none⟩ = some (.slice qo qk qc)) ∧ (wx.cell? ⟨G, 0, none⟩ = some (.bool mn) ∧ wx.cell? ⟨G, 1, none⟩ = some (.slice mo ml mc)))
      (first | exact HC.out _ (by first | assumption | exact Ext.refl _) | exact HS.out _ (by assumption))
      (first
        | (go_at_call 133; refine (CM.out _ stx).mono ?_; rintro r w5 ⟨pn, po, pk, pc, rfl, hp, hv5⟩; have ex5 : Ext X w5 := Ext.trans stx hv5)
        | (go_at_call 161; refine (refCmp_any _ _ _ _ _ _ _ _ _ _ _ (bn_bg_of hp (by rw [← Int.natCast_mul, Int.natAbs_natCast]; exact HPB.out)) ((hm5.bg (by omega)).below ex5) (Nat.le_trans (bn_len hp (by rw [← Int.natCast_mul, Int.natAbs_natCast]; exact HPB.out)) (by omega)) (by omega)).mono ?_; rw [HSG.out]; rintro r w6 ⟨rfl, hv6⟩; have ex6 : Ext X w6 := Ext.trans ex5 hv6; have fD := hD5.below ex6; have d0 := fD.c0; have d1 := fD.c1; have d2 := fD.f 0; have d3 := fD.f 1))
    all_goals
      have hst := fD.stored qn qo qk qc
      have z0 := hst.c0
      have z1 := hst.c1
      have HRES := Lib.hid (And.intro (Bn.only_bx' (hq5.below ex6) fD (only_set2 w6 (B + 1) (.bool qn) (.slice qo qk qc))) (Below.trans (Below.trans hB5 (Below.mono ex6 (by have := hD5.lt; omega))) ((only_set2 w6 (B + 1) (.bool qn) (.slice qo qk qc)).below (show B ≤ B + 1 by omega))))
      clear hst d0 d1 d2 d3
      go_wp2
      refine bodyPost_ret (v := .tuple #[.agg #[.bool qn, .slice qo qk qc], .int .i64 ((e - (k : Int)) / 2), .bool (sg != 0)]) (by simp [results, Tryz.results93, go_sem, z0, z1]) rfl ⟨k, qn, qo, qk, qc, HK4.out, HEV.out, by omega, by rw [HSB.out, HM.out], by rw [HM.out]; exact HRES.out.1, ?_⟩
      show Below _ _ _
      rw [HBe.out]
      exact HRES.out.2
end Go.Proofs.YtolghagbpnjpgaaGreatDoor
