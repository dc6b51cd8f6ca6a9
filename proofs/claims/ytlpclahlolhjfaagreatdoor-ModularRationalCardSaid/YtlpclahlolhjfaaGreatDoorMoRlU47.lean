import Derived.Test.YtlpclahlolhjfaaGreatDoorMoRlU38
import Derived.Test.YtlpclahlolhjfaaGreatDoorMoRlU44
import Derived.Test.YtlpclahlolhjfaaGreatDoorMoRlU46
import Derived.Test.YtlpclahlolhjfaaGreatDoorMoRlU29
import Derived.Test.YtlpclahlolhjfaaGreatDoorMoRlU18
import Derived.Test.YtlpclahlolhjfaaGreatDoorMoRlU16
namespace Go.Proofs.YtlpclahlolhjfaaGreatDoor
open Go Go.RowKit

/-- a fraction in lowest terms -/
theorem frac_low {num den : Int} (h1 : num.natAbs ≤ 1000) (h2 : 1 ≤ den) (h3 : den ≤ 1000) : ∃ g : Nat, Nat.gcd num.natAbs den.natAbs = g ∧ 1 ≤ g ∧ g ≤ 1000 ∧ ∃ p q : Int, num.tdiv (g : Int) = p ∧ den.tdiv (g : Int) = q ∧ p.natAbs ≤ 1000 ∧ 1 ≤ q ∧ q ≤ 1000 ∧ Nat.gcd p.natAbs q.natAbs = 1 := by
  obtain ⟨g, hg⟩ : ∃ g, Nat.gcd num.natAbs den.natAbs = g := ⟨_, rfl⟩
  have hd : den.natAbs ≠ 0 := by omega
  have hg0 : 0 < g := by rw [← hg]; exact Nat.gcd_pos_of_pos_right _ (by omega)
  have hgl : g ≤ den.natAbs := by rw [← hg]; exact Nat.gcd_le_right _ (by omega)
  have hgd : g ∣ den.natAbs := by rw [← hg]; exact Nat.gcd_dvd_right _ _
  refine ⟨g, hg, hg0, by omega, _, _, rfl, rfl, ?_, ?_, ?_, ?_⟩
  · rw [Int.natAbs_tdiv, Int.natAbs_natCast]
    exact Nat.le_trans (Nat.div_le_self _ _) h1
  · have e : den.tdiv (g : Int) = ((den.natAbs / g : Nat) : Int) := by
      rw [Int.tdiv_eq_ediv_of_nonneg (by omega), Int.natCast_ediv, Int.natAbs_of_nonneg (by omega)]
    rw [e]
    have := Nat.div_pos hgl hg0
    omega
  · have e : den.tdiv (g : Int) = ((den.natAbs / g : Nat) : Int) := by
      rw [Int.tdiv_eq_ediv_of_nonneg (by omega), Int.natCast_ediv, Int.natAbs_of_nonneg (by omega)]
    rw [e]
    have := Nat.div_le_self den.natAbs g
    omega
  · rw [Int.natAbs_tdiv, Int.natAbs_tdiv, Int.natAbs_natCast]
    have := Nat.coprime_div_gcd_div_gcd (m := num.natAbs) (n := den.natAbs) (by rw [hg]; exact hg0)
    rw [hg] at this
    exact this
theorem pow_far2 {a : Nat} (N : Nat) (h : a < 4294967296 ^ 20) (hN : 20 ≤ N) : a < 4294967296 ^ N := Nat.lt_of_lt_of_le h (Nat.pow_le_pow_right (by decide) hN)
theorem mprime : mr 2147483647 = true := mr_run (p := 2147483647) (by omega) (by omega) (by decide +kernel)
theorem q_mod {q : Int} (h1 : 1 ≤ q) (h2 : q ≤ 1000) : q % 2147483647 ≠ 0 := by omega
theorem v_range (q : Int) : 0 ≤ invZ (q % 2147483647) 2147483647 ∧ invZ (q % 2147483647) 2147483647 < 2147483647 := invZ_lt (by omega)
theorem pv_limbs {p v : Int} (hp : p.natAbs ≤ 1000) (hv : 0 ≤ v ∧ v < 2147483647) : (p * v).natAbs < 4294967296 ^ 2 := abs_mul (N := 1) (M := 1) (by omega) (by omega)

set_option maxRecDepth 100000 in
set_option maxHeartbeats 8000000 in
theorem mrational_any (xn mn : Bool) (xo mo : Option Addr) (xk xc mk mc : Nat) (num den p0 : Int) (w : World) (hx : xk ≤ 1099511627776 → ∃ zs, Sl w xo xk xc zs) (hm : mk ≤ 1099511627776 → ∃ zs, Sl w mo mk mc zs) (hT : Table w) (hT64 : Table64 w) (hP : Pow10 w) :
    Calls Tryz.prog 4 #[.agg #[.bool xn, .slice xo xk xc], .agg #[.bool mn, .slice mo mk mc], .int .i64 num, .int .i64 den, .int .i64 p0] w fun e w' => e = .returned (.bool true) ∧ Ext w w' := by
  go_enter Tryz.func4, Tryz.ntmps4
  go_wp2_with fail
  obtain ⟨W, hW, hB, hbx, hbm⟩ := box_pair w xn xo xk xc mn mo mk mc
  rw [← hW]
  clear hW
  have HE := Lib.hid hB
  have HT := Lib.hid (hT.below hB)
  have HT64 := Lib.hid (hT64.below hB)
  have HAW := Lib.hid (show ∀ wx, Ext W wx → Calls Tryz.prog 5 #[] wx fun e w' => e = .returned (.bool true) ∧ Ext wx w' from fun wx h => mawake_any wx ((hT64.below hB).below h) ((hP.below hB).below h))
  have HZX := Lib.hid (show xk ≤ 1099511627776 → ∃ zs, Sl W xo xk xc zs from fun h => (hx h).elim fun zs hz => ⟨zs, hz.below hB⟩)
  have HZM := Lib.hid (show mk ≤ 1099511627776 → ∃ zs, Sl W mo mk mc zs from fun h => (hm h).elim fun zs hz => ⟨zs, hz.below hB⟩)
  generalize w.heap.size = B at *
  clear hx hm hT hT64 hP hB
  have HBX := Lib.hid hbx
  have HBM := Lib.hid hbm
  have x0 := hbx.c0
  have x1 := hbx.c1
  by_cases h10 : xk ≤ 10
  · refine (slim_yes xn xo xk xc 10 W h10).mono ?_
    rintro e w1 ⟨rfl, h1⟩
    have HE1 := Lib.hid h1
    have hbm := hbm.below h1
    clear x0 x1 h1 hbx
    have x0 := hbm.c0
    have x1 := hbm.c1
    by_cases h20 : mk ≤ 10
    · go_wp2_with fail
      refine (slim_yes mn mo mk mc 10 w1 h20).mono ?_
      rintro e w2 ⟨rfl, h2⟩
      have HE2 := Lib.hid (HE1.out.trans h2)
      clear x0 x1 h2 hbm
      obtain ⟨zs, hzs⟩ := HZX.out (by omega)
      obtain ⟨X, hX⟩ : ∃ X, sgd xn zs = X := ⟨_, rfl⟩
      have hBX : Bg W xn xo xk xc X := ⟨⟨zs, hzs, hX.symm⟩, by omega⟩
      obtain ⟨ys, hys⟩ := HZM.out (by omega)
      obtain ⟨M, hM⟩ : ∃ M, sgd mn ys = M := ⟨_, rfl⟩
      have hBM : Bg W mn mo mk mc M := ⟨⟨ys, hys, hM.symm⟩, by omega⟩
      have hMl : M.natAbs < 4294967296 ^ 20 := by obtain ⟨_, _, _, _, _, _, _, a1, _⟩ := bg_ent hBM 20 (by omega) (by omega); exact a1
      obtain ⟨⟨A0, D0, ok⟩, hO⟩ : ∃ o, ratOut X M = o := ⟨_, rfl⟩
      have CR := Lib.hid (fun wx (h : Ext W wx) => rational_any xn mn xo mo xk xc mk mc X M A0 D0 ok wx (hBX.below h) (hBM.below h) (by omega) (by omega) hMl (HT.out.below h) hO)
      have CS := Lib.hid (fun wx (h : Ext W wx) => refRational_any xn mn xo mo xk xc mk mc X M A0 D0 ok wx (hBX.below h) (hBM.below h) (by omega) (by omega) hMl hO)
      clear hzs hX hys hM hBX hBM hMl hO HZX HZM
      have hbx := HBX.out.below HE2.out
      have hbm := HBM.out.below HE2.out
      have k0 := hbx.c0
      have k1 := hbx.c1
      have l0 := hbm.c0
      have l1 := hbm.c1
      go_wp2_with fail
      refine (CR.out _ HE2.out).mono ?_
      rintro e w3 ⟨an, ao, ak, ac, dn, dp, dk, dc, rfl, hA, hD, hE⟩
      have HE3 := Lib.hid (HE2.out.trans hE)
      clear k0 k1 l0 l1 hbx hbm hE CR
      go_upto_region 4 with fail
      obtain ⟨V, hV, hE, ha, hd⟩ := box_pair w3 an ao ak ac dn dp dk dc
      rw [← hV]
      clear hV
      have HE4 := Lib.hid (HE3.out.trans hE)
      have hA := hA.below hE
      have hD := hD.below hE
      generalize w3.heap.size = G at *
      clear hE
      have hbx := HBX.out.below HE4.out
      have hbm := HBM.out.below HE4.out
      have k0 := hbx.c0
      have k1 := hbx.c1
      have l0 := hbm.c0
      have l1 := hbm.c1
      go_wp2_with fail
      refine (CS.out _ HE4.out).mono ?_
      rintro e w5 ⟨cn, co, ck, cc, en, eo, ek, ec, rfl, hC, hF, hE⟩
      have HE5 := Lib.hid (HE4.out.trans hE)
      have ha := ha.below hE
      have hd := hd.below hE
      have hA := hA.below hE
      have hD := hD.below hE
      clear k0 k1 l0 l1 hbx hbm hE CS
      go_upto_region 5 with fail
      obtain ⟨V5, hV, hE, hc, hf⟩ := box_pair w5 cn co ck cc en eo ek ec
      rw [← hV]
      clear hV
      have HE6 := Lib.hid (HE5.out.trans hE)
      have ha := ha.below hE
      have hd := hd.below hE
      have hA := hA.below hE
      have hD := hD.below hE
      have hC := hC.below hE
      have hF := hF.below hE
      generalize w5.heap.size = H at *
      clear hE
      have k0 := ha.c0
      have k1 := ha.c1
      have l0 := hc.c0
      have l1 := hc.c1
      go_wp2_with fail
      refine (big_eq an cn ao ak ac co ck cc A0 A0 _ hA hC rfl).mono ?_
      rintro e w6 ⟨rfl, hE⟩
      have HE7 := Lib.hid (HE6.out.trans hE)
      have hd := hd.below hE
      have hf := hf.below hE
      have hD := hD.below hE
      have hF := hF.below hE
      clear k0 k1 l0 l1 ha hc hA hC hE
      have k0 := hd.c0
      have k1 := hd.c1
      have l0 := hf.c0
      have l1 := hf.c1
      go_wp2_with fail
      refine (big_eq dn en dp dk dc eo ek ec D0 D0 _ hD hF rfl).mono ?_
      rintro e w7 ⟨rfl, hE⟩
      have HE8 := Lib.hid (HE7.out.trans hE)
      clear k0 k1 l0 l1 hd hf hD hF hE
      have hbe : (ok != ok) = false := by cases ok <;> rfl
      go_wp2_with fail
      refine (place_any num 2001 _ (by omega) (by omega)).mono ?_
      rintro e w8 ⟨j, hj, rfl, rfl⟩
      have e1 : IntKind.i64.wrap ((j : Int) - 1000) = (j : Int) - 1000 := IntWalk.i64_in _ (by omega)
      obtain ⟨nu, hnu⟩ : ∃ nu, (j : Int) - 1000 = nu := ⟨_, rfl⟩
      rw [hnu] at e1
      have e1b : IntKind.i64.wrap ((j : Int) - 1000) = nu := by rw [hnu]; exact e1
      have HNU := Lib.hid (show nu.natAbs ≤ 1000 by omega)
      clear hnu hj
      go_wp2_with fail
      refine (place_any den 1000 _ (by omega) (by omega)).mono ?_
      rintro e w8 ⟨i, hi, rfl, rfl⟩
      have e2 : IntKind.i64.wrap (1 + (i : Int)) = 1 + (i : Int) := IntWalk.i64_in _ (by omega)
      obtain ⟨de, hde⟩ : ∃ de, 1 + (i : Int) = de := ⟨_, rfl⟩
      rw [hde] at e2
      have e2b : IntKind.i64.wrap (1 + (i : Int)) = de := by rw [hde]; exact e2
      have HDE := Lib.hid (show 1 ≤ de ∧ de ≤ 1000 by omega)
      clear hde hi hbe
      go_wp2_with fail
      refine (refFromInt_any nu _ (by have := HNU.out; omega) (by have := HNU.out; omega)).mono ?_
      rintro e w9 ⟨fn, fo, fk, fc, rfl, hf, hE9⟩
      go_wp2_with fail
      refine (refFromInt_any de _ (by have := HDE.out; omega) (by have := HDE.out; omega)).mono ?_
      rintro e wb ⟨gn, go, gk, gc, rfl, hg, hEb⟩
      obtain ⟨g, hgc, hg1, hg2, p, q, hp, hq, hp1, hq1, hq2, hpq⟩ := frac_low (num := nu) (den := de) HNU.out HDE.out.1 HDE.out.2
      have CG := refGcd_any fn gn fo go fk gk fc gc nu de wb ((hf.bg (Nat.le_trans (few_limbs hf (k := 1) (by have := HNU.out; omega)) (by omega))).below hEb) (hg.bg (Nat.le_trans (few_limbs hg (k := 1) (by have := HDE.out; omega)) (by omega))) (pow_far2 100000000 (Nat.lt_of_lt_of_le (show nu.natAbs < 4294967296 ^ 1 by have := HNU.out; omega) (pow_le (by omega))) (by decide)) (pow_far2 100000000 (Nat.lt_of_lt_of_le (show de.natAbs < 4294967296 ^ 1 by have := HDE.out; omega) (pow_le (by omega))) (by decide))
      rw [hgc] at CG
      go_wp2_with fail
      refine CG.mono ?_
      rintro e wc ⟨hn, ho, hk, hc, rfl, hh, hEc⟩
      go_wp2_with fail
      refine (refInt_any hn ho hk hc (g : Int) _ (hh.bg (Nat.le_trans (few_limbs hh (k := 1) (by rw [Int.natAbs_natCast]; omega)) (by omega)))).mono ?_
      rw [(fits_yes (x := (g : Int)) (by omega)).1, (fits_yes (x := (g : Int)) (by omega)).2]
      rintro e wd ⟨rfl, hEd⟩
      have HE9 := Lib.hid (HE8.out.trans (hE9.trans (hEb.trans (hEc.trans hEd))))
      have HPQ := Lib.hid (And.intro hp1 (And.intro hq1 (And.intro hq2 hpq)))
      obtain ⟨G1, hG1⟩ : ∃ G1, (g : Int) = G1 := ⟨_, rfl⟩
      rw [hG1] at hp hq ⊢
      have hgz : (G1 == 0) = false := by apply beq_eq_false_iff_ne.2; omega
      have hgne : ¬ G1 = 0 := by omega
      have w1 : IntKind.i64.wrap p = p := IntWalk.i64_in _ (by omega)
      have w2' : IntKind.i64.wrap q = q := IntWalk.i64_in _ (by omega)
      have w3' : IntKind.i64.wrap (nu.tdiv G1) = p := by rw [hp]; exact w1
      have w4' : IntKind.i64.wrap (de.tdiv G1) = q := by rw [hq]; exact w2'
      have CIV := Lib.hid (fun wx (h : Table64 wx) => inv_yes q 2147483647 wx h mprime (q_mod hq1 hq2))
      obtain ⟨v, hv⟩ : ∃ v, invZ (q % 2147483647) 2147483647 = v := ⟨_, rfl⟩
      have HV := Lib.hid (v_range q)
      have HIN := Lib.hid (inv_small hq1 hq2)
      rw [hv] at CIV HV HIN
      have HRB := Lib.hid (rat_back (frac_dvd (p := p) HIN.out) hp1 hq1 hq2 hpq)
      clear hE9 hEb hEc hEd hf hg hh hgc hg1 hg2 hp1 hq1 hq2 hpq hG1 hv CG e1 e1b e2 e2b
      go_upto_region 10 with fail
      first | go_region | fail "r10"
      have HE9 := Lib.hid (show Ext W wd.drew from HE9.out.trans (Below.refl _ _).drew)
      generalize wd.drew = wz at *
      go_wp2_with fail
      refine (CIV.out _ (HT64.out.below HE9.out)).mono ?_
      rintro e we ⟨rfl, rfl⟩
      clear CIV w1 w2' w3' w4' hgz hgne hp hq
      go_wp2_with fail
      refine (fromInt_any p _ (by have := HPQ.out; omega) (by have := HPQ.out; omega)).mono ?_
      rintro e wf ⟨fn, fo, fk, fc, rfl, hf, hEf⟩
      go_wp2_with fail
      refine (fromInt_any v _ (by have := HV.out; omega) (by have := HV.out; omega)).mono ?_
      rintro e wg ⟨gn, go, gk, gc, rfl, hg, hEg⟩
      have hfl := few_limbs hf (k := 1) (by have := HPQ.out; omega)
      have hgl := few_limbs hg (k := 1) (by have := HV.out; omega)
      go_wp2_with fail
      refine (mul_any fn gn fo fk fc go gk gc p v wg ((hf.bg (by omega)).below hEg) (hg.bg (by omega)) (Or.inl (by omega))).mono ?_
      rintro e wh ⟨hn, ho, hk, hc, rfl, hh, hEh⟩
      have hhl := few_limbs hh (k := 2) (pv_limbs HPQ.out.1 HV.out)
      go_wp2_with fail
      refine (fromInt_any 2147483647 _ (by omega) (by omega)).mono ?_
      rintro e wi ⟨in', io, ik, ic, rfl, hi, hEi⟩
      have hil := few_limbs hi (k := 1) (by decide)
      have HEI := Lib.hid (Ext.trans HE9.out (Ext.trans hEf (Ext.trans hEg (Ext.trans hEh hEi))))
      have CRA := Lib.hid (rational_any hn in' ho io hk hc ik ic (p * v) 2147483647 p q true wi ((hh.bg (by omega)).below hEi) (hi.bg (by omega)) (by omega) (by omega) (by decide) (HT.out.below HEI.out) HRB.out)
      clear hf hg hh hi hEf hEg hEh hEi hfl hgl hhl hil
      go_wp2_with fail
      refine CRA.out.mono ?_
      rintro e wj ⟨an, ao, ak, ac, dn, dp, dk, dc, rfl, hA, hD, hE⟩
      have HEJ := Lib.hid (HEI.out.trans hE)
      clear CRA hE
      go_upto_region 13 with fail
      obtain ⟨V9, hV, hE, ha, hd⟩ := box_pair wj an ao ak ac dn dp dk dc
      rw [← hV]
      clear hV
      have HEK := Lib.hid (HEJ.out.trans hE)
      have HA := Lib.hid (hA.below hE)
      have HD := Lib.hid (hD.below hE)
      generalize wj.heap.size = J at *
      clear hE hA hD
      have HC := Lib.hid (show ∀ wx, Ext V9 wx → (wx.cell? ⟨J, 0, none⟩ = some (.bool an) ∧ wx.cell? ⟨J, 1, none⟩ = some (.slice ao ak ac)) ∧ (wx.cell? ⟨J + 1, 0, none⟩ = some (.bool dn) ∧ wx.cell? ⟨J + 1, 1, none⟩ = some (.slice dp dk dc)) from fun wx h => ⟨⟨(ha.below h).c0, (ha.below h).c1⟩, ⟨(hd.below h).c0, (hd.below h).c1⟩⟩)
      have CFP := Lib.hid (fun (wx : World) => refFromInt_any p wx (by have := HPQ.out; omega) (by have := HPQ.out; omega))
      have CFQ := Lib.hid (fun (wx : World) => refFromInt_any q wx (by have := HPQ.out; omega) (by have := HPQ.out; omega))
      have CB1 := Lib.hid (fun wx (h : Ext V9 wx) yn yo yk yc (hy : Bn wx yn yo yk yc p) => big_eq an yn ao ak ac yo yk yc p p wx (HA.out.below h) hy rfl)
      have CB2 := Lib.hid (fun wx (h : Ext V9 wx) yn yo yk yc (hy : Bn wx yn yo yk yc q) => big_eq dn yn dp dk dc yo yk yc q q wx (HD.out.below h) hy rfl)
      have CAW := Lib.hid (fun wx (h : Ext V9 wx) => HAW.out wx (HEK.out.trans h))
      obtain ⟨⟨k0, k1⟩, l0, l1⟩ := HC.out V9 (Ext.refl _)
      have stn : St V9 V9 [] := ⟨Ext.refl _, fun p hp => by cases hp⟩
      have std := stn.drew
      clear ha hd
      first | (go_region_held3 (fun wx => (wx.cell? ⟨J, 0, none⟩ = some (.bool an) ∧ wx.cell? ⟨J, 1, none⟩ = some (.slice ao ak ac)) ∧ (wx.cell? ⟨J + 1, 0, none⟩ = some (.bool dn) ∧ wx.cell? ⟨J + 1, 1, none⟩ = some (.slice dp dk dc)))
        (first | exact HC.out _ (by exact St.ext (by with_reducible assumption)))
        (first
          | (go_at_call 18; (with_reducible refine (CFP.out _).mono ?_); rintro e wm ⟨yn, yo, yk, yc, rfl, hy, hwm⟩; have stm := St.step (W := V9) (by with_reducible assumption) hwm)
          | (go_at_call 10; (with_reducible refine (CB1.out _ (by exact St.ext (by assumption)) _ _ _ _ (by first | exact hy | exact hy.below (Below.refl _ _).drew)).mono ?_); rintro e wn ⟨rfl, hwn⟩; have sto := St.step (W := V9) (by with_reducible assumption) hwn)
          | (go_at_call 18; (with_reducible refine (CFQ.out _).mono ?_); rintro e wp ⟨zn, zo, zk, zc, rfl, hz, hwp⟩; have stp := St.step (W := V9) (by with_reducible assumption) hwp)
          | (go_at_call 10; (with_reducible refine (CB2.out _ (by exact St.ext (by assumption)) _ _ _ _ (by first | exact hz | exact hz.below (Below.refl _ _).drew)).mono ?_); rintro e wq ⟨rfl, hwq⟩; have stq := St.step (W := V9) (by with_reducible assumption) hwq)
          | (go_at_call 5; refine (CAW.out _ (by exact St.ext (by assumption))).mono ?_; rintro e ws ⟨rfl, hws⟩; have sts := St.step (W := V9) (by with_reducible assumption) hws)
          )) | fail "r13"
      all_goals
        have HEZ := Lib.hid (HEK.out.trans sts.ext)
        go_wp2
        go_ret
        exact ⟨rfl, HE.out.trans HEZ.out⟩
    · go_wp2_with fail
      refine (slim_no mn mo mk mc 10 w1 h20).mono ?_
      rintro e w2 ⟨rfl, h2⟩
      have HE2 := Lib.hid (HE1.out.trans h2)
      clear x0 x1 h2 hbm
      go_wp2_with fail
      refine (HAW.out _ HE2.out).mono ?_
      rintro e wa ⟨rfl, hwa⟩
      have HEA := Lib.hid (HE2.out.trans hwa)
      clear hwa
      go_wp2
      go_ret
      exact ⟨rfl, HE.out.trans HEA.out⟩
  · refine (slim_no xn xo xk xc 10 W h10).mono ?_
    rintro e w1 ⟨rfl, h1⟩
    have HE1 := Lib.hid h1
    clear x0 x1 h1 hbx hbm
    go_wp2_with fail
    refine (HAW.out _ HE1.out).mono ?_
    rintro e wa ⟨rfl, hwa⟩
    have HEA := Lib.hid (HE1.out.trans hwa)
    clear hwa
    go_wp2
    go_ret
    exact ⟨rfl, HE.out.trans HEA.out⟩
end Go.Proofs.YtlpclahlolhjfaaGreatDoor
