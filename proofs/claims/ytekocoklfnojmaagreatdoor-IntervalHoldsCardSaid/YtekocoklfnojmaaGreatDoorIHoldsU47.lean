import Derived.Test.YtekocoklfnojmaaGreatDoorIHoldsU45
import Derived.Test.YtekocoklfnojmaaGreatDoorIHoldsU46
import Derived.Test.YtekocoklfnojmaaGreatDoorIHoldsU28
import Derived.Test.YtekocoklfnojmaaGreatDoorIHoldsU33
import Derived.Test.YtekocoklfnojmaaGreatDoorIHoldsU26
namespace Go.Proofs.YtekocoklfnojmaaGreatDoor
open Go.RowKit

theorem div_cont2 {a b c d p q : Nat} (hx : InI a b p) (hy : InI c d q) (hz : zeroB q = false) :
    nanB (fdivF p q 1) = false ∧ nanB (fdivF p q 2) = false ∧ frank (divLo a b c d) ≤ frank (fdivF p q 1) ∧ frank (fdivF p q 2) ≤ frank (divHi a b c d) := by
  obtain ⟨n1, -⟩ := div_fin_rank 1 hx.f hy.f hz
  obtain ⟨n2, -⟩ := div_fin_rank 2 hx.f hy.f hz
  refine ⟨n1, n2, ?_⟩
  unfold divLo divHi
  cases h : containsF c d with
  | true =>
    have e1 : frank 9218868437227405312 = 9218868437227405312 := by decide +kernel
    have e2 : frank 18442240474082181120 = -9218868437227405312 := by decide +kernel
    have r1 := rank_le n1
    have r2 := rank_le n2
    simp only [if_true]
    rw [e1, e2]
    omega
  | false =>
    have := div_cont hx hy h
    rw [rk_num n1, rk_num n2] at this
    simpa using this
theorem sign_zeroB {q : Nat} (h : ¬ sgn3 (dm (fdy q)) 0 = 0) : zeroB q = false := by
  cases hz : zeroB q with
  | false => rfl
  | true =>
    rw [fdy_zero hz] at h
    exact absurd (by decide) h
theorem fof_at2 {f : Nat} {d : Dy} (hf : f < 18446744073709551616) (h : fdy f = d) (w : World) (hT : Table64 w) : Calls Tryz.prog 47 #[.int .u64 (f : Int)] w fun e w' => ∃ v, e = .returned v ∧ Dn w' v d ∧ Ext w w' := by rw [← h]; exact fof_any f hf w hT

set_option maxRecDepth 100000 in
set_option maxHeartbeats 32000000 in
theorem iholdsL_any (a b c d p q : Nat) (ha : a < 18446744073709551616) (hb : b < 18446744073709551616) (hc : c < 18446744073709551616) (hd : d < 18446744073709551616) (lp : p < 18446744073709551616) (lq : q < 18446744073709551616) (w : World) (hT : Table w) (hT6 : Table64 w) :
    Calls Tryz.prog 5 #[.agg #[.int .u64 (a : Int), .int .u64 (b : Int)], .agg #[.int .u64 (c : Int), .int .u64 (d : Int)], .int .u64 (p : Int), .int .u64 (q : Int)] w fun r w' => r = .returned (.bool true) ∧ Ext w w' := by
  obtain ⟨u, hu⟩ : ∃ u, contF a b p = u := ⟨_, rfl⟩
  obtain ⟨v, hv⟩ : ∃ v, contF c d q = v := ⟨_, rfl⟩
  have CX := Lib.hid (fun w hT => within_any a b p ha hb lp u hu w hT)
  have CY := Lib.hid (fun w hT => within_any c d q hc hd lq v hv w hT)
  have HT := Lib.hid hT
  have HT6 := Lib.hid hT6
  have CA := Lib.hid iawake_any
  go_enter Tryz.func5, Tryz.ntmps5
  go_upto_region 1 with fail
  obtain ⟨V, hW, hB, hx, hy, hsz⟩ := ibox_two w a b c d
  rw [← hW]
  clear hW
  have HB := Lib.hid hB
  generalize w.heap.size = B at hx hy ⊢
  clear hB hsz hT hT6
  have HC := Lib.hid (show ∀ wx, Ext V wx → (wx.cell? ⟨B, 0, none⟩ = some (.int .u64 (a : Int)) ∧ wx.cell? ⟨B, 1, none⟩ = some (.int .u64 (b : Int))) ∧ (wx.cell? ⟨(B + 1), 0, none⟩ = some (.int .u64 (c : Int)) ∧ wx.cell? ⟨(B + 1), 1, none⟩ = some (.int .u64 (d : Int))) from fun wx h => ⟨⟨(hx.below h).c0, (hx.below h).c1⟩, (hy.below h).c0, (hy.below h).c1⟩)
  clear hx hy
  have HTV := Lib.hid (show ∀ wx, Ext V wx → Table wx from fun wx h => (HT.out.below HB.out).below h)
  have HT6V := Lib.hid (show ∀ wx, Ext V wx → Table64 wx from fun wx h => (HT6.out.below HB.out).below h)
  clear HT HT6
  have st : Ext V V := Ext.refl _
  obtain ⟨⟨a0, a1⟩, a2, a3⟩ := HC.out _ st
  cases u with
  | false =>
    clear hu hv ha hb hc hd lp lq
    go_wp2_with fail
    refine (CX.out _ (HTV.out _ st)).mono ?_
    rintro r w1 ⟨rfl, hE⟩
    have st : Ext V w1 := Ext.trans st hE
    clear hE
    clear a0 a1 a2 a3
    go_wp2_with fail
    refine (CA.out _).mono ?_
    rintro r w9 ⟨rfl, hE⟩
    have HF := Lib.hid (HB.out.trans (Ext.trans st hE))
    go_wp2
    go_ret
    exact ⟨rfl, HF.out⟩
  | true =>
  cases v with
  | false =>
    clear hu hv ha hb hc hd lp lq
    go_wp2_with fail
    refine (CX.out _ (HTV.out _ st)).mono ?_
    rintro r w1 ⟨rfl, hE⟩
    have st : Ext V w1 := Ext.trans st hE
    clear hE
    clear a0 a1 a2 a3
    obtain ⟨⟨a0, a1⟩, a2, a3⟩ := HC.out _ st
    go_wp2_with fail
    refine (CY.out _ (HTV.out _ st)).mono ?_
    rintro r w2 ⟨rfl, hE⟩
    have st : Ext V w2 := Ext.trans st hE
    clear hE
    clear a0 a1 a2 a3
    go_wp2_with fail
    refine (CA.out _).mono ?_
    rintro r w9 ⟨rfl, hE⟩
    have HF := Lib.hid (HB.out.trans (Ext.trans st hE))
    go_wp2
    go_ret
    exact ⟨rfl, HF.out⟩
  | true =>
  have hx := InI.of ha hb lp hu
  have hy := InI.of hc hd lq hv
  obtain ⟨n1, hn1⟩ : ∃ r, plainF (faddF a c 1) = r := ⟨_, rfl⟩
  obtain ⟨m1, hm1⟩ : ∃ r, plainF (faddF b d 2) = r := ⟨_, rfl⟩
  obtain ⟨n2, hn2⟩ : ∃ r, plainF (faddF a (plainF (fnegF d)) 1) = r := ⟨_, rfl⟩
  obtain ⟨m2, hm2⟩ : ∃ r, plainF (faddF b (plainF (fnegF c)) 2) = r := ⟨_, rfl⟩
  obtain ⟨n3, hn3⟩ : ∃ r, plainF (cornLo fmulF a b c d) = r := ⟨_, rfl⟩
  obtain ⟨m3, hm3⟩ : ∃ r, plainF (cornHi fmulF a b c d) = r := ⟨_, rfl⟩
  obtain ⟨n4, hn4⟩ : ∃ r, plainF (fmulF (migF a b) (migF a b) 1) = r := ⟨_, rfl⟩
  obtain ⟨m4, hm4⟩ : ∃ r, plainF (fmulF (magF a b) (magF a b) 2) = r := ⟨_, rfl⟩
  obtain ⟨n5, hn5⟩ : ∃ r, divLo a b c d = r := ⟨_, rfl⟩
  obtain ⟨m5, hm5⟩ : ∃ r, divHi a b c d = r := ⟨_, rfl⟩
  have g1 : Good n1 m1 := by rw [← hn1, ← hm1]; exact (add_good hx.g hy.g).plain
  have g2 : Good n2 m2 := by rw [← hn2, ← hm2]; exact (add_good hx.g (neg_good hy.g).1).plain
  have g3 : Good n3 m3 := by rw [← hn3, ← hm3]; exact (mul_good hx.g hy.g).1.plain
  have g4 : Good n4 m4 := by rw [← hn4, ← hm4]; exact (sqr_good hx.g).plain
  have g5 : Good n5 m5 := by rw [← hn5, ← hm5]; exact div_res hx.g hy.g
  have K1 := Lib.hid (fun w => iadd_yes a b c d ha hb hc hd hx.g.valid hy.g.valid w)
  have K2 := Lib.hid (fun w => isub_yes a b c d ha hb hc hd hx.g.valid hy.g.valid w)
  have K3 := Lib.hid (fun w => imulG_any hx.g hy.g w)
  have K4 := Lib.hid (fun w => isqr_yes a b ha hb hx.g.valid w)
  have K5 := Lib.hid (fun w => idivG_any hx.g hy.g w)
  have c1 := add_cont hx hy
  have c2 := sub_cont hx hy
  have c3 := mul_cont hx hy
  have c4 := sqr_cont hx
  have c5 := fun h => div_cont2 hx hy (sign_zeroB h)
  rw [hn1, hm1] at K1 c1
  rw [hn2, hm2] at K2 c2
  rw [hn3, hm3] at K3 c3
  rw [hn4, hm4] at K4 c4
  rw [hn5, hm5] at K5 c5
  have sx := fdy_small p
  obtain ⟨X, hX⟩ : ∃ X, fdy p = X := ⟨_, rfl⟩
  obtain ⟨Y, hY⟩ : ∃ Y, fdy q = Y := ⟨_, rfl⟩
  have CO1 := Lib.hid (fun w hT => fof_at2 lp hX w hT)
  have CO2 := Lib.hid (fun w hT => fof_at2 lq hY w hT)
  rw [hX] at c1 c2 c3 c4 sx
  rw [hY] at c1 c2 c3 c5
  have SX := Lib.hid sx
  have KC1 := Lib.hid (fun w v (hv : Dg w v (dadd X Y)) hT => icontains_any n1 m1 g1.l1 g1.l2 v _ true c1 w hv hT)
  have KC2 := Lib.hid (fun w v (hv : Dg w v (dsub X Y)) hT => icontains_any n2 m2 g2.l1 g2.l2 v _ true c2 w hv hT)
  have KC3 := Lib.hid (fun w v (hv : Dg w v (dmul X Y)) hT => icontains_any n3 m3 g3.l1 g3.l2 v _ true c3 w hv hT)
  have KC4 := Lib.hid (fun w v (hv : Dg w v (dmul X X)) hT => icontains_any n4 m4 g4.l1 g4.l2 v _ true c4 w hv hT)
  obtain ⟨l1, hl1⟩ : ∃ r, fdivF p q 1 = r := ⟨_, rfl⟩
  obtain ⟨l2, hl2⟩ : ∃ r, fdivF p q 2 = r := ⟨_, rfl⟩
  have D1 := Lib.hid (fun w => fdiv_any p q 1 lp lq w)
  have D2 := Lib.hid (fun w => fdiv_any p q 2 lp lq w)
  have t1 : l1 < 18446744073709551616 := by rw [← hl1]; exact fdiv_lt _
  have t2 : l2 < 18446744073709551616 := by rw [← hl2]; exact fdiv_lt _
  rw [hl1] at D1
  rw [hl2] at D2
  rw [hl1, hl2] at c5
  have E1 := Lib.hid (fun (h : ¬ sgn3 (dm Y) 0 = 0) w => fcmp_any n5 l1 g5.l1 t1 (sgn3 (frank n5) (frank l1)) true (fcmp_num g5.n1 (c5 h).1 rfl) w)
  have E2 := Lib.hid (fun (h : ¬ sgn3 (dm Y) 0 = 0) w => fcmp_any l2 m5 t2 g5.l2 (sgn3 (frank l2) (frank m5)) true (fcmp_num (c5 h).2.1 g5.n2 rfl) w)
  have hs1 : ¬ sgn3 (dm Y) 0 = 0 → sgn3 (frank n5) (frank l1) ≤ 0 := fun h => by have := (c5 h).2.2.1; unfold sgn3; split <;> (try split) <;> omega
  have hs2 : ¬ sgn3 (dm Y) 0 = 0 → sgn3 (frank l2) (frank m5) ≤ 0 := fun h => by have := (c5 h).2.2.2; unfold sgn3; split <;> (try split) <;> omega
  have hs1 := Lib.hid hs1
  have hs2 := Lib.hid hs2
  have CS := Lib.hid (fun v w (hv : Dg w v Y) hT => dsign_any v Y w hv hT)
  generalize sgn3 (frank n5) (frank l1) = s1 at *
  generalize sgn3 (frank l2) (frank m5) = s2 at *
  generalize sgn3 (dm Y) 0 = sg at *
  clear hn1 hm1 hn2 hm2 hn3 hm3 hn4 hm4 hn5 hm5 hl1 hl2 hX hY g1 g2 g3 g4 g5 c1 c2 c3 c4 c5 sx t1 t2 hx hy hu hv ha hb hc hd lp lq
  go_wp2_with fail
  refine (CX.out _ (HTV.out _ st)).mono ?_
  rintro r w1 ⟨rfl, hE⟩
  have st : Ext V w1 := Ext.trans st hE
  clear hE
  clear a0 a1 a2 a3
  obtain ⟨⟨a0, a1⟩, a2, a3⟩ := HC.out _ st
  go_wp2_with fail
  refine (CY.out _ (HTV.out _ st)).mono ?_
  rintro r w2 ⟨rfl, hE⟩
  have st : Ext V w2 := Ext.trans st hE
  clear hE
  clear a0 a1 a2 a3
  go_wp2_with fail
  refine (CO1.out _ (HT6V.out _ st)).mono ?_
  rintro r w3 ⟨xv, rfl, hx, hE⟩
  have st : Ext V w3 := Ext.trans st hE
  clear hE
  go_wp2_with fail
  refine (CO2.out _ (HT6V.out _ st)).mono ?_
  rintro r w4 ⟨yv, rfl, hy, hE⟩
  have hx := hx.ext hE
  have st : Ext V w4 := Ext.trans st hE
  clear hE
  obtain ⟨xb, xn, xo, xk, xc, xe, rfl⟩ := hx.parts
  obtain ⟨yb, yn, yo, yk, yc, ye, rfl⟩ := hy.parts
  go_upto_region 4 with fail
  obtain ⟨W, hW, hB2, bx, bY, hz⟩ := boxes_two_d w4 xb xn xo xk xc xe yb yn yo yk yc ye
  rw [← hW]
  clear hW
  have hB2 : Ext w4 W := hB2
  have HX := Lib.hid (fun wx (h : Ext W wx) => (hx.ext (Ext.trans hB2 h)).dg)
  have HY := Lib.hid (fun wx (h : Ext W wx) => (hy.ext (Ext.trans hB2 h)).dg)
  have HVW := Lib.hid (Ext.trans st hB2)
  have HB := Lib.hid (Ext.trans HB.out HVW.out)
  have HTV := Lib.hid (fun wx (h : Ext W wx) => HTV.out wx (Ext.trans HVW.out h))
  clear hx hy hz st hB2
  generalize w4.heap.size = D at *
  have HC := Lib.hid (show ∀ wx, Ext W wx → ((wx.cell? ⟨B, 0, none⟩ = some (.int .u64 (a : Int)) ∧ wx.cell? ⟨B, 1, none⟩ = some (.int .u64 (b : Int))) ∧ (wx.cell? ⟨(B + 1), 0, none⟩ = some (.int .u64 (c : Int)) ∧ wx.cell? ⟨(B + 1), 1, none⟩ = some (.int .u64 (d : Int)))) ∧ (wx.cell? ⟨D, 0, none⟩ = some (.bool xb) ∧ wx.cell? ⟨D, 1, none⟩ = some (.bool xn) ∧ wx.cell? ⟨D, 2, none⟩ = some (.slice xo xk xc) ∧ wx.cell? ⟨D, 3, none⟩ = some (.int .i64 xe)) ∧ (wx.cell? ⟨(D + 1), 0, none⟩ = some (.bool yb) ∧ wx.cell? ⟨(D + 1), 1, none⟩ = some (.bool yn) ∧ wx.cell? ⟨(D + 1), 2, none⟩ = some (.slice yo yk yc) ∧ wx.cell? ⟨(D + 1), 3, none⟩ = some (.int .i64 ye)) from fun wx h => ⟨HC.out wx (Ext.trans HVW.out h), ⟨(bx.ext h).c0, (bx.ext h).c1, (bx.ext h).c2, (bx.ext h).c3⟩, (bY.ext h).c0, (bY.ext h).c1, (bY.ext h).c2, (bY.ext h).c3⟩)
  clear bx bY HVW
  have st : Ext W W := Ext.refl _
  obtain ⟨⟨⟨a0, a1⟩, a2, a3⟩, ⟨x0, x1, x2, x3⟩, y0, y1, y2, y3⟩ := HC.out _ st
  have st : Ext W _ := st.drew
  go_region_held3 (fun wx => ((wx.cell? ⟨B, 0, none⟩ = some (.int .u64 (a : Int)) ∧ wx.cell? ⟨B, 1, none⟩ = some (.int .u64 (b : Int))) ∧ (wx.cell? ⟨(B + 1), 0, none⟩ = some (.int .u64 (c : Int)) ∧ wx.cell? ⟨(B + 1), 1, none⟩ = some (.int .u64 (d : Int)))) ∧ (wx.cell? ⟨D, 0, none⟩ = some (.bool xb) ∧ wx.cell? ⟨D, 1, none⟩ = some (.bool xn) ∧ wx.cell? ⟨D, 2, none⟩ = some (.slice xo xk xc) ∧ wx.cell? ⟨D, 3, none⟩ = some (.int .i64 xe)) ∧ (wx.cell? ⟨(D + 1), 0, none⟩ = some (.bool yb) ∧ wx.cell? ⟨(D + 1), 1, none⟩ = some (.bool yn) ∧ wx.cell? ⟨(D + 1), 2, none⟩ = some (.slice yo yk yc) ∧ wx.cell? ⟨(D + 1), 3, none⟩ = some (.int .i64 ye)))
    (first | exact HC.out _ (by assumption))
    (first
      | (go_at_call 14; (with_reducible refine (K1.out _).mono ?_); rintro r wn ⟨rfl, hE⟩; have st : Ext W wn := Ext.trans (by assumption) hE; clear hE)
      | (go_at_call 48; (with_reducible refine (dadd_any _ _ _ _ _ (HX.out _ (by assumption)) (HY.out _ (by assumption)) (HTV.out _ (by assumption))).mono ?_); rintro r wn ⟨v1, rfl, h1, hE⟩; have st : Ext W wn := Ext.trans (by assumption) hE; clear hE)
      | (go_at_call 16; (with_reducible refine (K2.out _).mono ?_); rintro r wn ⟨rfl, hE⟩; have st : Ext W wn := Ext.trans (by assumption) hE; clear hE)
      | (go_at_call 49; (with_reducible refine (dsub_any _ _ _ _ _ (HX.out _ (by assumption)) (HY.out _ (by assumption)) (HTV.out _ (by assumption))).mono ?_); rintro r wn ⟨v2, rfl, h2, hE⟩; have st : Ext W wn := Ext.trans (by assumption) hE; clear hE)
      | (go_at_call 18; (with_reducible refine (K3.out _).mono ?_); rintro r wn ⟨rfl, hE⟩; have st : Ext W wn := Ext.trans (by assumption) hE; clear hE)
      | (go_at_call 50; (with_reducible refine (dmul_any _ _ _ _ _ (HX.out _ (by assumption)) (HY.out _ (by assumption)) (HTV.out _ (by assumption)) (Or.inl SX.out)).mono ?_); rintro r wn ⟨v3, rfl, h3, hE⟩; have st : Ext W wn := Ext.trans (by assumption) hE; clear hE)
      | (go_at_call 22; (with_reducible refine (K4.out _).mono ?_); rintro r wn ⟨rfl, hE⟩; have st : Ext W wn := Ext.trans (by assumption) hE; clear hE)
      | (go_at_call 50; (with_reducible refine (dmul_any _ _ _ _ _ (HX.out _ (by assumption)) (HX.out _ (by assumption)) (HTV.out _ (by assumption)) (Or.inl SX.out)).mono ?_); rintro r wn ⟨v4, rfl, h4, hE⟩; have st : Ext W wn := Ext.trans (by assumption) hE; clear hE)
      | (go_at_call 32; (with_reducible refine (KC1.out _ _ (by exact h1.dg) (HTV.out _ (by assumption))).mono ?_); rintro r wn ⟨rfl, hE⟩; have st : Ext W wn := Ext.trans (by assumption) hE; clear hE)
      | (go_at_call 32; (with_reducible refine (KC2.out _ _ (by exact h2.dg) (HTV.out _ (by assumption))).mono ?_); rintro r wn ⟨rfl, hE⟩; have st : Ext W wn := Ext.trans (by assumption) hE; clear hE)
      | (go_at_call 32; (with_reducible refine (KC3.out _ _ (by exact h3.dg) (HTV.out _ (by assumption))).mono ?_); rintro r wn ⟨rfl, hE⟩; have st : Ext W wn := Ext.trans (by assumption) hE; clear hE)
      | (go_at_call 32; (with_reducible refine (KC4.out _ _ (by exact h4.dg) (HTV.out _ (by assumption))).mono ?_); rintro r wn ⟨rfl, hE⟩; have st : Ext W wn := Ext.trans (by assumption) hE; clear hE)
    )
  clear a0 a1 a2 a3 x0 x1 x2 x3 y0 y1 y2 y3
  obtain ⟨⟨⟨a0, a1⟩, a2, a3⟩, ⟨x0, x1, x2, x3⟩, y0, y1, y2, y3⟩ := HC.out _ st
  go_wp2_with fail
  refine (CS.out _ _ (HY.out _ st) (HTV.out _ st)).mono ?_
  rintro r w5 ⟨rfl, hE⟩
  have st : Ext W w5 := Ext.trans st hE
  clear hE
  clear a0 a1 a2 a3 x0 x1 x2 x3 y0 y1 y2 y3
  by_cases hsg : sg = 0
  · have hq0 : (sg == 0) = true := by rw [hsg]; rfl
    go_wp2_with fail
    refine (CA.out _).mono ?_
    rintro r w9 ⟨rfl, hE⟩
    have HF := Lib.hid (HB.out.trans (Ext.trans st hE))
    go_wp2
    go_ret
    exact ⟨rfl, HF.out⟩
  · have hq0 : (sg == 0) = false := by rw [beq_eq_false_iff_ne]; exact hsg
    have G1 := Lib.hid (E1.out hsg)
    have G2 := Lib.hid (E2.out hsg)
    have h1 := hs1.out hsg
    have h2 := hs2.out hsg
    clear E1 E2 hs1 hs2
    obtain ⟨⟨⟨a0, a1⟩, a2, a3⟩, ⟨x0, x1, x2, x3⟩, y0, y1, y2, y3⟩ := HC.out _ st
    go_wp2_with fail
    refine (K5.out _).mono ?_
    rintro r w6 ⟨rfl, hE⟩
    have st : Ext W w6 := Ext.trans st hE
    clear hE
    clear a0 a1 a2 a3 x0 x1 x2 x3 y0 y1 y2 y3
    go_upto_region 9 with fail
    obtain ⟨Z, hZ, hE, hz, hsz⟩ := ibox_new w6 n5 m5
    rw [← hZ]
    clear hZ hsz
    have HB := Lib.hid (Ext.trans HB.out (Ext.trans st hE))
    generalize w6.heap.size = F at *
    have HZ := Lib.hid (show ∀ wx, Ext Z wx → (wx.cell? ⟨F, 0, none⟩ = some (.int .u64 (n5 : Int)) ∧ wx.cell? ⟨F, 1, none⟩ = some (.int .u64 (m5 : Int))) from fun wx h => ⟨(hz.below h).c0, (hz.below h).c1⟩)
    clear hz hE st
    have st : Ext Z Z := Ext.refl _
    go_wp2_with fail
    refine (D1.out _).mono ?_
    rintro r w7 ⟨rfl, hE⟩
    have st : Ext Z w7 := Ext.trans st hE
    clear hE
    go_wp2_with fail
    refine (D2.out _).mono ?_
    rintro r w8 ⟨rfl, hE⟩
    have st : Ext Z w8 := Ext.trans st hE
    clear hE
    obtain ⟨z0, z1⟩ := HZ.out _ st
    go_wp2_with fail
    refine (G1.out _).mono ?_
    rintro r wa ⟨rfl, hE⟩
    have st : Ext Z wa := Ext.trans st hE
    clear hE
    clear z0 z1
    obtain ⟨z0, z1⟩ := HZ.out _ st
    go_wp2_with fail
    refine (G2.out _).mono ?_
    rintro r wb ⟨rfl, hE⟩
    have st : Ext Z wb := Ext.trans st hE
    clear hE
    clear z0 z1
    go_wp2_with fail
    refine (CA.out _).mono ?_
    rintro r w9 ⟨rfl, hE⟩
    have HF := Lib.hid (HB.out.trans (Ext.trans st hE))
    go_wp2
    go_ret
    exact ⟨rfl, HF.out⟩

theorem iholdsL_int (a b c d p q : Int) (w : World) (ha : 0 ≤ a ∧ a < 18446744073709551616) (hb : 0 ≤ b ∧ b < 18446744073709551616) (hc : 0 ≤ c ∧ c < 18446744073709551616) (hd : 0 ≤ d ∧ d < 18446744073709551616) (hp : 0 ≤ p ∧ p < 18446744073709551616) (hq : 0 ≤ q ∧ q < 18446744073709551616) (hT : Table w) (hT6 : Table64 w) :
    Calls Tryz.prog 5 #[.agg #[.int .u64 a, .int .u64 b], .agg #[.int .u64 c, .int .u64 d], .int .u64 p, .int .u64 q] w fun r w' => r = .returned (.bool true) ∧ Ext w w' := by
  have h := iholdsL_any a.toNat b.toNat c.toNat d.toNat p.toNat q.toNat (by omega) (by omega) (by omega) (by omega) (by omega) (by omega) w hT hT6
  rw [Int.toNat_of_nonneg ha.1, Int.toNat_of_nonneg hb.1, Int.toNat_of_nonneg hc.1, Int.toNat_of_nonneg hd.1, Int.toNat_of_nonneg hp.1, Int.toNat_of_nonneg hq.1] at h
  exact h
end Go.Proofs.YtekocoklfnojmaaGreatDoor
