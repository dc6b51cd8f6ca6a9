import Derived.Test.YtolghagbpnjpgaaGreatDoorFQuotU31
import Derived.Test.YtolghagbpnjpgaaGreatDoorFQuotU24
namespace Go.Proofs.YtolghagbpnjpgaaGreatDoor
open Go.RowKit

theorem xor_sgz (a b : Bool) : bits BinOp.xor IntKind.u64 ((sgz a : Nat) : Int) ((sgz b : Nat) : Int) = ((sgz (a != b) : Nat) : Int) := by
  cases a <;> cases b <;> decide
theorem flead_word (ao : Option Addr) (n ca C : Nat) (e : Int) (w : World) (h : Sl w ao n ca (limbs C)) (h0 : C ≠ 0) (hC : C < 18446744073709551616) (hn : n ≤ 100000) (he0 : -100000000 ≤ e) (he1 : e ≤ 100000000) :
    Calls Tryz.prog 84 #[.slice ao n ca, .int .i64 e] w fun r w' => r = .returned (.agg #[.int .u64 0, .int .u64 (C : Int), .int .i64 e, .bool false]) ∧ Ext w w' := by
  refine (flead_top ao n ca C e w h ⟨h0, Or.inr (Nat.lt_of_lt_of_le hC (by decide))⟩ hn he0 he1).mono fun r w' ⟨H, L, E, T, j, hr, hH, hL, hV, _, hE, hT, _, hj, _, hw⟩ => ⟨?_, hw⟩
  obtain rfl : j = 0 := hj (Nat.lt_of_lt_of_le hC (by decide))
  rw [Nat.pow_zero, Nat.div_one] at hV
  have hT : T = false := by rw [hT, Nat.pow_zero, Nat.mod_one]; rfl
  obtain rfl : H = 0 := by omega
  have hL2 : L = C := by omega
  have hE2 : E = e := by omega
  rw [hr, hT, hL2, hE2]
  rfl
theorem word_of_blen {C : Nat} (h : blen C ≤ 64) : C < 18446744073709551616 := Nat.lt_of_lt_of_le (blen_lt C) (Nat.le_trans (Nat.pow_le_pow_right (by omega) h) (by decide))

set_option maxRecDepth 100000 in
set_option maxHeartbeats 8000000 in
theorem fquoD_any (u v : Value) (d d' : Dy) (mode : Int) (w : World) (hu : Dg w u d) (hv : Dg w v d') (hT : Table w) :
    Calls Tryz.prog 23 #[u, v, .int .i64 mode] w fun e w' => e = .returned (.int .u64 ((quoV d d' mode : Nat) : Int)) ∧ Ext w w' := by
  obtain ⟨R, hR⟩ : ∃ R, quoV d d' mode = R := ⟨_, rfl⟩
  rw [hR]
  have HR := Lib.hid hR
  clear hR
  obtain ⟨ub, un, uo, uk, uc, uf, rfl⟩ := hu.parts
  obtain ⟨vb, vn, vo, vk, vc, vf, rfl⟩ := hv.parts
  go_enter Tryz.func23, Tryz.ntmps23
  go_upto_region 1 with fail
  obtain ⟨W, hW, hB, hbx, hby, hz⟩ := boxes_two_d w ub un uo uk uc uf vb vn vo vk vc vf
  rw [← hW]
  clear hW
  have hu := hu.ext hB
  have hv := hv.ext hB
  have HT0 := Lib.hid hT
  have hT := hT.below hB
  generalize hBe : w.heap.size = B at *
  have HBe := Lib.hid hBe; clear hBe
  go_cut [] from 8 (fun wx => ∃ xb xn xo xk xc xe yb yn yo yk yc ye, Dn wx (.agg #[.bool xb, .bool xn, .slice xo xk xc, .int .i64 xe]) d ∧ Dn wx (.agg #[.bool yb, .bool yn, .slice yo yk yc, .int .i64 ye]) d' ∧
    DBox wx B xb xn xo xk xc xe ∧ DBox wx (B + 1) yb yn yo yk yc ye ∧ Below B w wx ∧ (∀ k, B + 1 < k → k < W.heap.size → wx.heap[k]? = W.heap[k]?) ∧ W.heap.size ≤ wx.heap.size)
  case first =>
    have k0 := hbx.c0
    have k1 := hbx.c1
    have k2 := hbx.c2
    have k3 := hbx.c3
    have l0 := hby.c0
    have l1 := hby.c1
    have l2 := hby.c2
    have l3 := hby.c3
    go_region_with (first
      | (go_at_call 82; refine (dnorm_any _ _ _ (by exact hu.ext (by exact (Below.refl _ _).drew)) (by exact hT.below (by exact (Below.refl _ _).drew))).mono ?_; rintro e w1 ⟨r1, rfl, hr1, hw1⟩; have ex1 : Ext W w1 := Ext.trans (by exact (Below.refl _ _).drew) hw1; obtain ⟨xb, xn, xo, xk, xc, xe, rfl⟩ := hr1.parts; have fb := hby.ext ex1; have h0 := fb.c0; have h1 := fb.c1; have h2 := fb.c2; have h3 := fb.c3)
      | (go_at_call 82; refine (dnorm_any _ _ _ (by exact hv.ext ex1) (by exact hT.below ex1)).mono ?_; rintro e w2 ⟨r2, rfl, hr2, hw2⟩; have ex2 : Ext W w2 := Ext.trans ex1 hw2; obtain ⟨yb, yn, yo, yk, yc, ye, rfl⟩ := hr2.parts; have hr1 := hr1.ext hw2; clear h0 h1 h2 h3; have fa := hbx.ext ex2; have fb := hby.ext ex2; have a0 := fa.c0; have a1 := fa.c1; have a2 := fa.c2; have a3 := fa.c3; have b0 := fb.c0; have b1 := fb.c1; have b2 := fb.c2; have b3 := fb.c3; have g0 := fa.f 0; have g1 := fa.f 1; have g2 := fa.f 2; have g3 := fa.f 3; have h0 := fb.f 0; have h1 := fb.f 1; have h2 := fb.f 2; have h3 := fb.f 3))
    all_goals
      go_wp2
      go_meet
    all_goals
      clear a0 a1 a2 a3 b0 b1 b2 b3 g0 g1 g2 g3 h0 h1 h2 h3 k0 k1 k2 k3 l0 l1 l2 l3
      obtain ⟨hB2, hB2'⟩ := bnext hB (by omega) ex2
      obtain ⟨Z, hZ, z1, z2, z3, z4, z5, z6, z7⟩ := two_dyads fa fb (by omega) (Nat.le_refl B) (Nat.le_succ B) hr1 hr2 hB2
      rw [← hZ]
      exact ⟨_, _, _, _, _, _, _, _, _, _, _, _, z1, z2, z4, z5, z3, fun k hk1 hk2 => by rw [z6 k (by omega) (by omega)]; exact Below.block ex2 k hk2, by rw [z7]; exact Below.size ex2⟩
  case rest =>
    obtain ⟨xb, xn, xo, xk, xc, xe, yb, yn, yo, yk, yc, ye, hx, hy, bx, bY, hB1, hkeep, hzc⟩ := hcut
    have hT1 := (show Table w from HT0.out).below (w' := wc) (by rw [HBe.out]; exact hB1)
    have HT := Lib.hid hT1
    clear hT1 hbx hby hu hv hT hB hkeep
    have hzB : B + 2 ≤ wc.heap.size := by have := bY.lt; omega
    have k0 := bx.c0
    have k1 := bx.c1
    have k2 := bx.c2
    have k3 := bx.c3
    have l0 := bY.c0
    have l1 := bY.c1
    have l2 := bY.c2
    have l3 := bY.c3
    cases d with
    | none =>
      obtain rfl := dn_none hx
      obtain rfl : R = 9221120237041090560 := HR.out.symm
      go_wp2
      go_ret
      refine ⟨rfl, ?_⟩
      show Below _ _ _; rw [HBe.out]; exact hB1
    | some q =>
      obtain ⟨m, f⟩ := q
      obtain ⟨rfl, rfl, hm⟩ := dn_some hx
      cases d' with
      | none =>
        obtain rfl := dn_none hy
        obtain rfl : R = 9221120237041090560 := HR.out.symm
        go_wp2
        go_ret
        refine ⟨rfl, ?_⟩
        show Below _ _ _; rw [HBe.out]; exact hB1
      | some q =>
        obtain ⟨m', f'⟩ := q
        obtain ⟨rfl, rfl, hm'⟩ := dn_some hy
        have HND := Lib.hid hx.1
        have HND' := Lib.hid hy.1
        have hnx := nd_blen hx.1
        have hny := nd_blen hy.1
        simp only [dm, dx, Option.getD_some] at hnx hny
        obtain ⟨hnx, hx0, hx1⟩ := hnx
        obtain ⟨hny, hy0, hy1⟩ := hny
        have HNX := Lib.hid hm.neg
        have HNY := Lib.hid hm'.neg
        have gm := bn_bg_of hm (by omega)
        have gm' := bn_bg_of hm' (by omega)
        clear hx hy
        by_cases h3 : m' = 0
        · have hR : R = 9221120237041090560 := by
            rw [← HR.out]; unfold quoV; dsimp only
            rw [if_pos h3]
          subst hR
          have CS := sign_any _ _ _ _ _ wc gm'
          rw [h3, show sgn3 (0 : Int) 0 = 0 from rfl] at CS
          have CS := Lib.hid CS
          clear h3
          go_wp2_with fail
          refine CS.out.mono ?_
          rintro e w1 ⟨rfl, hw1⟩
          obtain ⟨hB2, hB2'⟩ := bnext hB1 (by omega) hw1
          clear k0 k1 k2 k3 l0 l1 l2 l3 CS
          go_wp2
          go_ret
          refine ⟨rfl, ?_⟩
          show Below _ _ _; rw [HBe.out]; exact hB2
        · obtain ⟨sy, hsy⟩ : ∃ sy, sgn3 m' 0 = sy := ⟨_, rfl⟩
          have hsy0 : (sy == 0) = false := by
            rw [← hsy]; unfold sgn3
            split
            · rfl
            · split <;> first | rfl | omega
          have CS := sign_any _ _ _ _ _ wc gm'
          rw [hsy] at CS
          have CS := Lib.hid CS
          clear hsy
          go_wp2_with fail
          refine CS.out.mono ?_
          rintro e w1 ⟨rfl, hw1⟩
          have hw1 : Ext wc w1 := hw1
          have bx := bx.ext hw1
          have bY := bY.ext hw1
          have gm := gm.below hw1
          have gm' := gm'.below hw1
          have hm := hm.below hw1
          have hm' := hm'.below hw1
          have HT := Lib.hid (HT.out.below hw1)
          obtain ⟨hB2, hB2'⟩ := bnext hB1 (by omega) hw1
          have hz1 := Below.size hw1
          clear k0 k1 k2 k3 l0 l1 l2 l3 CS hw1 hB1
          have k0 := bx.c0
          have k1 := bx.c1
          have k2 := bx.c2
          have k3 := bx.c3
          by_cases h4 : m = 0
          · have hR : R = 0 := by
              rw [← HR.out]; unfold quoV; dsimp only
              rw [if_neg h3, if_pos h4]
            subst hR
            have CS := sign_any _ _ _ _ _ w1 gm
            rw [h4, show sgn3 (0 : Int) 0 = 0 from rfl] at CS
            have CS := Lib.hid CS
            clear h4
            go_wp2_with fail
            refine CS.out.mono ?_
            rintro e w3 ⟨rfl, hw3⟩
            obtain ⟨hB3, hB3'⟩ := bnext hB2 (by omega) hw3
            clear k0 k1 k2 k3 CS
            go_wp2
            go_ret
            refine ⟨rfl, ?_⟩
            show Below _ _ _; rw [HBe.out]; exact hB3
          · obtain ⟨sx, hsx⟩ : ∃ sx, sgn3 m 0 = sx := ⟨_, rfl⟩
            have hsx0 : (sx == 0) = false := by
              rw [← hsx]; unfold sgn3
              split
              · rfl
              · split <;> first | rfl | omega
            have CS := sign_any _ _ _ _ _ w1 gm
            rw [hsx] at CS
            have CS := Lib.hid CS
            clear hsx
            have hodd : m.natAbs % 2 = 1 := by
              rcases HND.out with ⟨h, _⟩ | ⟨h, _⟩
              · exact absurd h h4
              · exact h
            have hodd' : m'.natAbs % 2 = 1 := by
              rcases HND'.out with ⟨h, _⟩ | ⟨h, _⟩
              · exact absurd h h3
              · exact h
            have HV : ∀ (q : Nat) (E : Int) (T : Bool), QuoG m.natAbs m'.natAbs (xe - ye) q E T → sgz (xn != yn) + fla (xn != yn) q E T mode = R := fun q E T hG => by
              rw [hG.fla (by omega) (by omega), ← HR.out, HNX.out, HNY.out]; unfold quoV; dsimp only
              rw [if_neg h3, if_neg h4]
              rfl
            clear h3 h4 HR HND HND'
            go_wp2_with fail
            refine CS.out.mono ?_
            rintro e w2 ⟨rfl, hw2⟩
            have hw2 : Ext w1 w2 := hw2
            have bx := bx.ext hw2
            have bY := bY.ext hw2
            have gm := gm.below hw2
            have gm' := gm'.below hw2
            have hm := hm.below hw2
            have hm' := hm'.below hw2
            have HT := Lib.hid (HT.out.below hw2)
            obtain ⟨hB3, hB3'⟩ := bnext hB2 (by omega) hw2
            have hz2 := Below.size hw2
            clear k0 k1 k2 k3 CS hw2 hB2
            have HM := Lib.hid hm.sl
            have HM' := Lib.hid hm'.sl
            have hxk : xk ≤ 5000 := by rw [← hm.sl.len]; exact limbs_of_blen (by omega)
            have hyk : yk ≤ 5000 := by rw [← hm'.sl.len]; exact limbs_of_blen (by omega)
            clear hm hm'
            have HV := Lib.hid HV
            have HODD := Lib.hid (And.intro hodd hodd')
            obtain ⟨bm', hbm'⟩ : ∃ b, blen m'.natAbs = b := ⟨_, rfl⟩
            have CB := fun wx (h : Ext w2 wx) => bitLenOut_any _ _ _ _ _ wx (gm'.below h)
            rw [hbm'] at CB
            have CB := Lib.hid CB
            have HBM := Lib.hid hbm'
            have HGA := Lib.hid (fun wx (h : Ext w2 wx) => gm.below h)
            have HGB := Lib.hid (fun wx (h : Ext w2 wx) => gm'.below h)
            have HTX := Lib.hid (fun wx (h : Ext w2 wx) => HT.out.below h)
            have HNB := Lib.hid (And.intro hnx hny)
            clear gm gm' hodd hodd' hbm' hnx hny
            have HC := Lib.hid (show ∀ wx, Ext w2 wx → (wx.cell? ⟨B, 0, none⟩ = some (.bool false) ∧ wx.cell? ⟨B, 1, none⟩ = some (.bool xn) ∧ wx.cell? ⟨B, 2, none⟩ = some (.slice xo xk xc) ∧ wx.cell? ⟨B, 3, none⟩ = some (.int .i64 xe)) ∧ (wx.cell? ⟨B + 1, 0, none⟩ = some (.bool false) ∧ wx.cell? ⟨B + 1, 1, none⟩ = some (.bool yn) ∧ wx.cell? ⟨B + 1, 2, none⟩ = some (.slice yo yk yc) ∧ wx.cell? ⟨B + 1, 3, none⟩ = some (.int .i64 ye)) from fun wx h => ⟨⟨(bx.ext h).c0, (bx.ext h).c1, (bx.ext h).c2, (bx.ext h).c3⟩, (bY.ext h).c0, (bY.ext h).c1, (bY.ext h).c2, (bY.ext h).c3⟩)
            clear bx bY
            have CG1 := Lib.hid (signOfDyad_any false xn xo xk xc xe)
            have CG2 := Lib.hid (signOfDyad_any false yn yo yk yc ye)
            have hxor := xor_sgz xn yn
            obtain ⟨sn, hsn⟩ : ∃ sn, (xn != yn) = sn := ⟨_, rfl⟩
            rw [hsn] at HV hxor
            have CR := Lib.hid (fun (H L : Nat) (E : Int) (T : Bool) (hH : H < 18446744073709551616) (hL : L < 18446744073709551616) (hG : QuoG m.natAbs m'.natAbs (xe - ye) (H * 18446744073709551616 + L) E T) (e0 : -1000000000 ≤ E) (e1 : E ≤ 1000000000) (wx : World) =>
              fround_at H L E T sn mode hH hL (fun h => by have h1 := hG.big; rw [h] at h1; exact absurd h1 (by decide)) (fun _ => hG.big) e0 e1 (z := sgz sn) rfl R (HV.out _ _ _ hG) wx)
            clear hsn HV
            obtain ⟨z1, hz1'⟩ : ∃ z : Int, ((sgz xn : Nat) : Int) = z := ⟨_, rfl⟩
            obtain ⟨z2, hz2'⟩ : ∃ z : Int, ((sgz yn : Nat) : Int) = z := ⟨_, rfl⟩
            obtain ⟨z3, hz3'⟩ : ∃ z : Int, ((sgz sn : Nat) : Int) = z := ⟨_, rfl⟩
            rw [hz1', hz2', hz3'] at hxor
            rw [hz1'] at CG1
            rw [hz2'] at CG2
            rw [hz3'] at CR
            clear hz1' hz2' hz3'
            have ex0 : Ext w2 w2.drew := (Below.refl _ _).drew
            obtain ⟨⟨k0, k1, k2, k3⟩, l0, l1, l2, l3⟩ := HC.out w2 (Ext.refl _)
            go_upto_region 6 with fail
            go_region_held3 (fun wx => (wx.cell? ⟨B, 0, none⟩ = some (.bool false) ∧ wx.cell? ⟨B, 1, none⟩ = some (.bool xn) ∧ wx.cell? ⟨B, 2, none⟩ = some (.slice xo xk xc) ∧ wx.cell? ⟨B, 3, none⟩ = some (.int .i64 xe)) ∧ (wx.cell? ⟨B + 1, 0, none⟩ = some (.bool false) ∧ wx.cell? ⟨B + 1, 1, none⟩ = some (.bool yn) ∧ wx.cell? ⟨B + 1, 2, none⟩ = some (.slice yo yk yc) ∧ wx.cell? ⟨B + 1, 3, none⟩ = some (.int .i64 ye)))
              (first | exact HC.out _ (by assumption))
              (first
                | (go_at_call 85; with_reducible refine (CG1.out _).mono ?_; rintro e w3 ⟨rfl, hE1⟩; have ex1 : Ext w2 w3 := Ext.trans ex0 hE1)
                | (go_at_call 85; with_reducible refine (CG2.out _).mono ?_; rintro e w4 ⟨rfl, hE2⟩; have ex2 : Ext w2 w4 := Ext.trans ex1 hE2))
            clear k0 k1 k2 k3 l0 l1 l2 l3
            obtain ⟨⟨k0, k1, k2, k3⟩, l0, l1, l2, l3⟩ := HC.out w4 ex2
            by_cases hb : bm' > 64
            · have hbI : (bm' : Int) > 64 := by omega
              go_wp2_with fail
              refine (CB.out _ ex2).mono ?_
              rintro e w5 ⟨rfl, hE3⟩
              have ex3 : Ext w2 w5 := Ext.trans ex2 hE3
              clear k0 k1 k2 k3 l0 l1 l2 l3 hE3
              obtain ⟨⟨k0, k1, k2, k3⟩, l0, l1, l2, l3⟩ := HC.out w5 ex3
              have CQ := Lib.hid (flongquo_any xn yn xo yo xk yk xc yc m m' m.natAbs m'.natAbs xe ye w5 (HGA.out _ ex3) (HGB.out _ ex3) rfl rfl HODD.out.1 (by have := HODD.out.2; omega) (by have := HNB.out.1; omega) (by have := HNB.out.2; omega) (by omega) (by omega) (by omega) (by omega) (HTX.out _ ex3))
              go_wp2_with fail
              refine CQ.out.mono ?_
              rintro e w6 ⟨H, L, E, T, rfl, hH, hL, hG, hE0, hE1', hE4⟩
              have CR1 := Lib.hid (CR.out H L E T hH hL hG (by omega) (by omega))
              have ex4 : Ext w2 w6 := Ext.trans ex3 hE4
              clear k0 k1 k2 k3 l0 l1 l2 l3 hE4 hG
              go_wp2_with fail
              refine (CR1.out _).mono ?_
              rintro e w7 ⟨rfl, hE5⟩
              have hBz := (bnext hB3 (by omega) (show Below w2.heap.size w2 w7 from Ext.trans ex4 hE5)).1
              have HF := Lib.hid hBz
              go_wp2
              go_ret
              refine ⟨rfl, ?_⟩
              show Below _ _ _; rw [HBe.out]; exact HF.out
            · have hbI : ¬ (bm' : Int) > 64 := by omega
              go_wp2_with fail
              refine (CB.out _ ex2).mono ?_
              rintro e w5 ⟨rfl, hE3⟩
              have ex3 : Ext w2 w5 := Ext.trans ex2 hE3
              have hC1 : m'.natAbs < 18446744073709551616 := word_of_blen (by rw [HBM.out]; omega)
              have HC1 := Lib.hid hC1
              clear k0 k1 k2 k3 l0 l1 l2 l3 hE3 hb hC1
              obtain ⟨⟨k0, k1, k2, k3⟩, l0, l1, l2, l3⟩ := HC.out w5 ex3
              have ex4 : Ext w2 w5.drew := Ext.trans ex3 ((Below.refl _ _).drew)
              have CL1 := Lib.hid (fun wx (h : Ext w2 wx) => flead_top xo xk xc m.natAbs xe wx (HM.out.below h) ⟨by have := HODD.out.1; omega, Or.inl HODD.out.1⟩ (by omega) (by omega) (by omega))
              have CL2 := Lib.hid (fun wx (h : Ext w2 wx) => flead_word yo yk yc m'.natAbs ye wx (HM'.out.below h) (by have := HODD.out.2; omega) HC1.out (by omega) (by omega) (by omega))
              have CQ := Lib.hid (fun (hx lx : Nat) (ex : Int) (t : Bool) (j : Nat) (h1 : hx < 18446744073709551616) (h2 : lx < 18446744073709551616) (hN : hx * 18446744073709551616 + lx = m.natAbs / 2 ^ j) (h0 : hx * 18446744073709551616 + lx ≠ 0) (ht : t = decide (m.natAbs % 2 ^ j ≠ 0)) (htop : t = true → 2 ^ 127 ≤ hx * 18446744073709551616 + lx) (hex : ex = xe + j) (hj : j ≤ 3200000) (wx : World) =>
                fquotG_any (A := m.natAbs) (C := m'.natAbs) (j := j) (hx := hx) (lx := lx) (ex := ex) (ey := ye) (ea := xe) (t := t) h1 h2 hN h0 ht htop HC1.out (by have := HODD.out.2; omega) hex (by omega) (by omega) (by omega) (by omega) wx)
              go_upto_region 9 with fail
              go_region_held3 (fun wx => (wx.cell? ⟨B, 0, none⟩ = some (.bool false) ∧ wx.cell? ⟨B, 1, none⟩ = some (.bool xn) ∧ wx.cell? ⟨B, 2, none⟩ = some (.slice xo xk xc) ∧ wx.cell? ⟨B, 3, none⟩ = some (.int .i64 xe)) ∧ (wx.cell? ⟨B + 1, 0, none⟩ = some (.bool false) ∧ wx.cell? ⟨B + 1, 1, none⟩ = some (.bool yn) ∧ wx.cell? ⟨B + 1, 2, none⟩ = some (.slice yo yk yc) ∧ wx.cell? ⟨B + 1, 3, none⟩ = some (.int .i64 ye)))
                (first | exact HC.out _ (by assumption))
                (first
                  | (go_at_call 84; with_reducible refine (CL1.out _ (by assumption)).mono ?_; rintro e w6 ⟨H, L, E, T, j, rfl, hH, hL, hV, h0, hE, hTT, h53, -, hj, hE1⟩; have CQ := Lib.hid (CQ.out H L E T j hH hL hV h0 hTT h53 hE hj); clear hV h0 hE hTT h53 hj hH hL; have ex5 : Ext w2 w6 := Ext.trans (by assumption) hE1)
                  | (go_at_call 84; with_reducible refine (CL2.out _ (by assumption)).mono ?_; rintro e w7 ⟨rfl, hE2'⟩; have ex6 : Ext w2 w7 := Ext.trans (by assumption) hE2')
                  | (go_at_call 72; refine (CQ.out _).mono ?_; rintro e w8 ⟨qH, qL, qE, qT, rfl, hqH, hqL, hG, hq0, hq1, hE3⟩; have CR1 := Lib.hid (CR.out qH qL qE qT hqH hqL hG (by omega) (by omega)); clear hG hqH hqL; have ex7 : Ext w2 w8 := Ext.trans (by assumption) hE3)
                  | (go_at_call 74; refine (CR1.out _).mono ?_; rintro e w9 ⟨rfl, hE4⟩; have ex8 : Ext w2 w9 := Ext.trans (by assumption) hE4))
              have hBz := (bnext hB3 (by omega) (show Below w2.heap.size w2 w9 from ex8)).1
              have HF := Lib.hid hBz
              go_wp2
              go_ret
              refine ⟨rfl, ?_⟩
              show Below _ _ _; rw [HBe.out]; exact HF.out
end Go.Proofs.YtolghagbpnjpgaaGreatDoor
