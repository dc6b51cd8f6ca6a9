import Derived.Test.YtolghagbpnjpgaaGreatDoorFQuotU28
import Derived.Test.YtolghagbpnjpgaaGreatDoorFQuotU39
import Derived.Test.YtolghagbpnjpgaaGreatDoorFQuotU44
namespace Go.Proofs.YtolghagbpnjpgaaGreatDoor
open Go Go.RowKit

set_option maxRecDepth 100000 in
set_option maxHeartbeats 4000000 in
theorem refQuoF_any (u v : Value) (d d' : Dy) (mode : Int) (w : World) (hu : Dl w u d) (hv : Dl w v d') (hT : Table w) :
    Calls Tryz.prog 24 #[u, v, .int .i64 mode] w fun e w' => e = .returned (.int .u64 ((quoV d d' mode : Nat) : Int)) ∧ Ext w w' := by
  obtain ⟨R, hR⟩ : ∃ R, quoV d d' mode = R := ⟨_, rfl⟩
  rw [hR]
  have HR := Lib.hid hR
  clear hR
  have hu0 := hu
  have hv0 := hv
  obtain ⟨ub, un, uo, uk, uc, _, uf, rfl, -⟩ := hu0
  obtain ⟨vb, vn, vo, vk, vc, _, vf, rfl, -⟩ := hv0
  go_enter Tryz.func24, Tryz.ntmps24
  go_upto_region 1 with fail
  obtain ⟨W, hW, hB, hbx, hby, hz⟩ := boxes_two_d w ub un uo uk uc uf vb vn vo vk vc vf
  rw [← hW]
  clear hW
  have hu := hu.ext hB
  have hv := hv.ext hB
  have HT0 := Lib.hid hT
  have hT := hT.below hB
  generalize hBe : w.heap.size = B at *
  have HBe := Lib.hid hBe; clear hBe
  go_cut [] from 10 (fun wx => ∃ xb xn xo xk xc xe yb yn yo yk yc ye, Dn wx (.agg #[.bool xb, .bool xn, .slice xo xk xc, .int .i64 xe]) d ∧ Dn wx (.agg #[.bool yb, .bool yn, .slice yo yk yc, .int .i64 ye]) d' ∧
    DBox wx B xb xn xo xk xc xe ∧ DBox wx (B + 1) yb yn yo yk yc ye ∧ Below B w wx ∧ (∀ k, B + 1 < k → k < W.heap.size → wx.heap[k]? = W.heap[k]?) ∧ W.heap.size ≤ wx.heap.size)
  case first =>
    have k0 := hbx.c0
    have k1 := hbx.c1
    have k2 := hbx.c2
    have k3 := hbx.c3
    have l0 := hby.c0
    have l1 := hby.c1
    have l2 := hby.c2
    have l3 := hby.c3
    go_region_with (first
      | (go_at_call 86; refine (refDNorm_any _ _ _ (by exact hu.ext (by exact (Below.refl _ _).drew)) (by exact hT.below (by exact (Below.refl _ _).drew))).mono ?_; rintro e w1 ⟨r1, rfl, hr1, hw1⟩; have ex1 : Ext W w1 := Ext.trans (by exact (Below.refl _ _).drew) hw1; obtain ⟨xb, xn, xo, xk, xc, xe, rfl⟩ := hr1.parts; have fb := hby.ext ex1; have h0 := fb.c0; have h1 := fb.c1; have h2 := fb.c2; have h3 := fb.c3)
      | (go_at_call 86; refine (refDNorm_any _ _ _ (by exact hv.ext ex1) (by exact hT.below ex1)).mono ?_; rintro e w2 ⟨r2, rfl, hr2, hw2⟩; have ex2 : Ext W w2 := Ext.trans ex1 hw2; obtain ⟨yb, yn, yo, yk, yc, ye, rfl⟩ := hr2.parts; have hr1 := hr1.ext hw2; clear h0 h1 h2 h3; have fa := hbx.ext ex2; have fb := hby.ext ex2; have a0 := fa.c0; have a1 := fa.c1; have a2 := fa.c2; have a3 := fa.c3; have b0 := fb.c0; have b1 := fb.c1; have b2 := fb.c2; have b3 := fb.c3; have g0 := fa.f 0; have g1 := fa.f 1; have g2 := fa.f 2; have g3 := fa.f 3; have h0 := fb.f 0; have h1 := fb.f 1; have h2 := fb.f 2; have h3 := fb.f 3))
    all_goals
      go_wp2
      go_meet
    all_goals
      clear a0 a1 a2 a3 b0 b1 b2 b3 g0 g1 g2 g3 h0 h1 h2 h3 k0 k1 k2 k3 l0 l1 l2 l3
      obtain ⟨hB2, hB2'⟩ := bnext hB (by omega) ex2
      obtain ⟨Z, hZ, z1, z2, z3, z4, z5, z6, z7⟩ := two_dyads fa fb (by omega) (Nat.le_refl B) (Nat.le_succ B) hr1 hr2 hB2
      rw [← hZ]
      exact ⟨_, _, _, _, _, _, _, _, _, _, _, _, z1, z2, z4, z5, z3, fun k hk1 hk2 => by rw [z6 k (by omega) (by omega)]; exact Below.block ex2 k hk2, by rw [z7]; exact Below.size ex2⟩
  case rest =>
    obtain ⟨xb, xn, xo, xk, xc, xe, yb, yn, yo, yk, yc, ye, hx, hy, bx, bY, hB1, hkeep, hzc⟩ := hcut
    have hT1 := (show Table w from HT0.out).below (w' := wc) (by rw [HBe.out]; exact hB1)
    have HT := Lib.hid hT1
    clear hT1 hbx hby hu hv hT hB hkeep
    have k0 := bx.c0
    have k1 := bx.c1
    have k2 := bx.c2
    have k3 := bx.c3
    have l0 := bY.c0
    have l1 := bY.c1
    have l2 := bY.c2
    have l3 := bY.c3
    cases d with
    | none =>
      obtain rfl := dn_none hx
      obtain rfl : R = 9221120237041090560 := HR.out.symm
      go_wp2
      go_ret
      refine ⟨rfl, ?_⟩
      show Below _ _ _; rw [HBe.out]; exact hB1
    | some q =>
      obtain ⟨m, f⟩ := q
      obtain ⟨rfl, rfl, hm⟩ := dn_some hx
      cases d' with
      | none =>
        obtain rfl := dn_none hy
        obtain rfl : R = 9221120237041090560 := HR.out.symm
        go_wp2
        go_ret
        refine ⟨rfl, ?_⟩
        show Below _ _ _; rw [HBe.out]; exact hB1
      | some q =>
        obtain ⟨m', f'⟩ := q
        obtain ⟨rfl, rfl, hm'⟩ := dn_some hy
        have hnx := nd_blen hx.1
        have hny := nd_blen hy.1
        simp only [dm, dx, Option.getD_some] at hnx hny
        obtain ⟨hnx, hx0, hx1⟩ := hnx
        obtain ⟨hny, hy0, hy1⟩ := hny
        have HNX := Lib.hid hm.neg
        have HNY := Lib.hid hm'.neg
        have gm := bn_bg_of hm (by omega)
        have gm' := bn_bg_of hm' (by omega)
        clear hx hy hm hm'
        by_cases h3 : m' = 0
        · subst h3
          have hs3 : sgn3 (0 : Int) 0 = 0 := rfl
          have hR : R = 9221120237041090560 := by
            rw [← HR.out]; unfold quoV; dsimp only
            rw [if_pos rfl]
          subst hR
          have CS := refSign_any _ _ _ _ _ wc gm'
          rw [hs3] at CS
          have CS := Lib.hid CS
          go_wp2_with fail
          refine CS.out.mono ?_
          rintro e w1 ⟨rfl, hw1⟩
          obtain ⟨hB2, hB2'⟩ := bnext hB1 (by omega) hw1
          clear k0 k1 k2 k3 l0 l1 l2 l3 CS
          go_wp2
          go_ret
          refine ⟨rfl, ?_⟩
          show Below _ _ _; rw [HBe.out]; exact hB2
        · obtain ⟨sy, hsy⟩ : ∃ sy, sgn3 m' 0 = sy := ⟨_, rfl⟩
          have hsy0 : (sy == 0) = false := by
            rw [← hsy]; unfold sgn3
            split
            · rfl
            · split <;> first | rfl | omega
          have CS := refSign_any _ _ _ _ _ wc gm'
          rw [hsy] at CS
          have CS := Lib.hid CS
          clear hsy
          go_wp2_with fail
          refine CS.out.mono ?_
          rintro e w1 ⟨rfl, hw1⟩
          have hw1 : Ext wc w1 := hw1
          have bx := bx.ext hw1
          have bY := bY.ext hw1
          have gm := gm.below hw1
          have gm' := gm'.below hw1
          have HT := Lib.hid (HT.out.below hw1)
          obtain ⟨hB2, hB2'⟩ := bnext hB1 (by omega) hw1
          have hz1 := Below.size hw1
          clear k0 k1 k2 k3 l0 l1 l2 l3 CS hw1 hB1
          have k0 := bx.c0
          have k1 := bx.c1
          have k2 := bx.c2
          have k3 := bx.c3
          by_cases h4 : m = 0
          · subst h4
            have hs4 : sgn3 (0 : Int) 0 = 0 := rfl
            have hR : R = 0 := by
              rw [← HR.out]; unfold quoV; dsimp only
              rw [if_neg h3, if_pos rfl]
            subst hR
            have CS := refSign_any _ _ _ _ _ w1 gm
            rw [hs4] at CS
            have CS := Lib.hid CS
            go_wp2_with fail
            refine CS.out.mono ?_
            rintro e w3 ⟨rfl, hw3⟩
            obtain ⟨hB3, hB3'⟩ := bnext hB2 (by omega) hw3
            clear k0 k1 k2 k3 CS
            go_wp2
            go_ret
            refine ⟨rfl, ?_⟩
            show Below _ _ _; rw [HBe.out]; exact hB3
          · obtain ⟨sx, hsx⟩ : ∃ sx, sgn3 m 0 = sx := ⟨_, rfl⟩
            have hsx0 : (sx == 0) = false := by
              rw [← hsx]; unfold sgn3
              split
              · rfl
              · split <;> first | rfl | omega
            have CS := refSign_any _ _ _ _ _ w1 gm
            rw [hsx] at CS
            have CS := Lib.hid CS
            clear hsx
            have HV : flr (decide (m < 0) != decide (m' < 0)) (m.natAbs * 2 ^ (60 + 2 + blen m'.natAbs - blen m.natAbs) / m'.natAbs) (xe - ye + -((60 + 2 + blen m'.natAbs - blen m.natAbs : Nat) : Int)) (decide (m.natAbs * 2 ^ (60 + 2 + blen m'.natAbs - blen m.natAbs) % m'.natAbs ≠ 0)) mode = R := by
              rw [← HR.out]; unfold quoV; dsimp only
              rw [if_neg h3, if_neg h4]
            have HBIG := quo_big (A := m.natAbs) (C := m'.natAbs) (by omega) (by omega)
            rw [← HNX.out, ← HNY.out] at HV
            have hC0 : m'.natAbs ≠ 0 := by omega
            clear h3 h4 HR
            go_wp2_with fail
            refine CS.out.mono ?_
            rintro e w2 ⟨rfl, hw2⟩
            have hw2 : Ext w1 w2 := hw2
            have bx := bx.ext hw2
            have bY := bY.ext hw2
            have gm := gm.below hw2
            have gm' := gm'.below hw2
            have HT := Lib.hid (HT.out.below hw2)
            obtain ⟨hB3, hB3'⟩ := bnext hB2 (by omega) hw2
            have hz2 := Below.size hw2
            clear k0 k1 k2 k3 CS hw2 hB2
            have HBIG := Lib.hid HBIG
            go_upto_region 6 with fail
            have HBIG := HBIG.out
            obtain ⟨A, hA⟩ : ∃ A, m.natAbs = A := ⟨_, rfl⟩
            obtain ⟨C, hCe⟩ : ∃ C, m'.natAbs = C := ⟨_, rfl⟩
            have CA := fun W' (hE : Ext w2 W') => (refAbs_any xn xo xk xc m W' (gm.below hE)).mono (fun e w' (h : ∃ nr ro k cr, e = .returned (.agg #[.bool nr, .slice ro k cr]) ∧ Bn w' nr ro k cr m.natAbs ∧ k ≤ xk ∧ Below W'.heap.size W' w') => (show ∃ nr ro k cr, e = .returned (.agg #[.bool nr, .slice ro k cr]) ∧ Bn w' nr ro k cr (m.natAbs : Int) ∧ Ext W' w' from by obtain ⟨a, b, c, d, h1, h2, _, h4⟩ := h; exact ⟨a, b, c, d, h1, h2, h4⟩))
            have CC := fun W' (hE : Ext w2 W') => (refAbs_any yn yo yk yc m' W' (gm'.below hE)).mono (fun e w' (h : ∃ nr ro k cr, e = .returned (.agg #[.bool nr, .slice ro k cr]) ∧ Bn w' nr ro k cr m'.natAbs ∧ k ≤ yk ∧ Below W'.heap.size W' w') => (show ∃ nr ro k cr, e = .returned (.agg #[.bool nr, .slice ro k cr]) ∧ Bn w' nr ro k cr (m'.natAbs : Int) ∧ Ext W' w' from by obtain ⟨a, b, c, d, h1, h2, _, h4⟩ := h; exact ⟨a, b, c, d, h1, h2, h4⟩))
            rw [hA] at CA HV hnx HBIG
            rw [hCe] at CC HV hny hC0 HBIG
            have CA := Lib.hid CA
            have CC := Lib.hid CC
            have hAb : blen A ≤ 140000 := by omega
            have hCb : blen C ≤ 140000 := by omega
            have HAb := Lib.hid hAb
            have HCb := Lib.hid hCb
            have CRT : ∀ (W' : World) (an bn : Bool) (ao bo : Option Addr) (ak bk ac bc : Nat), Bg W' an ao ak ac (A : Int) → Bg W' bn bo bk bc (C : Int) → Calls Tryz.prog 92 #[.agg #[.bool an, .slice ao ak ac], .agg #[.bool bn, .slice bo bk bc], .int .i64 60] W' fun e w' => ∃ qn qo qk qc, e = .returned (.tuple #[.agg #[.bool qn, .slice qo qk qc], .int .i64 (-((60 + 2 + blen C - blen A : Nat) : Int)), .bool (decide (A * 2 ^ (60 + 2 + blen C - blen A) % C ≠ 0))]) ∧ Bn w' qn qo qk qc ((A * 2 ^ (60 + 2 + blen C - blen A) / C : Nat) : Int) ∧ Ext W' w' := fun W' an bn ao bo ak bk ac bc g1 g2 => refRatio_any A C an bn ao bo ak bk ac bc 60 W' g1 g2 hAb hCb hC0 (by omega)
            have hkb : 60 + 2 + blen C - blen A ≤ 150000 := by omega
            obtain ⟨k, hk⟩ : ∃ k, 60 + 2 + blen C - blen A = k := ⟨_, rfl⟩
            rw [hk] at CRT HV hkb HBIG
            have hNb : blen (A * 2 ^ k / C) ≤ 300000 := by
              have h1 := blen_lt A
              have h2 : A * 2 ^ k < 2 ^ (blen A + k) := by rw [Nat.pow_add]; exact Nat.mul_lt_mul_of_pos_right h1 (Nat.pow_pos (by omega))
              have h3 := Nat.div_le_self (A * 2 ^ k) C
              exact Nat.le_trans (blen_le_of_lt (Nat.lt_of_le_of_lt h3 h2)) (by omega)
            obtain ⟨t, ht⟩ : ∃ t, decide (A * 2 ^ k % C ≠ 0) = t := ⟨_, rfl⟩
            obtain ⟨Q, hQ⟩ : ∃ Q, A * 2 ^ k / C = Q := ⟨_, rfl⟩
            rw [ht, hQ] at CRT
            rw [ht, hQ] at HV
            rw [hQ] at hNb HBIG
            obtain ⟨sn, hsn⟩ : ∃ sn, (xn != yn) = sn := ⟨_, rfl⟩
            rw [hsn] at HV
            have HSN := Lib.hid (show (!xn == yn) = sn from hsn)
            have HV := Lib.hid HV
            have HBIG := Lib.hid HBIG
            have CRT := Lib.hid CRT
            have HNb := Lib.hid hNb
            clear hA hCe hC0 hAb hCb hk ht hQ hsn hNb
            have HC := Lib.hid (show ∀ wx, Ext w2 wx → (wx.cell? ⟨B, 1, none⟩ = some (.bool xn) ∧ wx.cell? ⟨B, 2, none⟩ = some (.slice xo xk xc)) ∧ (wx.cell? ⟨B + 1, 1, none⟩ = some (.bool yn) ∧ wx.cell? ⟨B + 1, 2, none⟩ = some (.slice yo yk yc)) from fun wx h => ⟨⟨(bx.ext h).c1, (bx.ext h).c2⟩, (bY.ext h).c1, (bY.ext h).c2⟩)
            have st : Ext w2 w2.drew := (Below.refl _ _).drew
            obtain ⟨⟨k1, k2⟩, l1, l2⟩ := HC.out w2 (Ext.refl _)
            go_cut [7, 8, 9] from 30 (fun s9 s10 s11 wx => ∃ G qn qo qk qc, s9 = .pointer (some ⟨G, 0, none⟩) ∧ s10 = .int .i64 (-(k : Int)) ∧ s11 = .bool t ∧ Box wx G qn qo qk qc ∧ Bn wx qn qo qk qc (Q : Int) ∧ Ext w2 wx)
            case first =>
              go_region_held3 (fun wx => (wx.cell? ⟨B, 1, none⟩ = some (.bool xn) ∧ wx.cell? ⟨B, 2, none⟩ = some (.slice xo xk xc)) ∧ (wx.cell? ⟨B + 1, 1, none⟩ = some (.bool yn) ∧ wx.cell? ⟨B + 1, 2, none⟩ = some (.slice yo yk yc)))
                (first | exact HC.out _ (by first | assumption | exact Ext.refl _ | exact ext_allocB2 (by assumption) _ | exact ext_adB _ _))
                (first
                  | (go_at_call 89; with_reducible refine (CA.out _ (by first | assumption | exact Ext.refl _ | exact ext_allocB2 (by assumption) _ | exact ext_adB _ _)).mono ?_; rintro e v1 ⟨an, ao, ak, ac, rfl, h1a, hv1⟩; have ex1 : Ext w2 v1 := Ext.trans (by first | assumption | exact Ext.refl _ | exact ext_allocB2 (by assumption) _ | exact ext_adB _ _) hv1)
                  | (go_at_call 89; with_reducible refine (CC.out _ (by first | assumption | exact Ext.refl _ | exact ext_allocB2 (by assumption) _ | exact ext_adB _ _)).mono ?_; rintro e v2 ⟨bn, bo, bk, bc, rfl, h2a, hv2⟩; (first | (have hE12 : Ext v1 v2 := hv2) | (have hE12 : Ext v1 v2 := ext_over hv2)); have ex2 : Ext w2 v2 := Ext.trans ex1 hE12; have h1b := bn_ext h1a hE12)
                  | (go_at_call 92; refine (CRT.out _ _ _ _ _ _ _ _ _ (by first | exact bn_bg_of h1b (by rw [Int.natAbs_natCast]; have := HAb.out; omega) | exact bn_bg_of (h1b.below (ext_allocB _ _)) (by rw [Int.natAbs_natCast]; have := HAb.out; omega)) (by first | exact bn_bg_of h2a (by rw [Int.natAbs_natCast]; have := HCb.out; omega) | exact bn_bg_of (h2a.below (ext_allocB _ _)) (by rw [Int.natAbs_natCast]; have := HCb.out; omega))).mono ?_; rintro e v3 ⟨qn, qo, qk, qc, rfl, hq, hv3⟩; have ex3 : Ext w2 v3 := Ext.trans (by first | assumption | exact Ext.refl _ | exact ext_allocB2 (by assumption) _ | exact ext_adB _ _) hv3; (first | (have bz := bbox_in1 (w := v2) hv3) | (have bz := Box.below (bbox_in1 (w := v1) hv2) hv3) | (have bz := Box.below (bbox_in1 (w := w2) hv1) (Ext.trans hE12 hv3)) | (have bz := Box.below (bbox_in1d (w := w2) hv1) (Ext.trans hE12 hv3)) | skip); (first | (have zl := bz.lt; have y0 := bz.c0; have y1 := bz.c1; have g0 := bz.f 0; have g1 := bz.f 1; obtain ⟨st1, st2, st3⟩ := bbox_stored (W := w2) bz hq ex3 (by first | exact Nat.le_refl _ | exact Below.size ex1 | exact Below.size ex2)) | skip)))
              all_goals
                go_wp2
                go_meet
              all_goals
                first
                  | exact ⟨_, qn, qo, qk, qc, rfl, rfl, rfl, st2, st1, st3⟩
                  | exact ⟨_, qn, qo, qk, qc, rfl, rfl, rfl, Box.new _ qn qo qk qc, hq.below (ext_allocB _ _), ext_allocB2 ex3 _⟩
            case rest =>
              obtain ⟨G, qn, qo, qk, qc, rfl, rfl, rfl, hG, hq, hE⟩ := hcut
              obtain ⟨X, hX⟩ : ∃ X, X = wc := ⟨wc, rfl⟩
              subst hX
              have bx := bx.ext hE
              have bY := bY.ext hE
              have HT := Lib.hid (HT.out.below hE)
              obtain ⟨hB4, hB4'⟩ := bnext hB3 (by omega) hE
              have CR := refRoundedT_any sn qn qo qk qc Q (xe - ye + -(k : Int)) t mode X (bn_bg_of hq (by rw [Int.natAbs_natCast]; have := HNb.out; omega)) (big_ne HBIG.out) (big_place HBIG.out) (by have := HNb.out; omega) (by omega) (by omega) HT.out
              rw [HV.out, ← HSN.out] at CR
              have CR := Lib.hid CR
              clear k1 k2 l1 l2 st hE hB3 CA CC HC hq HBIG
              have k0 := bx.c0
              have k1 := bx.c1
              have k2 := bx.c2
              have k3 := bx.c3
              have l0 := bY.c0
              have l1 := bY.c1
              have l2 := bY.c2
              have l3 := bY.c3
              have g0 := hG.c0
              have g1 := hG.c1
              go_wp2_with fail
              with_reducible refine CR.out.mono ?_
              rintro e w5 ⟨rfl, hw5⟩
              have hB5 : Below B w w5 := (bnext hB4 (by omega) hw5).1
              have HF := Lib.hid hB5
              clear k0 k1 k2 k3 l0 l1 l2 l3 g0 g1 CR hB4
              go_wp2
              go_ret
              refine ⟨rfl, ?_⟩
              show Below _ _ _; rw [HBe.out]; exact HF.out
end Go.Proofs.YtolghagbpnjpgaaGreatDoor
