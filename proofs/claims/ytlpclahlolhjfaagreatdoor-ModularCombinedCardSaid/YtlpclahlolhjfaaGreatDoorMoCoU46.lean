import Derived.Test.YtlpclahlolhjfaaGreatDoorMoCoU37
import Derived.Test.YtlpclahlolhjfaaGreatDoorMoCoU36
namespace Go.Proofs.YtlpclahlolhjfaaGreatDoor
open Go Go.RowKit

theorem big_bg {w : World} {nb : Bool} {ao : Option Addr} {n ca k : Nat} {N q : Int} (h : Bn w nb ao n ca (N * q)) (hN : N.natAbs < 4294967296 ^ (k + 1)) (hq : q.natAbs < 4294967296) (hk : k ≤ 100) : Bg w nb ao n ca (N * q) := by
  have h1 := abs_mul (x := N) (y := q) (N := k + 1) (M := 1) hN (by omega)
  have := few_limbs h h1
  exact h.bg (by omega)
theorem refMod_ext (a p : Int) (w : World) (h0 : 0 < p) (hp : p ≤ 2147483648) : Calls Tryz.prog 32 #[.int .i64 a, .int .i64 p] w fun e w' => e = .returned (.int .i64 (a % p)) ∧ Ext w w' :=
  (refMod_any a p w h0 hp).mono fun _ _ ⟨h, hw⟩ => ⟨h, by rw [hw]; exact Ext.refl _⟩
theorem refInverse_ext (a p : Int) (w : World) (h0 : 0 ≤ a) (h1 : a < p) (hp1 : 1 < p) (hp : p ≤ 2147483647) : Calls Tryz.prog 34 #[.int .i64 a, .int .i64 p] w fun e w' => e = .returned (.int .i64 (invZ a p)) ∧ Ext w w' :=
  (refInverseZ a p w h0 h1 hp1 hp).mono fun _ _ ⟨h, hw⟩ => ⟨h, by rw [hw]; exact Ext.refl _⟩

set_option maxRecDepth 100000 in
set_option maxHeartbeats 8000000 in
theorem refCombine_any (ao bo : Option Addr) (n c d : Nat) (res ps : List Int) (w : World) (hres : Ns w ao n c res) (h : Ns w bo n d ps) (hn : n ≤ 6) (hps : ∀ p ∈ ps, 1 < p ∧ p ≤ 2147483647) :
    Calls Tryz.prog 11 #[.slice ao n c, .slice bo n d] w fun e w' => ∃ an aa ak ac bn ba bk bc, e = .returned (.tuple #[.agg #[.bool an, .slice aa ak ac], .agg #[.bool bn, .slice ba bk bc]]) ∧
      Bn w' an aa ak ac (crtC (crtFin res ps) (crtN ps)) ∧ Bn w' bn ba bk bc (crtN ps) ∧ Ext w w' := by
  obtain ⟨PN, hPN⟩ : ∃ PN, crtN ps = PN := ⟨_, rfl⟩
  rw [hPN]
  obtain ⟨PX, hPX⟩ : ∃ PX, crtC (crtFin res ps) PN = PX := ⟨_, rfl⟩
  rw [hPX]
  have HPN := Lib.hid hPN
  have HPX := Lib.hid hPX
  clear hPN hPX
  go_enter Tryz.func11, Tryz.ntmps11
  go_wp2_with fail
  obtain ⟨W, hW, hB, hx, hy⟩ := box_pair w false none 0 0 false none 0 0
  rw [← hW]
  clear hW
  have HRES := Lib.hid hres
  have HPS := Lib.hid h
  have HLR := Lib.hid (show res.length = n from hres.len)
  have HLP := Lib.hid (show ps.length = n from h.len)
  have HPB := Lib.hid hps
  refine (refFromInt_any 1 W (by omega) (by omega)).mono ?_
  rintro e w2 ⟨nn, no, nk, nc, rfl, hN, h2⟩
  go_upto_region 2 with fail
  obtain ⟨V, hV, hE4, gx, gy⟩ := box_pair w2 false none 0 0 nn no nk nc
  rw [← hV]
  clear hV
  obtain ⟨B, hBe⟩ : ∃ B, w.heap.size = B := ⟨_, rfl⟩
  have HBE := Lib.hid hBe
  rw [hBe] at hx hy
  rw [hBe]
  obtain ⟨G, hG⟩ : ∃ G, w2.heap.size = G := ⟨_, rfl⟩
  rw [hG] at gx gy
  rw [hG]
  have hN4 := hN.below hE4
  have hx4 := (hx.below h2).below hE4
  have hy4 := (hy.below h2).below hE4
  have HX := Lib.hid hx4
  have HY := Lib.hid hy4
  have HGX := Lib.hid gx
  have HGY := Lib.hid gy
  have HN := Lib.hid hN4
  have HBL := Lib.hid (show Below B w V by rw [← hBe]; exact (Ext.trans hB h2).trans hE4)
  have HGB := Lib.hid (show B + 1 < G by have := (hy.below h2).lt; rw [hG] at this; exact this)
  clear hres h hps hB hx hy hN h2 hE4 gx gy hN4 hx4 hy4 hBe hG
  go_wp2
  go_loopw [8] (fun iv wr => ∃ (k : Nat) (X N : Int) (xn nn : Bool) (xo no : Option Addr) (xk xc nk nc : Nat), k ≤ n ∧ iv = .int .i64 (k : Int) ∧ Box wr G xn xo xk xc ∧ Bn wr xn xo xk xc X ∧ Box wr (G + 1) nn no nk nc ∧ Bn wr nn no nk nc N ∧ CrtAt k X N ∧ Hid (N = crtN (ps.take k)) ∧ Hid (crtX ((crtPairs res ps).drop k) X N = crtFin res ps) ∧ Box wr B false none 0 0 ∧ Box wr (B + 1) false none 0 0 ∧ Below B w wr)
    (fun iv _ => n - (intOf iv).toNat)
  case atStart => exact ⟨0, 0, 1, _, _, _, _, _, _, _, _, Nat.zero_le _, rfl, HGX.out, zero_bn' _, HGY.out, HN.out, CrtAt.start, Lib.hid rfl, Lib.hid rfl, HX.out, HY.out, HBL.out⟩
  case round =>
    clear HGX HGY HN HBL HX HY
    obtain ⟨k, X, N, xn, nn, xo, no, xk, xc, nk, nc, hk, rfl, hx, hX, hy, hN, hC, HNE, HXE, hbx, hby, hB⟩ := hrel
    obtain ⟨ax, an⟩ := hC.abs
    have lx := few_limbs hX ax
    have ln := few_limbs hN an
    have EX := bn_ent hX ax (by omega)
    have EN := bn_ent hN an (by omega)
    have HBel := Lib.hid hB
    have hEw : Ext w wr := by unfold Ext; rw [HBE.out]; exact hB
    clear hB
    have x0 := hx.c0
    have x1 := hx.c1
    have v0 := hy.c0
    have v1 := hy.c1
    by_cases hlt : k < n
    · obtain ⟨b1, f1, rfl, hc1⟩ := (HRES.out.below hEw).cells (by omega)
      obtain ⟨b2, f2, rfl, hc2⟩ := (HPS.out.below hEw).cells (by omega)
      have hk1 := hc1 k hlt
      have hk2 := hc2 k hlt
      have hkp : k < ps.length := by rw [HLP.out]; exact hlt
      have HST := Lib.hid (crt_drop (X := X) (N := N) HLR.out HLP.out hlt)
      have HNT := Lib.hid (crtN_take hkp)
      obtain ⟨r, hr⟩ : ∃ r, res.getD k 0 = r := ⟨_, rfl⟩
      obtain ⟨p, hp⟩ : ∃ p, ps.getD k 0 = p := ⟨_, rfl⟩
      have hpb := HPB.out p (by rw [← hp]; simp [List.getD, hkp])
      rw [hr] at hk1 HST
      rw [hp] at hk2 HST HNT
      have HC2 := Lib.hid (hC.step (r := r) (p := p) (by omega) hpb.2)
      obtain ⟨Y, hY⟩ : ∃ Y, crtStep X N r p = Y := ⟨_, rfl⟩
      rw [hY] at HST HC2
      have HXE2 := Lib.hid (HST.out.symm.trans HXE.out)
      have HPB1 := Lib.hid hpb
      have hki : (k : Int) < (n : Int) := by omega
      have HNb := Lib.hid (show X.natAbs < 4294967296 ^ (k + 1) ∧ N.natAbs < 4294967296 ^ (k + 1) ∧ xk ≤ k + 1 ∧ nk ≤ k + 1 from ⟨ax, an, lx, ln⟩)
      have b10 := Int.emod_nonneg r (show p ≠ 0 by omega)
      have b11 := Int.emod_lt_of_pos r (show 0 < p by omega)
      have b20 := Int.emod_nonneg X (show p ≠ 0 by omega)
      have b21 := Int.emod_lt_of_pos X (show 0 < p by omega)
      have b40 := Int.emod_nonneg N (show p ≠ 0 by omega)
      have b41 := Int.emod_lt_of_pos N (show 0 < p by omega)
      obtain ⟨z1, h1⟩ : ∃ z1, r % p = z1 := ⟨_, rfl⟩
      obtain ⟨z2, h2⟩ : ∃ z2, X % p = z2 := ⟨_, rfl⟩
      obtain ⟨z4, h4⟩ : ∃ z4, N % p = z4 := ⟨_, rfl⟩
      obtain ⟨v, hv⟩ : ∃ v, invZ (N % p) p = v := ⟨_, rfl⟩
      have bv := invZ_lt (a := N % p) (p := p) (by omega)
      rw [hv] at bv
      rw [h1] at b10 b11
      rw [h2] at b20 b21
      rw [h4] at b40 b41
      have b30 := Int.emod_nonneg (z1 - z2) (show p ≠ 0 by omega)
      have b31 := Int.emod_lt_of_pos (z1 - z2) (show 0 < p by omega)
      obtain ⟨z3, h3⟩ : ∃ z3, (z1 - z2) % p = z3 := ⟨_, rfl⟩
      rw [h3] at b30 b31
      obtain ⟨dd, hd⟩ : ∃ dd, z1 - z2 = dd := ⟨_, rfl⟩
      have hwd : IntKind.i64.wrap (z1 - z2) = dd := by rw [hd]; exact IntWalk.i64_in _ (by omega)
      have hm0 : 0 ≤ z3 * v := Int.mul_nonneg b30 bv.1
      have hm1 : z3 * v ≤ 2147483647 * 2147483647 := Int.mul_le_mul (by omega) (by omega) bv.1 (by omega)
      obtain ⟨m, hm⟩ : ∃ m, z3 * v = m := ⟨_, rfl⟩
      rw [hm] at hm0 hm1
      have hwm : IntKind.i64.wrap (z3 * v) = m := by rw [hm]; exact IntWalk.i64_in _ (by omega)
      have b50 := Int.emod_nonneg m (show p ≠ 0 by omega)
      have b51 := Int.emod_lt_of_pos m (show 0 < p by omega)
      obtain ⟨q, hq⟩ : ∃ q, m % p = q := ⟨_, rfl⟩
      have htm : m.tmod p = q := by rw [Int.tmod_eq_emod_of_nonneg hm0]; exact hq
      rw [hq] at b50 b51
      have hYq := crtStep_is X N r p z1 z2 z3 v q h1 h2 h3 hv (by rw [hm]; exact hq)
      rw [hY] at hYq
      have HYQ := Lib.hid hYq
      have HQ := Lib.hid (show 0 ≤ q ∧ q < p from ⟨b50, b51⟩)
      have hp0 : 0 < p := by omega
      have hpz : (p == 0) = false := by apply beq_eq_false_iff_ne.2; omega
      have hpne : ¬ p = 0 := by omega
      have hq1 : IntKind.i64.wrap q = q := IntWalk.i64_in _ (by omega)
      have hq2 : IntKind.i64.wrap (m.tmod p) = q := by rw [htm]; exact hq1
      have C1 := Lib.hid (fun wx => refMod_ext r p wx (by omega) (by omega))
      have C2 := Lib.hid (fun wx (h : Ext wr wx) => refReduce_any xn xo xk xc X p wx ((hX.bg (by omega)).below h) (by omega) (by omega) (by omega))
      have C3 := Lib.hid (fun wx => refMod_ext dd p wx (by omega) (by omega))
      have C4 := Lib.hid (fun wx (h : Ext wr wx) => refReduce_any nn no nk nc N p wx ((hN.bg (by omega)).below h) (by omega) (by omega) (by omega))
      have C5 := Lib.hid (fun wx => refInverse_ext z4 p wx b40 b41 hpb.1 hpb.2)
      rw [h1] at C1
      rw [h2] at C2
      rw [← hd, h3, hd] at C3
      rw [h4] at C4
      rw [← h4, hv, h4] at C5
      have HC := Lib.hid (show ∀ wx, Ext wr wx → ((wx.cell? ⟨G, 0, none⟩ = some (.bool xn) ∧ wx.cell? ⟨G, 1, none⟩ = some (.slice xo xk xc)) ∧ (wx.cell? ⟨G + 1, 0, none⟩ = some (.bool nn) ∧ wx.cell? ⟨G + 1, 1, none⟩ = some (.slice no nk nc))) ∧ wx.cell? ⟨b1, f1 + k, none⟩ = some (.int .i64 r) from fun wx h => ⟨⟨⟨(hx.below h).c0, (hx.below h).c1⟩, ⟨(hy.below h).c0, (hy.below h).c1⟩⟩, (h.cell (lt_of_cell hk1)).trans hk1⟩)
      have stn : St wr wr [] := ⟨Ext.refl _, fun p hp => by cases hp⟩
      clear hc1 hc2 hkp hr hp hC ax an EX EN hY HXE HST b10 b11 b20 b21 b30 b31 b40 b41 b50 b51 h1 h2 h3 h4 hv hd hm hq hm0 hm1 bv hYq lx ln
      go_upto_region 6 with fail
      have std := stn.drew
      first | (go_region_held3 (fun wx => ((wx.cell? ⟨G, 0, none⟩ = some (.bool xn) ∧ wx.cell? ⟨G, 1, none⟩ = some (.slice xo xk xc)) ∧ (wx.cell? ⟨G + 1, 0, none⟩ = some (.bool nn) ∧ wx.cell? ⟨G + 1, 1, none⟩ = some (.slice no nk nc))) ∧ wx.cell? ⟨b1, f1 + k, none⟩ = some (.int .i64 r))
        (first | exact HC.out _ (by exact St.ext (by with_reducible assumption)))
        (first
          | (go_at_call 32; (with_reducible refine (C1.out _).mono ?_); rintro e wn ⟨rfl, hwn⟩; have stn := St.step (W := wr) (by with_reducible assumption) hwn)
          | (go_at_call 32; (with_reducible refine (C3.out _).mono ?_); rintro e wn ⟨rfl, hwn⟩; have stn := St.step (W := wr) (by with_reducible assumption) hwn)
          | (go_at_call 33; (with_reducible refine (C2.out _ (by exact St.ext (by assumption))).mono ?_); rintro e wn ⟨rfl, hwn⟩; have stn := St.step (W := wr) (by with_reducible assumption) hwn)
          | (go_at_call 33; (with_reducible refine (C4.out _ (by exact St.ext (by assumption))).mono ?_); rintro e wn ⟨rfl, hwn⟩; have stn := St.step (W := wr) (by with_reducible assumption) hwn)
          | (go_at_call 34; (with_reducible refine (C5.out _).mono ?_); rintro e wn ⟨rfl, hwn⟩; have stn := St.step (W := wr) (by with_reducible assumption) hwn)
          )) | fail "r6"
      obtain ⟨V, hV⟩ : ∃ V, V = wn := ⟨wn, rfl⟩
      subst hV
      have gx := hx.below stn.ext
      have gy := hy.below stn.ext
      have gX := hX.below stn.ext
      have gN := hN.below stn.ext
      have gbx := hbx.below stn.ext
      have gby := hby.below stn.ext
      have hbz := hby.lt
      have hgz := gy.lt
      have HB2 := Lib.hid (show Below B w V from Below.trans HBel.out (stn.ext.mono (by omega)))
      clear x0 x1 v0 v1 hk1 hk2 hx hy hX hN hbx hby C1 C2 C3 C4 C5 std stn hwn hwd hwm htm hpz hpne hq1 hq2 hp0 hEw HC
      have x0 := gx.c0
      have x1 := gx.c1
      have v0 := gy.c0
      have v1 := gy.c1
      have hxk := HNb.out.2.2.1
      have hnk := HNb.out.2.2.2
      have hGB := HGB.out
      go_upto_region 7 with fail
      go_cut [] from 43 to 52 (fun wx => ∃ rn ro rk rc, Box wx G rn ro rk rc ∧ Bn wx rn ro rk rc Y ∧ Box wx (G + 1) nn no nk nc ∧ Bn wx nn no nk nc N ∧ Box wx B false none 0 0 ∧ Box wx (B + 1) false none 0 0 ∧ Below B w wx)
      case first =>
        go_region_with (first
          | (go_at_call 18; refine (refFromInt_any q _ (by have := HQ.out; have := HPB1.out; omega) (by have := HQ.out; have := HPB1.out; omega)).mono ?_; rintro e w4 ⟨gn, go, gk, gc, rfl, hg, hw4⟩; have ex1 : Ext V w4 := Ext.trans (by first | exact (Below.refl _ _).drew | exact Ext.refl _) hw4; have c1 := gx.below ex1; have j0 := c1.c0; have j1 := c1.c1; have c3 := gy.below ex1; have k0 := c3.c0; have k1 := c3.c1)
          | (go_at_call 36; refine (refMul_any _ _ _ _ _ _ _ _ N q _ (by exact (gN.bg (by omega)).below ex1) (by exact bn_small hg (by have := HQ.out; have := HPB1.out; omega))).mono ?_; rintro e w5 ⟨mn, mo, mk, mc, rfl, hm, hw5⟩; have ex2 : Ext V w5 := ex1.trans hw5; clear k0 k1 j0 j1; have c1 := gx.below ex2; have j0 := c1.c0; have j1 := c1.c1)
          | (go_at_call 35; refine (refAdd_any _ _ _ _ _ _ _ _ X (N * q) _ (by exact (gX.bg (by omega)).below ex2) (by exact big_bg hm HNb.out.2.1 (by have := HQ.out; have := HPB1.out; omega) (by omega))).mono ?_; rintro e w6 ⟨rn, ro, rk, rc, rfl, hr3, hw6⟩; have ex3 : Ext V w6 := ex2.trans hw6; clear j0 j1; have c2 := gx.below ex3; have q0 := c2.c0; have q1 := c2.c1; have f0 := c2.f 0; have f1 := c2.f 1))
        all_goals
          go_wp2
          go_meet
        all_goals
          have o1 := only_set2 w6 G (.bool rn) (.slice ro rk rc)
          have hb3 := Below.trans (Below.trans HB2.out (ex3.mono (by omega))) (o1.below (B := B) (by omega))
          rw [← HYQ.out] at hr3
          exact ⟨rn, ro, rk, rc, c2.stored rn ro rk rc, bn_only hr3 c2 o1, (gy.below ex3).only o1 (by omega), bn_only (gN.below ex3) c2 o1, (gbx.below ex3).only o1 (by omega), (gby.below ex3).only o1 (by omega), hb3⟩
      case rest =>
        obtain ⟨rn, ro, rk, rc, hx2, hX2, hy2, hN2, hbx2, hby2, hB2⟩ := hcut
        obtain ⟨V2, hV2⟩ : ∃ V2, V2 = wc := ⟨wc, rfl⟩
        subst hV2
        have HB3 := Lib.hid hB2
        have hsz2 := hy2.lt
        clear x0 x1 v0 v1 gx gy gX gN gbx gby hB2 hbz hgz HB2
        have v0 := hy2.c0
        have v1 := hy2.c1
        go_upto_region 8 with fail
        go_region_with (first
          | (go_at_call 18; refine (refFromInt_any p _ (by have := HPB1.out; omega) (by have := HPB1.out; omega)).mono ?_; rintro e w4 ⟨gn, go, gk, gc, rfl, hg, hw4⟩; have ex1 : Ext V2 w4 := Ext.trans (by first | exact (Below.refl _ _).drew | exact Ext.refl _) hw4; have c1 := hy2.below ex1; have k0 := c1.c0; have k1 := c1.c1)
          | (go_at_call 36; refine (refMul_any _ _ _ _ _ _ _ _ N p _ (by exact (hN2.bg (by omega)).below ex1) (by exact bn_small hg (by have := HPB1.out; omega))).mono ?_; rintro e w5 ⟨mn, mo, mk, mc, rfl, hm, hw5⟩; have ex2 : Ext V2 w5 := ex1.trans hw5; clear k0 k1; have c2 := hy2.below ex2; have q0 := c2.c0; have q1 := c2.c1; have f0 := c2.f 0; have f1 := c2.f 1))
        all_goals
          have o1 := only_set2 w5 (G + 1) (.bool mn) (.slice mo mk mc)
          have hb5 := Below.trans (Below.trans HB3.out (ex2.mono (by omega))) (o1.below (B := B) (by omega))
          have HALL := Lib.hid (And.intro (c2.stored mn mo mk mc) (And.intro (bn_only hm c2 o1) (And.intro ((hx2.below ex2).only o1 (by omega)) (And.intro (bn_only (hX2.below ex2) c2 o1) (And.intro ((hbx2.below ex2).only o1 (by omega)) (And.intro ((hby2.below ex2).only o1 (by omega)) hb5))))))
          clear q0 q1 f0 f1 v0 v1 hx2 hX2 hy2 hN2 hbx2 hby2 o1 hb5 c1 c2 hg hm ex1 ex2 hw4 hw5
          go_wp2
          go_roundw
        any_goals (simp [intOf]; omega)
        all_goals exact ⟨k + 1, Y, N * p, _, _, _, _, _, _, _, _, by omega, by go_num, HALL.out.2.2.1, HALL.out.2.2.2.1, HALL.out.1, HALL.out.2.1, HC2.out, Lib.hid (by rw [HNT.out, HNE.out]), HXE2, HALL.out.2.2.2.2.1, HALL.out.2.2.2.2.2.1, HALL.out.2.2.2.2.2.2⟩
    · obtain rfl : k = n := by omega
      have hXF : X = crtFin res ps := by have := HXE.out; rwa [crt_done HLR.out] at this
      have hNF : N = crtN ps := by have := HNE.out; rwa [List.take_of_length_le (by rw [HLP.out]; exact Nat.le_refl _)] at this
      obtain rfl : N = PN := hNF.trans HPN.out
      have HPX2 := Lib.hid (show crtC X N = PX by rw [hXF]; exact HPX.out)
      obtain ⟨s, hs⟩ : ∃ s, sgn3 (X * 2 ^ 1) N = s := ⟨_, rfl⟩
      have CS := Lib.hid (fun wx (h : Ext wr wx) => refShift_up xn xo xk xc X 1 wx ((hX.bg (by omega)).below h) (by omega))
      have CCM := Lib.hid (fun wx (h : Ext wr wx) rn ro rk rc (hr : Bn wx rn ro rk rc (X * 2 ^ 1)) => refCmp_any rn nn ro rk rc no nk nc (X * 2 ^ 1) N wx
        (big_bg hr ax (by decide) (by omega)) ((hN.bg (by omega)).below h) (by have h1 := abs_mul (x := X) (y := 2 ^ 1) (N := k + 1) (M := 1) ax (by decide); have := few_limbs hr h1; omega) (by omega))
      rw [hs] at CCM
      have HC := Lib.hid (show ∀ wx, Ext wr wx → (wx.cell? ⟨G, 0, none⟩ = some (.bool xn) ∧ wx.cell? ⟨G, 1, none⟩ = some (.slice xo xk xc)) ∧ (wx.cell? ⟨G + 1, 0, none⟩ = some (.bool nn) ∧ wx.cell? ⟨G + 1, 1, none⟩ = some (.slice no nk nc)) from fun wx h => ⟨⟨(hx.below h).c0, (hx.below h).c1⟩, ⟨(hy.below h).c0, (hy.below h).c1⟩⟩)
      have HCC := Lib.hid (show crtC X N = if N < X + X then X - N else X by unfold crtC; rw [Int.two_mul])
      have HGT := Lib.hid (show (N < X + X → s = 1) ∧ (¬ N < X + X → ¬ 0 < s) by
        have e2 : X * 2 ^ 1 = X + X := by rw [show (2 : Int) ^ 1 = 2 from rfl]; omega
        rw [← hs, e2]; unfold sgn3; constructor <;> intro h <;> (repeat split) <;> omega)
      have stn : St wr wr [] := ⟨Ext.refl _, fun p hp => by cases hp⟩
      have hgz := hy.lt
      have hbz := hby.lt
      have hGB := HGB.out
      clear hXF hNF hs EX EN HXE HNE hC hlt hk ax an
      have std := stn.drew
      go_upto_region 9 with fail
      first | (go_region_held3 (fun wx => (wx.cell? ⟨G, 0, none⟩ = some (.bool xn) ∧ wx.cell? ⟨G, 1, none⟩ = some (.slice xo xk xc)) ∧ (wx.cell? ⟨G + 1, 0, none⟩ = some (.bool nn) ∧ wx.cell? ⟨G + 1, 1, none⟩ = some (.slice no nk nc)))
        (first | exact HC.out _ (by exact St.ext (by with_reducible assumption)))
        (first
          | (go_at_call 38; refine (CS.out _ (by exact St.ext (by assumption))).mono ?_; rintro e wn ⟨rn, ro, rk, rc, rfl, hr1, _, hwn⟩; have stn := St.step (W := wr) (by with_reducible assumption) hwn)
          | (go_at_call 37; refine (CCM.out _ (by exact St.ext (by assumption)) _ _ _ _ (by first | exact hr1 | exact hr1.below (Below.refl _ _).drew)).mono ?_; rintro e wm ⟨rfl, hwm⟩; have stm := St.step (W := wr) (by with_reducible assumption) hwm)
          )) | fail "no walk"
      have hx := hx.below stm.ext
      have hy := hy.below stm.ext
      have hX := hX.below stm.ext
      have hN := hN.below stm.ext
      have hbx := hbx.below stm.ext
      have hby := hby.below stm.ext
      have HB4 := Lib.hid (show Below B w wm from Below.trans HBel.out (stm.ext.mono (by omega)))
      clear std stn x0 x1 v0 v1 hEw HC CS CCM hwn hwm hr1
      by_cases hgt : N < X + X
      · obtain rfl := HGT.out.1 hgt
        have hcc : X - N = PX := by rw [← HPX2.out, HCC.out, if_pos hgt]
        have HCV := Lib.hid hcc
        have CSB := Lib.hid (fun wx (hE : Ext wm wx) => refSub_any xn nn xo xk xc no nk nc X N wx ((hX.bg (by omega)).below hE) ((hN.bg (by omega)).below hE))
        have x0 := hx.c0
        have x1 := hx.c1
        have v0 := hy.c0
        have v1 := hy.c1
        clear hgt HGT hcc HCC
        have hszm := hy.lt
        clear stm
        go_wp2_with fail
        refine (CSB.out _ (by exact Ext.refl _)).mono ?_
        rintro e w6 ⟨rn, ro, rk, rc, rfl, hR, h6⟩
        have hx := hx.below h6
        have hy := hy.below h6
        have hN := hN.below h6
        have hbx := hbx.below h6
        have hby := hby.below h6
        have x0' := hx.c0
        have x1' := hx.c1
        have x2' := hx.f 0
        have x3' := hx.f 1
        have o1 := only_set2 w6 G (.bool rn) (.slice ro rk rc)
        have HX9 := Lib.hid (hx.stored rn ro rk rc)
        have HY9 := Lib.hid (hy.only o1 (by omega))
        have HXX9 := Lib.hid (bn_only hR hx o1)
        have HNN9 := Lib.hid (bn_only hN hx o1)
        have HBX9 := Lib.hid (hbx.only o1 (by omega))
        have HBY9 := Lib.hid (hby.only o1 (by omega))
        have HB9 := Lib.hid (Below.trans (Below.trans HB4.out (h6.mono (by omega))) (o1.below (show B ≤ G by omega)))
        clear x0 x1 v0 v1 hx hy hX hN hR hbx hby o1 h6 CSB
        go_upto_region 11 with fail
        clear x0' x1' x2' x3'
        generalize (w6.setCell ⟨G, 0, none⟩ (.bool rn)).setCell ⟨G, 1, none⟩ (.slice ro rk rc) = V9 at *
        have hx9 := HX9.out
        have hy9 := HY9.out
        have hX9 := HXX9.out
        have hN9 := HNN9.out
        have hB9 := HB9.out
        have hb9 := HBX9.out
        have hc9 := HBY9.out
        clear HX9 HY9 HXX9 HNN9 HB9 HBX9 HBY9
        have zz := two_put (xn := rn) (xo := ro) (xk := rk) (xc := rc) (yn := nn) (yo := no) (yk := nk) (yc := nc) hb9 hc9 (by omega)
        have y0 := zz.1.c0
        have y1 := zz.1.c1
        have y2 := zz.2.1.c0
        have y3 := zz.2.1.c1
        have HF := Lib.hid (And.intro (HCV.out ▸ zz.2.2.2 _ _ _ _ _ hX9) (And.intro (zz.2.2.2 _ _ _ _ _ hN9) (Below.trans hB9 (zz.2.2.1 B (Nat.le_refl _) (Nat.le_succ _)))))
        clear zz hX9 hN9 hB9
        have x0 := hx9.c0
        have x1 := hx9.c1
        have v0 := hy9.c0
        have v1 := hy9.c1
        have p0 := hb9.c0
        have p1 := hb9.c1
        have p2 := hb9.f 0
        have p3 := hb9.f 1
        have r0 := hc9.c0
        have r1 := hc9.c1
        have r2 := hc9.f 0
        have r3 := hc9.f 1
        clear hx9 hy9 hb9 hc9
        first | go_region | fail "no region"
        all_goals
          go_wp2
          refine bodyPost_ret (v := .tuple #[.agg #[.bool rn, .slice ro rk rc], .agg #[.bool nn, .slice no nk nc]]) (by simp [results, Tryz.results11, go_sem, y0, y1, y2, y3]) rfl ⟨_, _, _, _, _, _, _, _, rfl, HF.out.1.below (Below.refl _ _).drew, HF.out.2.1.below (Below.refl _ _).drew, by show Below _ _ _; rw [HBE.out]; exact HF.out.2.2.drew⟩
      · have hs0 := HGT.out.2 (by omega)
        have hcc : X = PX := by rw [← HPX2.out, HCC.out, if_neg hgt]
        have HCV := Lib.hid hcc
        have hx9 := hx
        have hy9 := hy
        have hX9 := hX
        have hN9 := hN
        have hB9 := HB4.out
        have hb9 := hbx
        have hc9 := hby
        clear hgt HGT hcc HCC stm hx hy hX hN hbx hby
        have zz := two_put (xn := xn) (xo := xo) (xk := xk) (xc := xc) (yn := nn) (yo := no) (yk := nk) (yc := nc) hb9 hc9 (by omega)
        have y0 := zz.1.c0
        have y1 := zz.1.c1
        have y2 := zz.2.1.c0
        have y3 := zz.2.1.c1
        have HF := Lib.hid (And.intro (HCV.out ▸ zz.2.2.2 _ _ _ _ _ hX9) (And.intro (zz.2.2.2 _ _ _ _ _ hN9) (Below.trans hB9 (zz.2.2.1 B (Nat.le_refl _) (Nat.le_succ _)))))
        clear zz hX9 hN9 hB9
        have x0 := hx9.c0
        have x1 := hx9.c1
        have v0 := hy9.c0
        have v1 := hy9.c1
        have p0 := hb9.c0
        have p1 := hb9.c1
        have p2 := hb9.f 0
        have p3 := hb9.f 1
        have r0 := hc9.c0
        have r1 := hc9.c1
        have r2 := hc9.f 0
        have r3 := hc9.f 1
        clear hx9 hy9 hb9 hc9
        go_upto_region 11 with fail
        first | go_region | fail "no region"
        all_goals
          go_wp2
          refine bodyPost_ret (v := .tuple #[.agg #[.bool xn, .slice xo xk xc], .agg #[.bool nn, .slice no nk nc]]) (by simp [results, Tryz.results11, go_sem, y0, y1, y2, y3]) rfl ⟨_, _, _, _, _, _, _, _, rfl, HF.out.1.below (Below.refl _ _).drew, HF.out.2.1.below (Below.refl _ _).drew, by show Below _ _ _; rw [HBE.out]; exact HF.out.2.2.drew⟩
end Go.Proofs.YtlpclahlolhjfaaGreatDoor

namespace Go.Proofs.YtlpclahlolhjfaaGreatDoor
open Go Go.RowKit

theorem inB_take {l : List Int} {z : Int} {j : Nat} (hj : j < l.length) : inB (l.take (j + 1)) z = (inB (l.take j) z || (l.getD j 0 == z)) := by
  rw [List.take_add_one, List.getElem?_eq_getElem hj]
  unfold inB
  rw [List.any_append]
  simp [List.getD, hj]
theorem inB_yes {l : List Int} {z : Int} {j : Nat} (hj : j < l.length) (h : l.getD j 0 = z) : inB l z = true := by
  unfold inB
  rw [List.any_eq_true]
  exact ⟨l[j], List.getElem_mem hj, by simpa [List.getD, hj] using h⟩
set_option maxRecDepth 100000 in
set_option maxHeartbeats 2000000 in
theorem in_any (ao : Option Addr) (n cap : Nat) (l : List Int) (z : Int) (w : World) (h : Ns w ao n cap l) (hn : n ≤ 1000000) :
    Calls Tryz.prog 9 #[.slice ao n cap, .int .i64 z] w fun e w' => e = .returned (.bool (inB l z)) ∧ w = w' := by
  obtain ⟨R, hR⟩ : ∃ R, inB l z = R := ⟨_, rfl⟩
  rw [hR]
  have HR := Lib.hid hR
  have HN := Lib.hid h
  have HL := Lib.hid h.len
  clear hR h
  go_enter Tryz.func9, Tryz.ntmps9
  go_wp2
  go_loopw [5] (fun iv wr => ∃ j : Nat, j ≤ n ∧ iv = .int .i64 (j : Int) ∧ Hid (inB (l.take j) z = false) ∧ w = wr)
    (fun iv _ => n - (intOf iv).toNat)
  case atStart => exact ⟨0, Nat.zero_le _, rfl, Lib.hid rfl, rfl⟩
  case round =>
    obtain ⟨j, hj, rfl, HF, rfl⟩ := hrel
    by_cases hlt : j < n
    · obtain ⟨b, o, rfl, hc⟩ := HN.out.cells (by omega)
      have hk := hc j hlt
      have hjl : j < l.length := by rw [HL.out]; exact hlt
      obtain ⟨y, hy⟩ : ∃ y, l.getD j 0 = y := ⟨_, rfl⟩
      rw [hy] at hk
      have HY := Lib.hid hy
      have HJL := Lib.hid hjl
      have hji : (j : Int) < (n : Int) := by omega
      clear hc hy hjl
      by_cases hyz : y = z
      · have hr : R = true := by rw [← HR.out]; exact inB_yes HJL.out (HY.out.trans hyz)
        subst hr
        subst hyz
        clear HF
        go_wp2
        go_ret
        exact ⟨rfl, rfl⟩
      · have HF2 := Lib.hid (show inB (l.take (j + 1)) z = false by
          rw [inB_take HJL.out, HF.out, HY.out, beq_eq_false_iff_ne.2 hyz]; rfl)
        go_wp2
        go_roundw
        case rel => exact ⟨j + 1, by omega, by go_num, HF2, trivial⟩
        case measure => simp [intOf]; omega
    · obtain rfl : j = n := by omega
      have hr : R = false := by
        rw [← HR.out, ← HF.out, List.take_of_length_le (by rw [HL.out]; exact Nat.le_refl _)]
      subst hr
      clear HF
      go_wp2
      go_ret
      exact ⟨rfl, rfl⟩
end Go.Proofs.YtlpclahlolhjfaaGreatDoor
