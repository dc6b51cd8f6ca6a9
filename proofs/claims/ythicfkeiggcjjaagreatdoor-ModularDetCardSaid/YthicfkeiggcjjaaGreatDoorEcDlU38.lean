import Derived.Test.YthicfkeiggcjjaaGreatDoorEcDlU21
import Derived.Test.YthicfkeiggcjjaaGreatDoorEcDlU37
namespace Go.Proofs.YthicfkeiggcjjaaGreatDoor
open Go Go.RowKit

/-- a small number has few limbs -/
theorem few_limbs {w : World} {nb : Bool} {ao : Option Addr} {n ca k : Nat} {x : Int} (h : Bn w nb ao n ca x) (hx : x.natAbs < 4294967296 ^ k) : n ≤ k := by
  have := (limbs_len_le x.natAbs k).2 hx
  rw [h.sl.len] at this
  exact this
theorem bn_ent {w : World} {nb : Bool} {ao : Option Addr} {n ca k : Nat} {x : Int} (h : Bn w nb ao n ca x) (hx : x.natAbs < 4294967296 ^ k) (hk : k ≤ 1000) : Ent.Ok w ⟨.agg #[.bool nb, .slice ao n ca], x, k, true⟩ := ok_bn h hx (by omega)
theorem zero_bn' (w : World) : Bn w false none 0 0 0 := ⟨rfl, by show Sl _ none 0 0 (limbs 0); rw [limbs_zero]; exact Sl.nil _⟩
theorem two_put {w : World} {g h : Nat} {gn hn xn yn : Bool} {go ho xo yo : Option Addr} {gk gc hk hc xk xc yk yc : Nat} (hg : Box w g gn go gk gc) (hh : Box w h hn ho hk hc) (hne : g ≠ h) :
    Box ((((w.setCell ⟨g, 0, none⟩ (.bool xn)).setCell ⟨g, 1, none⟩ (.slice xo xk xc)).setCell ⟨h, 0, none⟩ (.bool yn)).setCell ⟨h, 1, none⟩ (.slice yo yk yc)) g xn xo xk xc ∧
    Box ((((w.setCell ⟨g, 0, none⟩ (.bool xn)).setCell ⟨g, 1, none⟩ (.slice xo xk xc)).setCell ⟨h, 0, none⟩ (.bool yn)).setCell ⟨h, 1, none⟩ (.slice yo yk yc)) h yn yo yk yc ∧
    (∀ B, B ≤ g → B ≤ h → Below B w ((((w.setCell ⟨g, 0, none⟩ (.bool xn)).setCell ⟨g, 1, none⟩ (.slice xo xk xc)).setCell ⟨h, 0, none⟩ (.bool yn)).setCell ⟨h, 1, none⟩ (.slice yo yk yc))) ∧
    (∀ (mb : Bool) (ro : Option Addr) (k cr : Nat) (x : Int), Bn w mb ro k cr x → Bn ((((w.setCell ⟨g, 0, none⟩ (.bool xn)).setCell ⟨g, 1, none⟩ (.slice xo xk xc)).setCell ⟨h, 0, none⟩ (.bool yn)).setCell ⟨h, 1, none⟩ (.slice yo yk yc)) mb ro k cr x) := by
  have o1 := only_set2 w g (.bool xn) (.slice xo xk xc)
  have a := hg.stored xn xo xk xc
  have b := hh.only o1 (Ne.symm hne)
  have o2 := only_set2 ((w.setCell ⟨g, 0, none⟩ (.bool xn)).setCell ⟨g, 1, none⟩ (.slice xo xk xc)) h (.bool yn) (.slice yo yk yc)
  exact ⟨a.only o2 hne, b.stored yn yo yk yc, fun B h1 h2 => Below.trans (o1.below h1) (o2.below h2), fun mb ro k cr x hb => ⟨hb.neg, (hb.sl.only_box hg o1).only_box b o2⟩⟩
theorem bn_only {w w' : World} {g : Nat} {nb mb : Bool} {ao ro : Option Addr} {n cap k cr : Nat} {x : Int} (h : Bn w mb ro k cr x) (hx : Box w g nb ao n cap) (ho : Only g w w') : Bn w' mb ro k cr x := ⟨h.neg, h.sl.only_box hx ho⟩

set_option maxRecDepth 100000 in
set_option maxHeartbeats 8000000 in
theorem combine_yes (ao bo : Option Addr) (n c d : Nat) (res ps : List Int) (w : World) (hres : Ns w ao n c res) (h : Ns w bo n d ps) (hn : n ≤ 6) (hr : ∀ p ∈ ps, -9223372036854775808 ≤ p ∧ p ≤ 9223372036854775807) (hT : Table64 w) (he : modE ps = 0) :
    Calls Tryz.prog 29 #[.slice ao n c, .slice bo n d] w fun e w' => ∃ an aa ak ac bn ba bk bc, e = .returned (.tuple #[.agg #[.bool an, .slice aa ak ac], .agg #[.bool bn, .slice ba bk bc], .int .i64 0]) ∧
      Bn w' an aa ak ac (crtC (crtFin res ps) (crtN ps)) ∧ Bn w' bn ba bk bc (crtN ps) ∧ Ext w w' := by
  have hps : ∀ p ∈ ps, 1 < p ∧ p ≤ 2147483647 := by
    intro p hp
    unfold modE at he
    by_cases ha : ps.all mr = true
    · have := mr_bounds (List.all_eq_true.1 ha p hp); omega
    · rw [if_neg ha] at he; cases he
  obtain ⟨PN, hPN⟩ : ∃ PN, crtN ps = PN := ⟨_, rfl⟩
  rw [hPN]
  obtain ⟨PX, hPX⟩ : ∃ PX, crtC (crtFin res ps) PN = PX := ⟨_, rfl⟩
  rw [hPX]
  have HPN := Lib.hid hPN
  have HPX := Lib.hid hPX
  clear hPN hPX
  go_enter Tryz.func29, Tryz.ntmps29
  go_upto_region 1 with fail
  obtain ⟨W, hW, hB, hx, hy⟩ := box_pair w false none 0 0 false none 0 0
  rw [← hW]
  clear hW
  have CM := Lib.hid (checkModuli_any bo n d ps W (h.below hB) (by omega) hr (hT.below hB))
  rw [he] at CM
  have HRES := Lib.hid hres
  have HPS := Lib.hid h
  have HLR := Lib.hid (show res.length = n from hres.len)
  have HLP := Lib.hid (show ps.length = n from h.len)
  have HPB := Lib.hid hps
  obtain ⟨B, hBe⟩ : ∃ B, w.heap.size = B := ⟨_, rfl⟩
  have HBE := Lib.hid hBe
  have HB := Lib.hid (show Below B w W by rw [← hBe]; exact hB)
  rw [hBe] at hx hy
  rw [hBe]
  clear h hr hT hB hBe hres hps he
  go_wp2_with fail
  refine CM.out.mono ?_
  rintro e w1 ⟨rfl, h1⟩
  have hx := hx.below h1
  have hy := hy.below h1
  have HE1 := Lib.hid h1
  clear CM h1
  have x0 := hy.c0
  have x1 := hy.c1
  have x2 := hy.f 0
  have x3 := hy.f 1
  go_wp2_with fail
  refine (fromInt_any 1 _ (by omega) (by omega)).mono ?_
  rintro e w2 ⟨nn, no, nk, nc, rfl, hN, h2⟩
  have hx := hx.below h2
  have hy := hy.below h2
  have HE2 := Lib.hid (show Ext W w2 from HE1.out.trans h2)
  clear x0 x1 x2 x3 h2
  have x0 := hy.c0
  have x1 := hy.c1
  have x2 := hy.f 0
  have x3 := hy.f 1
  have ho := only_set2 w2 (B + 1) (.bool nn) (.slice no nk nc)
  have HX := Lib.hid (hx.only ho (by omega))
  have HY := Lib.hid (hy.stored nn no nk nc)
  have HN := Lib.hid (bn_only hN hy ho)
  have HBL := Lib.hid (show Below B w _ from Below.trans (Below.trans HB.out (HE2.out.mono (by have := HBE.out; have := Below.size HB.out; omega))) (ho.below (show B ≤ B + 1 by omega)))
  clear hx hy hN ho
  go_upto_region 7 with fail
  clear x0 x1 x2 x3
  generalize (w2.setCell ⟨B + 1, 0, none⟩ (.bool nn)).setCell ⟨B + 1, 1, none⟩ (.slice no nk nc) = V at *
  go_wp2
  go_loopw [27] (fun iv wr => ∃ (k : Nat) (X N : Int) (xn nn : Bool) (xo no : Option Addr) (xk xc nk nc : Nat), k ≤ n ∧ iv = .int .i64 (k : Int) ∧ Box wr B xn xo xk xc ∧ Bn wr xn xo xk xc X ∧ Box wr (B + 1) nn no nk nc ∧ Bn wr nn no nk nc N ∧ CrtAt k X N ∧ Hid (N = crtN (ps.take k)) ∧ Hid (crtX ((crtPairs res ps).drop k) X N = crtFin res ps) ∧ Below B w wr)
    (fun iv _ => n - (intOf iv).toNat)
  case atStart => exact ⟨0, 0, 1, _, _, _, _, _, _, _, _, Nat.zero_le _, rfl, HX.out, zero_bn' _, HY.out, HN.out, CrtAt.start, Lib.hid rfl, Lib.hid rfl, HBL.out⟩
  case round =>
    clear HX HY HN HBL HE1 HE2
    obtain ⟨k, X, N, xn, nn, xo, no, xk, xc, nk, nc, hk, rfl, hx, hX, hy, hN, hC, HNE, HXE, hB⟩ := hrel
    obtain ⟨ax, an⟩ := hC.abs
    have lx := few_limbs hX ax
    have ln := few_limbs hN an
    have EX := bn_ent hX ax (by omega)
    have EN := bn_ent hN an (by omega)
    have HBel := Lib.hid hB
    have hEw : Ext w wr := by unfold Ext; rw [HBE.out]; exact hB
    have hsz : B + 1 < wr.heap.size := hy.lt
    clear hB
    have x0 := hx.c0
    have x1 := hx.c1
    have v0 := hy.c0
    have v1 := hy.c1
    by_cases hlt : k < n
    · obtain ⟨b1, f1, rfl, hc1⟩ := (HRES.out.below hEw).cells (by omega)
      obtain ⟨b2, f2, rfl, hc2⟩ := (HPS.out.below hEw).cells (by omega)
      have hk1 := hc1 k hlt
      have hk2 := hc2 k hlt
      have hkp : k < ps.length := by rw [HLP.out]; exact hlt
      have HST := Lib.hid (crt_drop (X := X) (N := N) HLR.out HLP.out hlt)
      have HNT := Lib.hid (crtN_take hkp)
      obtain ⟨r, hr⟩ : ∃ r, res.getD k 0 = r := ⟨_, rfl⟩
      obtain ⟨p, hp⟩ : ∃ p, ps.getD k 0 = p := ⟨_, rfl⟩
      have hpb := HPB.out p (by rw [← hp]; simp [List.getD, hkp])
      rw [hr] at hk1 HST
      rw [hp] at hk2 HST HNT
      have HC2 := Lib.hid (hC.step (r := r) (p := p) (by omega) hpb.2)
      obtain ⟨Y, hY⟩ : ∃ Y, crtStep X N r p = Y := ⟨_, rfl⟩
      have CE := Lib.hid (fun wx (hE : Ext wr wx) => extend_any xn nn xo no xk nk xc nc X N r p wx ((hX.bg (by omega)).below hE) ((hN.bg (by omega)).below hE) (by omega) (by omega) hpb.1 hpb.2)
      rw [hY] at CE HST HC2
      have HPB1 := Lib.hid hpb
      have hki : (k : Int) < (n : Int) := by omega
      have HNb := Lib.hid (show N.natAbs < 4294967296 ^ (k + 1) ∧ nk ≤ k + 1 from ⟨an, ln⟩)
      have HXE2 := Lib.hid (HST.out.symm.trans HXE.out)
      clear hc1 hc2 hkp hr hp hC ax an EX EN hY HXE HST
      go_upto_region 10 with fail
      go_cut [] from 32 to 44 (fun wx => ∃ rn ro rk rc, Box wx B rn ro rk rc ∧ Bn wx rn ro rk rc Y ∧ Box wx (B + 1) nn no nk nc ∧ Bn wx nn no nk nc N ∧ Below B w wx)
      case first =>
        go_region_with (go_at_call 46; refine (CE.out _ (by first | exact (Below.refl _ _).drew | exact Ext.refl _)).mono ?_; rintro e w3 ⟨rn, ro, rk, rc, rfl, hr3, hw3⟩; have ex1 : Ext wr w3 := Ext.trans (by first | exact (Below.refl _ _).drew | exact Ext.refl _) hw3; have c2 := hx.below ex1; have q0 := c2.c0; have q1 := c2.c1; have f0 := c2.f 0; have f1 := c2.f 1)
        all_goals
          go_wp2
          go_meet
        all_goals
          have o1 := only_set2 w3 B (.bool rn) (.slice ro rk rc)
          have hb3 := Below.trans (Below.trans HBel.out (ex1.mono (by omega))) (o1.below (B := B) (Nat.le_refl _))
          exact ⟨rn, ro, rk, rc, c2.stored rn ro rk rc, bn_only hr3 c2 o1, (hy.below ex1).only o1 (by omega), bn_only (hN.below ex1) c2 o1, hb3⟩
      case rest =>
        obtain ⟨rn, ro, rk, rc, hx2, hX2, hy2, hN2, hB2⟩ := hcut
        obtain ⟨V2, hV2⟩ : ∃ V2, V2 = wc := ⟨wc, rfl⟩
        subst hV2
        have HB2 := Lib.hid hB2
        have hsz2 : B + 1 < V2.heap.size := hy2.lt
        clear x0 x1 v0 v1 hk1 hx hX hy hN CE hB2 hEw hsz
        have v0 := hy2.c0
        have v1 := hy2.c1
        have hnk := HNb.out.2
        go_upto_region 11 with fail
        go_region_with (first
          | (go_at_call 45; refine (fromInt_any p _ (by have := HPB1.out; omega) (by have := HPB1.out; omega)).mono ?_; rintro e w4 ⟨gn, go, gk, gc, rfl, hg, hw4⟩; have ex1 : Ext V2 w4 := Ext.trans (by first | exact (Below.refl _ _).drew | exact Ext.refl _) hw4; have c1 := hy2.below ex1; have k0 := c1.c0; have k1 := c1.c1)
          | (go_at_call 47; refine (mul_any _ _ _ _ _ _ _ _ N p _ (by exact (hN2.bg (by omega)).below ex1) (by exact bn_small hg (by have := HPB1.out; omega)) (by omega)).mono ?_; rintro e w5 ⟨mn, mo, mk, mc, rfl, hm, hw5⟩; have ex2 : Ext V2 w5 := ex1.trans hw5; clear k0 k1; have c2 := hy2.below ex2; have q0 := c2.c0; have q1 := c2.c1; have f0 := c2.f 0; have f1 := c2.f 1))
        all_goals
          have o1 := only_set2 w5 (B + 1) (.bool mn) (.slice mo mk mc)
          have hb5 := Below.trans (Below.trans HB2.out (ex2.mono (by omega))) (o1.below (B := B) (by omega))
          have HALL := Lib.hid (And.intro (c2.stored mn mo mk mc) (And.intro (bn_only hm c2 o1) (And.intro ((hx2.below ex2).only o1 (by omega)) (And.intro (bn_only (hX2.below ex2) c2 o1) hb5))))
          clear q0 q1 f0 f1 v0 v1 hx2 hX2 hy2 hN2 hk2 o1 hb5 c1 c2 hg hm ex1 ex2 hw4 hw5
          go_wp2
          go_roundw
        any_goals (simp [intOf]; omega)
        all_goals exact ⟨k + 1, Y, N * p, _, _, _, _, _, _, _, _, by omega, by go_num, HALL.out.2.2.1, HALL.out.2.2.2.1, HALL.out.1, HALL.out.2.1, HC2.out, Lib.hid (by rw [HNT.out, HNE.out]), HXE2, HALL.out.2.2.2.2⟩
    · obtain rfl : k = n := by omega
      have hXF : X = crtFin res ps := by have := HXE.out; rwa [crt_done HLR.out] at this
      have hNF : N = crtN ps := by have := HNE.out; rwa [List.take_of_length_le (by rw [HLP.out]; exact Nat.le_refl _)] at this
      obtain rfl : N = PN := hNF.trans HPN.out
      have HPX2 := Lib.hid (show crtC X N = PX by rw [hXF]; exact HPX.out)
      obtain ⟨s, hs⟩ : ∃ s, sgn3 (X + X) N = s := ⟨_, rfl⟩
      have HS := Lib.hid hs
      have stn : St wr wr [⟨.agg #[.bool xn, .slice xo xk xc], X, k + 1, true⟩, ⟨.agg #[.bool nn, .slice no nk nc], N, k + 1, true⟩] := ⟨Ext.refl _, fun p hp => by
        simp only [List.mem_cons, List.not_mem_nil, or_false] at hp
        rcases hp with rfl | rfl
        · exact EX
        · exact EN⟩
      have HC := Lib.hid (show ∀ wx, Ext wr wx → (wx.cell? ⟨B, 0, none⟩ = some (.bool xn) ∧ wx.cell? ⟨B, 1, none⟩ = some (.slice xo xk xc)) ∧ (wx.cell? ⟨B + 1, 0, none⟩ = some (.bool nn) ∧ wx.cell? ⟨B + 1, 1, none⟩ = some (.slice no nk nc)) from fun wx h => ⟨⟨(hx.below h).c0, (hx.below h).c1⟩, ⟨(hy.below h).c0, (hy.below h).c1⟩⟩)
      have HCC := Lib.hid (show crtC X N = if N < X + X then X - N else X by unfold crtC; rw [Int.two_mul])
      have HGT := Lib.hid (show (N < X + X → s = 1) ∧ (¬ N < X + X → ¬ 0 < s) by rw [← hs]; unfold sgn3; constructor <;> intro h <;> (repeat split) <;> omega)
      clear hXF hNF hs EX EN HXE HNE hC hlt hk ax an
      have std := stn.drew
      go_upto_region 13 with fail
      first | (go_region_held3 (fun wx => (wx.cell? ⟨B, 0, none⟩ = some (.bool xn) ∧ wx.cell? ⟨B, 1, none⟩ = some (.slice xo xk xc)) ∧ (wx.cell? ⟨B + 1, 0, none⟩ = some (.bool nn) ∧ wx.cell? ⟨B + 1, 1, none⟩ = some (.slice no nk nc)))
        (first | exact HC.out _ (by exact St.ext (by with_reducible assumption)))
        (first
          | (go_at_call 49; refine (add_bag (W := wr) (by with_reducible assumption) (by repeat (first | exact List.Mem.head _ | refine List.Mem.tail _ ?_)) (by repeat (first | exact List.Mem.head _ | refine List.Mem.tail _ ?_)) (by omega) (by omega)).mono ?_; rintro e wn ⟨r1, rfl, stn⟩)
          | (go_at_call 48; refine (cmp_bag (W := wr) (by with_reducible assumption) (by repeat (first | exact List.Mem.head _ | refine List.Mem.tail _ ?_)) (by repeat (first | exact List.Mem.head _ | refine List.Mem.tail _ ?_)) s (by exact HS.out)).mono ?_; rintro e wm ⟨rfl, stm⟩)
          )) | fail "no walk"
      have hx := hx.below stm.ext
      have hy := hy.below stm.ext
      have hX := hX.below stm.ext
      have hN := hN.below stm.ext
      have HB4 := Lib.hid (show Below B w wm from Below.trans HBel.out (stm.ext.mono (by omega)))
      clear std stn x0 x1 v0 v1 hEw HC
      by_cases hgt : N < X + X
      · obtain rfl := HGT.out.1 hgt
        have hcc : X - N = PX := by rw [← HPX2.out, HCC.out, if_pos hgt]
        have HCV := Lib.hid hcc
        have CS := Lib.hid (fun wx (hE : Ext wm wx) => sub_any xn nn xo xk xc no nk nc X N wx ((hX.bg (by omega)).below hE) ((hN.bg (by omega)).below hE))
        have x0 := hx.c0
        have x1 := hx.c1
        have v0 := hy.c0
        have v1 := hy.c1
        clear hgt HGT hcc HCC HS stm
        go_wp2_with fail
        refine (CS.out _ (by exact Ext.refl _)).mono ?_
        rintro e w6 ⟨rn, ro, rk, rc, rfl, hR, h6⟩
        have hszm : B + 1 < wm.heap.size := hy.lt
        have hx := hx.below h6
        have hy := hy.below h6
        have hN := hN.below h6
        have x0' := hx.c0
        have x1' := hx.c1
        have x2' := hx.f 0
        have x3' := hx.f 1
        have o1 := only_set2 w6 B (.bool rn) (.slice ro rk rc)
        have HX9 := Lib.hid (hx.stored rn ro rk rc)
        have HY9 := Lib.hid (hy.only o1 (by omega))
        have HXX9 := Lib.hid (bn_only hR hx o1)
        have HNN9 := Lib.hid (bn_only hN hx o1)
        have HB9 := Lib.hid (Below.trans (Below.trans HB4.out (h6.mono (by omega))) (o1.below (B := B) (Nat.le_refl _)))
        clear x0 x1 v0 v1 hx hy hX hN hR o1 h6 CS
        go_upto_region 15 with fail
        clear x0' x1' x2' x3'
        generalize (w6.setCell ⟨B, 0, none⟩ (.bool rn)).setCell ⟨B, 1, none⟩ (.slice ro rk rc) = V9 at *
        have hx9 := HX9.out
        have hy9 := HY9.out
        have hX9 := HXX9.out
        have hN9 := HNN9.out
        have hB9 := HB9.out
        clear HX9 HY9 HXX9 HNN9 HB9
        have zz := two_put (xn := rn) (xo := ro) (xk := rk) (xc := rc) (yn := nn) (yo := no) (yk := nk) (yc := nc) hx9 hy9 (by omega)
        have y0 := zz.1.c0
        have y1 := zz.1.c1
        have y2 := zz.2.1.c0
        have y3 := zz.2.1.c1
        have HF := Lib.hid (And.intro (HCV.out ▸ zz.2.2.2 _ _ _ _ _ hX9) (And.intro (zz.2.2.2 _ _ _ _ _ hN9) (Below.trans hB9 (zz.2.2.1 B (Nat.le_refl _) (Nat.le_succ _)))))
        clear zz hX9 hN9 hB9
        have x0 := hx9.c0
        have x1 := hx9.c1
        have x2 := hx9.f 0
        have x3 := hx9.f 1
        have v0 := hy9.c0
        have v1 := hy9.c1
        have v2 := hy9.f 0
        have v3 := hy9.f 1
        clear hx9 hy9
        first | go_region | fail "no region"
        all_goals
          go_wp2
          refine bodyPost_ret (v := .tuple #[.agg #[.bool rn, .slice ro rk rc], .agg #[.bool nn, .slice no nk nc], .int .i64 0]) (by simp [results, Tryz.results29, go_sem, y0, y1, y2, y3]) rfl ⟨_, _, _, _, _, _, _, _, rfl, HF.out.1.below (Below.refl _ _).drew, HF.out.2.1.below (Below.refl _ _).drew, by show Below _ _ _; rw [HBE.out]; exact HF.out.2.2.drew⟩
      · have hs0 := HGT.out.2 (by omega)
        have hcc : X = PX := by rw [← HPX2.out, HCC.out, if_neg hgt]
        have HCV := Lib.hid hcc
        have hx9 := hx
        have hy9 := hy
        have hX9 := hX
        have hN9 := hN
        have hB9 := HB4.out
        clear hgt HGT hcc HCC HS stm hx hy hX hN
        have zz := two_put (xn := xn) (xo := xo) (xk := xk) (xc := xc) (yn := nn) (yo := no) (yk := nk) (yc := nc) hx9 hy9 (by omega)
        have y0 := zz.1.c0
        have y1 := zz.1.c1
        have y2 := zz.2.1.c0
        have y3 := zz.2.1.c1
        have HF := Lib.hid (And.intro (HCV.out ▸ zz.2.2.2 _ _ _ _ _ hX9) (And.intro (zz.2.2.2 _ _ _ _ _ hN9) (Below.trans hB9 (zz.2.2.1 B (Nat.le_refl _) (Nat.le_succ _)))))
        clear zz hX9 hN9 hB9
        have x0 := hx9.c0
        have x1 := hx9.c1
        have x2 := hx9.f 0
        have x3 := hx9.f 1
        have v0 := hy9.c0
        have v1 := hy9.c1
        have v2 := hy9.f 0
        have v3 := hy9.f 1
        clear hx9 hy9
        go_upto_region 15 with fail
        first | go_region | fail "no region"
        all_goals
          go_wp2
          refine bodyPost_ret (v := .tuple #[.agg #[.bool xn, .slice xo xk xc], .agg #[.bool nn, .slice no nk nc], .int .i64 0]) (by simp [results, Tryz.results29, go_sem, y0, y1, y2, y3]) rfl ⟨_, _, _, _, _, _, _, _, rfl, HF.out.1.below (Below.refl _ _).drew, HF.out.2.1.below (Below.refl _ _).drew, by show Below _ _ _; rw [HBE.out]; exact HF.out.2.2.drew⟩
end Go.Proofs.YthicfkeiggcjjaaGreatDoor
