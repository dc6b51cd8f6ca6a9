/- DyadLimits returns true, from what its callees do. -/
import Derived.Test.YtpmbmemfoljfpaaDoorGn
namespace Go.Proofs.YtpmbmemfoljfpaaDoor
open Go.RowKit

set_option maxRecDepth 100000 in
set_option maxHeartbeats 1000000 in
theorem one1_any (w : World) :
    Calls Tryd.prog 80 #[] w fun e w' => ∃ v, e = .returned v ∧ Dn w' v (some (1, 0)) ∧ Ext w w' := by
  go_enter Tryd.func80, Tryd.ntmps80
  go_upto_region 1 with fail
  obtain ⟨W, hW, hB, hrx, hz⟩ := dbox_new w false false none 0 0 0
  rw [← hW]
  clear hW
  generalize hBe : w.heap.size = B at *
  have HBe := Lib.hid hBe; clear hBe
  obtain ⟨V, hV, hE, hb⟩ := limb_made W 1 (by omega) (by omega)
  have c1 := hrx.ext hE
  have hd : Dn V (.agg #[.bool false, .bool false, .slice (some ⟨W.heap.size, 0, none⟩) 1 1, .int .i64 0]) (some (1, 0)) := dn_lit hb (Or.inr ⟨by decide, by decide, by decide⟩)
  obtain ⟨hB1, _⟩ := bnext hB (by omega) hE
  have hres := dn_stored c1 hd w hB1 (Nat.le_refl B)
  have z3 := c1.stored false false (some ⟨W.heap.size, 0, none⟩) 1 1 0
  rw [show (Value.int IntKind.u32 ((1 : Nat) : Int)) = .int .u32 1 from rfl] at hV
  have q0 := c1.c0
  have q1 := c1.c1
  have q2 := c1.c2
  have q3 := c1.c3
  have f0 := c1.f 0
  have f1 := c1.f 1
  have f2 := c1.f 2
  have f3 := c1.f 3
  rw [hV] at hres z3 q0 q1 q2 q3 f0 f1 f2 f3
  have z0 := z3.c0
  have z1 := z3.c1
  have z2 := z3.c2
  have z4 := z3.c3
  have HRES := Lib.hid hres; clear hres z3 hV hd c1 hrx hE hb
  go_wp2
  refine bodyPost_ret (v := .agg #[.bool false, .bool false, .slice (some ⟨W.heap.size, 0, none⟩) 1 1, .int .i64 0]) (by simp [results, Tryd.results80, go_sem, z0, z1, z2, z4]) rfl ⟨_, rfl, ?_, ?_⟩
  · exact HRES.out.1
  · show Below _ _ _; rw [HBe.out]; exact HRES.out.2

/-- two limbs of zeros -/
theorem zeros_made (w : World) :
    ∃ W, W = w.alloc (.cells #[.int .u32 0, .int .u32 0] 72) ∧ Ext w W ∧ Bg W true (some ⟨w.heap.size, 0, none⟩) 2 2 0 := by
  refine ⟨_, rfl, (Below.refl _ w).alloc (Nat.le_refl _) _, ?_⟩
  have hb : Blk (w.alloc (.cells #[.int .u32 0, .int .u32 0] 72)) w.heap.size [0, 0] := heap_alloc_new w _
  exact ⟨⟨_, hb.sl (Wf.cons ⟨by omega, by omega⟩ (Wf.cons ⟨by omega, by omega⟩ Wf.nil)) rfl (by omega) (Nat.le_refl _), by simp [sgd, num]⟩, by omega⟩

theorem dmk_one (f : Int) : dmk 1 f = if f < -65536 ∨ 65535 < f then none else some (1, f) := by
  unfold dmk
  rw [if_neg (by decide), show (1 : Int).natAbs = 1 from rfl, tzf_odd (by decide), show blen 1 = 1 by decide]
  simp only [Int.natCast_zero, Int.sub_zero, Int.add_zero, Int.pow_zero, Int.ediv_one]
  by_cases h : f < -65536 ∨ 65535 < f
  · rw [if_pos h, if_pos (by omega)]
  · rw [if_neg h, if_neg (by omega)]

theorem log_one {i : Int} {e : Ending} (h : LogOut (some (1, i)) e) : e = .returned (.tuple #[.int .i64 i, .bool true]) := by
  rcases h with ⟨h1, _⟩ | ⟨_, h1⟩
  · exact absurd h1 (show ¬ ((1 : Int) = 0) by decide)
  · rw [h1]
    have : dtop (some (1, i)) - 1 = i := by
      show i + ((blen (1 : Int).natAbs : Nat) : Int) - 1 = i
      rw [show blen (1 : Int).natAbs = 1 by decide]; omega
    rw [this]

set_option maxRecDepth 100000 in
set_option maxHeartbeats 8000000 in
theorem limits_any (i j : Int) (w : World) (hi0 : -9223372036854775808 ≤ i) (hi1 : i ≤ 9223372036854775807) (hj0 : -9223372036854775808 ≤ j) (hj1 : j ≤ 9223372036854775807) (hT : Table w) :
    Calls Tryd.prog 17 #[.int .i64 i, .int .i64 j] w fun e w' => e = .returned (.bool true) ∧ Ext w w' := by
  have HT := Lib.hid hT; clear hT
  go_enter Tryd.func17, Tryd.ntmps17
  go_upto_region 2 with fail
  obtain ⟨W, hW, hE, hb⟩ := limb_made w 1 (by omega) (by omega)
  rw [show (Value.int IntKind.u32 ((1 : Nat) : Int)) = .int .u32 1 from rfl] at hW
  have hsz : W.heap.size = w.heap.size + 1 := by rw [hW]; simp
  rw [← hW]
  clear hW
  generalize (some ⟨w.heap.size, 0, none⟩ : Option Addr) = io at *
  obtain ⟨W1, hW, hB, e1, hz⟩ := box_new W false io 1 1
  rw [← hW]
  clear hW
  have gone := bn_bg_of (hb.below hB) (by decide)
  have ex1 : Ext w W1 := hE.trans hB
  rw [← hsz]
  clear hsz
  generalize W.heap.size = D1 at *
  clear hb hE hB
  rw [show ((1 : Nat) : Int) = 1 from rfl] at gone
  have k0 := e1.c0
  have k1 := e1.c1
  go_wp2_with fail
  refine (dmake_any _ _ _ _ _ _ _ gone hi0 hi1 (HT.out.below ex1)).mono ?_
  rintro e w2 ⟨r, rfl, hd, hw2⟩
  obtain ⟨xb, xn, xo, xk, xc, xe, rfl⟩ := hd.parts
  have ex2 : Ext w w2 := ex1.trans hw2
  have e1 := e1.ext' hw2
  have gone := gone.ext hw2
  clear k0 k1 hw2 ex1
  go_upto_region 3 with fail
  obtain ⟨V, hV, hv, e2, hz2⟩ := dbox_new w2 xb xn xo xk xc xe
  rw [← hV]
  clear hV
  have hd := hd.ext hv
  have ex3 : Ext w V := ex2.trans hv
  have e1 := e1.ext' hv
  have gone := gone.ext hv
  generalize w2.heap.size = D2 at *
  clear hv ex2
  go_wp2_with fail
  obtain ⟨W4, hW, hE4, hz4⟩ := zeros_made V
  rw [← hW]
  clear hW
  refine (dmake_any _ _ _ _ _ _ _ hz4 hi0 hi1 (HT.out.below (ex3.trans hE4))).mono ?_
  rintro e w5 ⟨r, rfl, hdz, hw5⟩
  rw [dmk_zero] at hdz
  obtain ⟨zb, zn, zo, zk, zc, ze, rfl⟩ := hdz.parts
  have hE5 : Ext V w5 := hE4.trans hw5
  have ex5 : Ext w w5 := ex3.trans hE5
  have e1 := e1.ext' hE5
  have e2 := e2.ext hE5
  have gone := gone.ext hE5
  have hd := hd.ext hE5
  clear hw5 hE4 hE5 hz4 ex3
  go_upto_region 4 with fail
  obtain ⟨V5, hV, hv, e3, hz5⟩ := dbox_new w5 zb zn zo zk zc ze
  rw [← hV]
  clear hV
  have hd := hd.ext hv
  have hdz := hdz.ext hv
  have ex6 : Ext w V5 := ex5.trans hv
  have e1 := e1.ext' hv
  have e2 := e2.ext hv
  have gone := gone.ext hv
  generalize w5.heap.size = D3 at *
  clear hv ex5
  have graw : ∀ wx, Ext V5 wx → Dg wx (.agg #[.bool true, .bool false, .slice io 1 1, .int .i64 j]) none := fun wx h => ⟨true, false, io, 1, 1, 1, j, rfl, gone.ext h, hj0, hj1, rfl⟩
  have GR := Lib.hid graw; clear graw
  go_cut [8] from 20 (fun p wx => ∃ g rb rn ro rk rc re, p = .pointer (some ⟨g, 0, none⟩) ∧ DBox wx g rb rn ro rk rc re ∧ Dn wx (.agg #[.bool rb, .bool rn, .slice ro rk rc, .int .i64 re]) none ∧ Ext V5 wx)
  case first =>
    have k0 := e1.c0
    have k1 := e1.c1
    have aE := e1.ext' (show Ext V5 (V5.alloc (.cells #[.bool false, .bool false, .slice none 0 0, .int .i64 0] 53)) from (Below.refl _ _).alloc (Nat.le_refl _) _)
    have a0 := aE.c0
    have a1 := aE.c1
    go_region_with (first
      | (go_at_call 80; refine (one1_any _).mono ?_; rintro e w6 ⟨r6, rfl, h6, hw6⟩; have exA : Ext V5 w6 := Ext.trans (by first | exact Ext.refl _ | exact (Below.refl _ _).drew | exact (Below.refl _ _).alloc (Nat.le_refl _) _ | exact ((Below.refl _ _).alloc (Nat.le_refl _) _).drew | exact ((Below.refl _ _).drew).alloc (Nat.le_refl _) _) hw6; have eA := e1.ext' exA; have k0 := eA.c0; have k1 := eA.c1; have aE := eA.ext' (show Ext w6 (w6.alloc (.cells #[.bool false, .bool false, .slice none 0 0, .int .i64 0] 53)) from (Below.refl _ _).alloc (Nat.le_refl _) _); have a0 := aE.c0; have a1 := aE.c1; first | (have bz : DBox w6 V5.heap.size false false none 0 0 0 := DBox.ext (DBox.new V5 false false none 0 0 0) hw6) | (have bz : DBox w6 V5.heap.size false false none 0 0 0 := DBox.ext (DBox.new V5.drew false false none 0 0 0) hw6) | skip)
      | (go_at_call 57; refine (dadd_any _ _ none (some (1, 0)) _ (by first | exact GR.out _ exA | exact GR.out _ (exA.trans ((Below.refl _ _).alloc (Nat.le_refl _) _))) (by first | exact h6.dg | exact (h6.ext ((Below.refl _ _).alloc (Nat.le_refl _) _)).dg) (by first | exact HT.out.below (ex6.trans exA) | exact HT.out.below (ex6.trans (exA.trans ((Below.refl _ _).alloc (Nat.le_refl _) _))))).mono ?_; rintro e w7 ⟨r7, rfl, h7, hw7⟩; obtain ⟨rb, rn, ro, rk, rc, re, rfl⟩ := h7.parts; have h7 : Dn w7 (.agg #[.bool rb, .bool rn, .slice ro rk rc, .int .i64 re]) none := h7; first | (have exB : Ext V5 w7 := exA.trans hw7; first | (have bz := DBox.ext bz hw7; have y0 := bz.c0; have y1 := bz.c1; have y2 := bz.c2; have y3 := bz.c3; have g0 := bz.f 0; have g1 := bz.f 1; have g2 := bz.f 2; have g3 := bz.f 3) | skip) | (have exB : Ext V5 w7 := (exA.trans ((Below.refl _ _).alloc (Nat.le_refl _) _)).trans hw7; have bz : DBox w7 w6.heap.size false false none 0 0 0 := DBox.ext (DBox.new _ _ _ _ _ _ _) hw7; have y0 := bz.c0; have y1 := bz.c1; have y2 := bz.c2; have y3 := bz.c3; have g0 := bz.f 0; have g1 := bz.f 1; have g2 := bz.f 2; have g3 := bz.f 3)))
    all_goals
      go_wp2
      go_meet
    all_goals
      first
        | exact ⟨_, rb, rn, ro, rk, rc, re, rfl, bz.stored rb rn ro rk rc re, h7.only_dbox bz (only_set4 _ _ _ _ _ _), Below.trans exB ((only_set4 _ _ _ _ _ _).below (Nat.le_refl _))⟩
        | exact ⟨_, rb, rn, ro, rk, rc, re, rfl, bz.stored rb rn ro rk rc re, h7.only_dbox bz (only_set4 _ _ _ _ _ _), Below.trans exB ((only_set4 _ _ _ _ _ _).below (Below.size exA))⟩
        | exact ⟨_, rb, rn, ro, rk, rc, re, rfl, DBox.new w7 rb rn ro rk rc re, h7.ext ((Below.refl _ _).alloc (Nat.le_refl _) _), exB.trans ((Below.refl _ _).alloc (Nat.le_refl _) _)⟩
  case rest =>
    obtain ⟨g, rb, rn, ro, rk, rc, re, rfl, e4, hbad, hE⟩ := hcut
    have hd := hd.ext hE
    have hdz := hdz.ext hE
    have e2 := e2.ext hE
    have e3 := e3.ext hE
    have ex7 : Ext w wc := ex6.trans hE
    have hcells : ∀ wx, Ext wc wx → (wx.cell? ⟨D2, 0, none⟩ = some (.bool xb) ∧ wx.cell? ⟨D2, 1, none⟩ = some (.bool xn) ∧ wx.cell? ⟨D2, 2, none⟩ = some (.slice xo xk xc) ∧ wx.cell? ⟨D2, 3, none⟩ = some (.int .i64 xe)) ∧
      (wx.cell? ⟨D3, 0, none⟩ = some (.bool zb) ∧ wx.cell? ⟨D3, 1, none⟩ = some (.bool zn) ∧ wx.cell? ⟨D3, 2, none⟩ = some (.slice zo zk zc) ∧ wx.cell? ⟨D3, 3, none⟩ = some (.int .i64 ze)) ∧
      (wx.cell? ⟨g, 0, none⟩ = some (.bool rb) ∧ wx.cell? ⟨g, 1, none⟩ = some (.bool rn) ∧ wx.cell? ⟨g, 2, none⟩ = some (.slice ro rk rc) ∧ wx.cell? ⟨g, 3, none⟩ = some (.int .i64 re)) := fun wx h =>
      ⟨⟨(e2.ext h).c0, (e2.ext h).c1, (e2.ext h).c2, (e2.ext h).c3⟩, ⟨(e3.ext h).c0, (e3.ext h).c1, (e3.ext h).c2, (e3.ext h).c3⟩, (e4.ext h).c0, (e4.ext h).c1, (e4.ext h).c2, (e4.ext h).c3⟩
    have HC := Lib.hid hcells
    clear hcells e1 e2 e3 e4 gone GR hE ex6
    obtain ⟨⟨k0, k1, k2, k3⟩, ⟨l0, l1, l2, l3⟩, m0, m1, m2, m3⟩ := HC.out wc (Ext.refl _)
    rw [dmk_one] at hd
    by_cases hlo : i < -65536
    · rw [if_pos (Or.inl hlo)] at hd
      obtain rfl := dn_none hd
      go_wp2_with fail
      refine (kitDyad_same _ _ _ _ hdz (dn_zero _)).mono ?_
      rintro e w8 ⟨rfl, hw8⟩
      have hd := hd.ext hw8
      have hbad := hbad.ext hw8
      clear k0 k1 k2 k3 l0 l1 l2 l3 m0 m1 m2 m3 hdz
      obtain ⟨⟨k0, k1, k2, k3⟩, ⟨l0, l1, l2, l3⟩, m0, m1, m2, m3⟩ := HC.out w8 hw8
      go_wp2_with fail
      refine (kitDyad_same _ _ _ _ hbad (dn_bad _)).mono ?_
      rintro e w9 ⟨rfl, hw9⟩
      have hd := hd.ext hw9
      have hbad := hbad.ext hw9
      have ex9 : Ext wc w9 := hw8.trans hw9
      clear k0 k1 k2 k3 l0 l1 l2 l3 m0 m1 m2 m3 hw8 hw9
      obtain ⟨⟨k0, k1, k2, k3⟩, ⟨l0, l1, l2, l3⟩, m0, m1, m2, m3⟩ := HC.out w9 ex9
      go_wp2_with fail
      refine (kitDyad_same _ _ _ _ hd hbad).mono ?_
      rintro e w10 ⟨rfl, hw10⟩
      go_wp2_with fail
      refine (dawake_any _ (HT.out.below ((ex7.trans ex9).trans hw10))).mono ?_
      rintro e w11 ⟨rfl, hw11⟩
      go_wp2
      go_ret
      exact ⟨rfl, ((ex7.trans ex9).trans hw10).trans hw11⟩
    · by_cases hhi : 65536 ≤ i
      · rw [if_pos (Or.inr (by omega))] at hd
        obtain rfl := dn_none hd
        go_wp2_with fail
        refine (kitDyad_same _ _ _ _ hdz (dn_zero _)).mono ?_
        rintro e w8 ⟨rfl, hw8⟩
        have hd := hd.ext hw8
        have hbad := hbad.ext hw8
        clear k0 k1 k2 k3 l0 l1 l2 l3 m0 m1 m2 m3 hdz
        obtain ⟨⟨k0, k1, k2, k3⟩, ⟨l0, l1, l2, l3⟩, m0, m1, m2, m3⟩ := HC.out w8 hw8
        go_wp2_with fail
        refine (kitDyad_same _ _ _ _ hbad (dn_bad _)).mono ?_
        rintro e w9 ⟨rfl, hw9⟩
        have hd := hd.ext hw9
        have hbad := hbad.ext hw9
        have ex9 : Ext wc w9 := hw8.trans hw9
        clear k0 k1 k2 k3 l0 l1 l2 l3 m0 m1 m2 m3 hw8 hw9
        obtain ⟨⟨k0, k1, k2, k3⟩, ⟨l0, l1, l2, l3⟩, m0, m1, m2, m3⟩ := HC.out w9 ex9
        go_wp2_with fail
        refine (kitDyad_same _ _ _ _ hd hbad).mono ?_
        rintro e w10 ⟨rfl, hw10⟩
        go_wp2_with fail
        refine (dawake_any _ (HT.out.below ((ex7.trans ex9).trans hw10))).mono ?_
        rintro e w11 ⟨rfl, hw11⟩
        go_wp2
        go_ret
        exact ⟨rfl, ((ex7.trans ex9).trans hw10).trans hw11⟩
      · rw [if_neg (by omega)] at hd
        obtain ⟨rfl, hxe, _⟩ := dn_some hd
        subst hxe
        go_wp2_with fail
        refine (kitDyad_same _ _ _ _ hdz (dn_zero _)).mono ?_
        rintro e w8 ⟨rfl, hw8⟩
        have hd := hd.ext hw8
        have hbad := hbad.ext hw8
        clear k0 k1 k2 k3 l0 l1 l2 l3 m0 m1 m2 m3 hdz
        obtain ⟨⟨k0, k1, k2, k3⟩, ⟨l0, l1, l2, l3⟩, m0, m1, m2, m3⟩ := HC.out w8 hw8
        go_wp2_with fail
        refine (kitDyad_same _ _ _ _ hbad (dn_bad _)).mono ?_
        rintro e w9 ⟨rfl, hw9⟩
        have hd := hd.ext hw9
        have ex9 : Ext wc w9 := hw8.trans hw9
        clear k0 k1 k2 k3 l0 l1 l2 l3 m0 m1 m2 m3 hw8 hw9 hbad
        obtain ⟨⟨k0, k1, k2, k3⟩, ⟨l0, l1, l2, l3⟩, m0, m1, m2, m3⟩ := HC.out w9 ex9
        go_wp2_with fail
        refine (dlog_any _ _ _ hd.dg (HT.out.below (ex7.trans ex9))).mono ?_
        rintro e w10 ⟨hlog, hw10⟩
        obtain rfl := log_one hlog
        have hd := hd.ext hw10
        have ex10 : Ext wc w10 := ex9.trans hw10
        clear k0 k1 k2 k3 l0 l1 l2 l3 m0 m1 m2 m3 hlog hw10
        obtain ⟨⟨k0, k1, k2, k3⟩, ⟨l0, l1, l2, l3⟩, m0, m1, m2, m3⟩ := HC.out w10 ex10
        go_wp2_with fail
        refine (dvalid_any _ _ _ hd.dg (HT.out.below (ex7.trans ex10))).mono ?_
        rintro e w11 ⟨rfl, hw11⟩
        go_wp2_with fail
        refine (dawake_any _ (HT.out.below ((ex7.trans ex10).trans hw11))).mono ?_
        rintro e w12 ⟨rfl, hw12⟩
        go_wp2
        go_ret
        exact ⟨rfl, ((ex7.trans ex10).trans hw11).trans hw12⟩
end Go.Proofs.YtpmbmemfoljfpaaDoor
