/- IntegerBits returns true, from what its callees do. -/
import Derived.Test.YtjohpdobnedilaaGreatDoorCIBitsC
import Derived.Test.YtjohpdobnedilaaGreatDoorCAwake
import Derived.Test.YtjohpdobnedilaaGreatDoorGo
namespace Go.Proofs.YtjohpdobnedilaaGreatDoor
open Go Go.RowKit

/-- a zero beside a zero that is written down -/
theorem zero_big (nb : Bool) (ao : Option Addr) (n ca : Nat) (w : World) (h : Bn w nb ao n ca 0) :
    Calls Tryz.prog 52 #[.agg #[.bool nb, .slice ao n ca], .agg #[.bool false, .slice none 0 0]] w fun e w' => e = .returned (.bool true) ∧ Ext w w' :=
  big_eq nb false ao n ca none 0 0 0 0 w h ⟨rfl, by show Sl _ none 0 0 (limbs 0); rw [limbs_zero]; exact Sl.nil _⟩ rfl

set_option maxRecDepth 100000 in
set_option maxHeartbeats 8000000 in
theorem ibits_farN (nb : Bool) (ao : Option Addr) (n ca : Nat) (x i : Int) (w : World) (hg : Bg w nb ao n ca x) (hbl : blen x.natAbs ≤ 900000) (hn : n ≤ 40) (hi : i < -1048576 ∨ 1048576 < i) (hx : x < 0) (hT : Table w) :
    Calls Tryz.prog 6 #[.agg #[.bool nb, .slice ao n ca], .int .i64 i] w fun e w' => e = .returned (.bool true) ∧ Ext w w' := by
  have hbl : blen x.natAbs ≤ 1000000 := by omega
  have SL := Lib.hid (fun W => slim_yes nb ao n ca 40 W hn)
  have CSH := Lib.hid (fun W (_ : Ext w W) => shift_far nb ao n ca i W hi)
  have CSQ := Lib.hid (fun W (hE : Ext w W) => sqrt_neg nb ao n ca x W (hg.below hE) hx)
  have BL := Lib.hid (fun W (hE : Ext w W) => bitLenOut_any nb ao n ca x W (hg.below hE))
  have RBL := Lib.hid (fun W (hE : Ext w W) => refBitLen_any nb ao n ca x W (hg.below hE))
  have TZ : ∀ W, Ext w W → Calls Tryz.prog 50 #[.agg #[.bool nb, .slice ao n ca]] W fun e w' => e = .returned (.int .i64 (tzf x.natAbs)) ∧ Ext W w' := fun W hE =>
    (trailingZerosOut_any nb ao n ca x W (hg.below hE) (hT.below hE)).mono fun e w' ⟨t, h1, h2, h3⟩ => ⟨by rw [h1, h2.unique (tzf_isTz _)], h3⟩
  have TZ := Lib.hid TZ
  have RTZ := Lib.hid (fun W (hE : Ext w W) => refTz_any nb ao n ca x W (hg.below hE) (hT.below hE))
  have SG : ∀ W, Ext w W → Calls Tryz.prog 54 #[.agg #[.bool nb, .slice ao n ca]] W fun e w' => e = .returned (.int .i64 (sgn3 x 0)) ∧ Ext W w' := fun W hE => refSign_any nb ao n ca x W (hg.below hE)
  obtain ⟨sg, hsg⟩ : ∃ sg, sgn3 x 0 = sg := ⟨_, rfl⟩
  rw [hsg] at SG
  have SG := Lib.hid SG
  have hsg0 : decide (sg < 0) = true := by
    rw [← hsg]; unfold sgn3
    rw [if_pos hx]; rfl
  have AW := Lib.hid (fun W => awake_any W)
  have ZB := Lib.hid (fun (a1 : Bool) (a2 : Option Addr) (a3 a4 : Nat) (W : World) (h : Bn W a1 a2 a3 a4 0) => zero_big a1 a2 a3 a4 W h)
  clear hg hbl hn hx hT hsg
  generalize blen x.natAbs = bl at *
  generalize tzf x.natAbs = tz at *
  rcases (show i < -1048576 ∨ ¬ i < -1048576 ∧ i > 1048576 by omega) with h1 | ⟨h1, h2⟩
  · clear hi
    go_enter Tryz.func6, Tryz.ntmps6
    go_upto_region 1 with fail
    obtain ⟨W, hW, hB, hx, -⟩ := box_new w nb ao n ca
    rw [← hW]
    clear hW
    have HB := Lib.hid (show Ext w W from hB)
    generalize w.heap.size = B at hx ⊢
    clear hB
    have x0 := hx.c0
    have x1 := hx.c1
    go_wp2_with fail
    refine (SL.out _).mono ?_
    rintro e w1 ⟨rfl, hE⟩
    have hx := hx.below hE
    have HB := Lib.hid (Ext.trans HB.out hE)
    clear x0 x1 hE
    have x0 := hx.c0
    have x1 := hx.c1
    go_wp2_with fail
    refine (CSH.out _ HB.out).mono ?_
    rintro e w2 ⟨pn, po, pk, pc, rfl, hp, hE⟩
    have hx := hx.below hE
    have HB := Lib.hid (Ext.trans HB.out hE)
    clear x0 x1 hE
    go_upto_region 4 with fail
    obtain ⟨W3, hW3, hE, hp3, -⟩ := box_new w2 pn po pk pc
    rw [← hW3]
    clear hW3
    have hx := hx.below hE
    have hp := hp.below hE
    have HB := Lib.hid (Ext.trans HB.out hE)
    generalize w2.heap.size = D at hp3 ⊢
    clear hE
    have x0 := hx.c0
    have x1 := hx.c1
    go_wp2_with fail
    refine (CSQ.out _ HB.out).mono ?_
    rintro e w4 ⟨sn, so, sk, sc, rfl, hs, hE⟩
    have hx := hx.below hE
    have hp := hp.below hE
    have hp3 := hp3.below hE
    have HB := Lib.hid (Ext.trans HB.out hE)
    clear x0 x1 hE
    go_upto_region 5 with fail
    obtain ⟨V, hV, hE, hs5, -⟩ := box_new w4 sn so sk sc
    rw [← hV]
    clear hV
    have hx := hx.below hE
    have hp := hp.below hE
    have hp3 := hp3.below hE
    have hs := hs.below hE
    have HB := Lib.hid (Ext.trans HB.out hE)
    generalize w4.heap.size = E at hs5 ⊢
    clear hE
    have HC := Lib.hid (show ∀ wx, Ext V wx → (wx.cell? ⟨B, 0, none⟩ = some (.bool nb) ∧ wx.cell? ⟨B, 1, none⟩ = some (.slice ao n ca)) ∧ (wx.cell? ⟨D, 0, none⟩ = some (.bool pn) ∧ wx.cell? ⟨D, 1, none⟩ = some (.slice po pk pc)) ∧ (wx.cell? ⟨E, 0, none⟩ = some (.bool sn) ∧ wx.cell? ⟨E, 1, none⟩ = some (.slice so sk sc)) from fun wx h => ⟨⟨(hx.below h).c0, (hx.below h).c1⟩, ⟨(hp3.below h).c0, (hp3.below h).c1⟩, (hs5.below h).c0, (hs5.below h).c1⟩)
    have st : Ext V V.drew := (Below.refl _ _).drew
    obtain ⟨⟨x0, x1⟩, ⟨p0, p1⟩, s0, s1⟩ := HC.out V (Ext.refl V)
    clear hx hp3 hs5
    go_region_held3 (fun wx => (wx.cell? ⟨B, 0, none⟩ = some (.bool nb) ∧ wx.cell? ⟨B, 1, none⟩ = some (.slice ao n ca)) ∧ (wx.cell? ⟨D, 0, none⟩ = some (.bool pn) ∧ wx.cell? ⟨D, 1, none⟩ = some (.slice po pk pc)) ∧ (wx.cell? ⟨E, 0, none⟩ = some (.bool sn) ∧ wx.cell? ⟨E, 1, none⟩ = some (.slice so sk sc)))
      (first | exact HC.out _ (by assumption))
      (first
        | (go_at_call 48; (with_reducible refine (BL.out _ (Ext.trans HB.out (by assumption))).mono ?_); rintro e w5 ⟨rfl, hE5⟩; have st : Ext V w5 := Ext.trans (by assumption) hE5)
        | (go_at_call 49; (with_reducible refine (RBL.out _ (Ext.trans HB.out (by assumption))).mono ?_); rintro e w6 ⟨rfl, hE6⟩; have st : Ext V w6 := Ext.trans (by assumption) hE6)
        | (go_at_call 50; (with_reducible refine (TZ.out _ (Ext.trans HB.out (by assumption))).mono ?_); rintro e w7 ⟨rfl, hE7⟩; have st : Ext V w7 := Ext.trans (by assumption) hE7)
        | (go_at_call 51; (with_reducible refine (RTZ.out _ (Ext.trans HB.out (by assumption))).mono ?_); rintro e w8 ⟨rfl, hE8⟩; have st : Ext V w8 := Ext.trans (by assumption) hE8))
    clear x0 x1 p0 p1 s0 s1
    obtain ⟨⟨x0, x1⟩, ⟨p0, p1⟩, s0, s1⟩ := HC.out w8 st
    go_wp2_with fail
    refine (ZB.out _ _ _ _ _ (hp.below st)).mono ?_
    rintro e w9 ⟨rfl, hE⟩
    have st := Ext.trans st hE
    clear hE x0 x1 p0 p1 s0 s1
    obtain ⟨⟨x0, x1⟩, ⟨p0, p1⟩, s0, s1⟩ := HC.out w9 st
    go_wp2_with fail
    refine (SG.out _ (Ext.trans HB.out st)).mono ?_
    rintro e w11 ⟨rfl, hE⟩
    have st := Ext.trans st hE
    clear hE x0 x1 p0 p1 s0 s1
    obtain ⟨⟨x0, x1⟩, ⟨p0, p1⟩, s0, s1⟩ := HC.out w11 st
    go_wp2_with fail
    refine (ZB.out _ _ _ _ _ (hs.below st)).mono ?_
    rintro e w12 ⟨rfl, hE⟩
    have st := Ext.trans st hE
    clear hE x0 x1 p0 p1 s0 s1
    obtain ⟨⟨x0, x1⟩, ⟨p0, p1⟩, s0, s1⟩ := HC.out w12 st
    go_wp2_with fail
    refine (AW.out _).mono ?_
    rintro e w13 ⟨rfl, hE⟩
    have EX := Lib.hid (Ext.trans HB.out (Ext.trans st hE))
    go_wp2
    go_ret
    exact ⟨rfl, EX.out⟩
  · clear hi
    go_enter Tryz.func6, Tryz.ntmps6
    go_upto_region 1 with fail
    obtain ⟨W, hW, hB, hx, -⟩ := box_new w nb ao n ca
    rw [← hW]
    clear hW
    have HB := Lib.hid (show Ext w W from hB)
    generalize w.heap.size = B at hx ⊢
    clear hB
    have x0 := hx.c0
    have x1 := hx.c1
    go_wp2_with fail
    refine (SL.out _).mono ?_
    rintro e w1 ⟨rfl, hE⟩
    have hx := hx.below hE
    have HB := Lib.hid (Ext.trans HB.out hE)
    clear x0 x1 hE
    have x0 := hx.c0
    have x1 := hx.c1
    go_wp2_with fail
    refine (CSH.out _ HB.out).mono ?_
    rintro e w2 ⟨pn, po, pk, pc, rfl, hp, hE⟩
    have hx := hx.below hE
    have HB := Lib.hid (Ext.trans HB.out hE)
    clear x0 x1 hE
    go_upto_region 4 with fail
    obtain ⟨W3, hW3, hE, hp3, -⟩ := box_new w2 pn po pk pc
    rw [← hW3]
    clear hW3
    have hx := hx.below hE
    have hp := hp.below hE
    have HB := Lib.hid (Ext.trans HB.out hE)
    generalize w2.heap.size = D at hp3 ⊢
    clear hE
    have x0 := hx.c0
    have x1 := hx.c1
    go_wp2_with fail
    refine (CSQ.out _ HB.out).mono ?_
    rintro e w4 ⟨sn, so, sk, sc, rfl, hs, hE⟩
    have hx := hx.below hE
    have hp := hp.below hE
    have hp3 := hp3.below hE
    have HB := Lib.hid (Ext.trans HB.out hE)
    clear x0 x1 hE
    go_upto_region 5 with fail
    obtain ⟨V, hV, hE, hs5, -⟩ := box_new w4 sn so sk sc
    rw [← hV]
    clear hV
    have hx := hx.below hE
    have hp := hp.below hE
    have hp3 := hp3.below hE
    have hs := hs.below hE
    have HB := Lib.hid (Ext.trans HB.out hE)
    generalize w4.heap.size = E at hs5 ⊢
    clear hE
    have HC := Lib.hid (show ∀ wx, Ext V wx → (wx.cell? ⟨B, 0, none⟩ = some (.bool nb) ∧ wx.cell? ⟨B, 1, none⟩ = some (.slice ao n ca)) ∧ (wx.cell? ⟨D, 0, none⟩ = some (.bool pn) ∧ wx.cell? ⟨D, 1, none⟩ = some (.slice po pk pc)) ∧ (wx.cell? ⟨E, 0, none⟩ = some (.bool sn) ∧ wx.cell? ⟨E, 1, none⟩ = some (.slice so sk sc)) from fun wx h => ⟨⟨(hx.below h).c0, (hx.below h).c1⟩, ⟨(hp3.below h).c0, (hp3.below h).c1⟩, (hs5.below h).c0, (hs5.below h).c1⟩)
    have st : Ext V V.drew := (Below.refl _ _).drew
    obtain ⟨⟨x0, x1⟩, ⟨p0, p1⟩, s0, s1⟩ := HC.out V (Ext.refl V)
    clear hx hp3 hs5
    go_region_held3 (fun wx => (wx.cell? ⟨B, 0, none⟩ = some (.bool nb) ∧ wx.cell? ⟨B, 1, none⟩ = some (.slice ao n ca)) ∧ (wx.cell? ⟨D, 0, none⟩ = some (.bool pn) ∧ wx.cell? ⟨D, 1, none⟩ = some (.slice po pk pc)) ∧ (wx.cell? ⟨E, 0, none⟩ = some (.bool sn) ∧ wx.cell? ⟨E, 1, none⟩ = some (.slice so sk sc)))
      (first | exact HC.out _ (by assumption))
      (first
        | (go_at_call 48; (with_reducible refine (BL.out _ (Ext.trans HB.out (by assumption))).mono ?_); rintro e w5 ⟨rfl, hE5⟩; have st : Ext V w5 := Ext.trans (by assumption) hE5)
        | (go_at_call 49; (with_reducible refine (RBL.out _ (Ext.trans HB.out (by assumption))).mono ?_); rintro e w6 ⟨rfl, hE6⟩; have st : Ext V w6 := Ext.trans (by assumption) hE6)
        | (go_at_call 50; (with_reducible refine (TZ.out _ (Ext.trans HB.out (by assumption))).mono ?_); rintro e w7 ⟨rfl, hE7⟩; have st : Ext V w7 := Ext.trans (by assumption) hE7)
        | (go_at_call 51; (with_reducible refine (RTZ.out _ (Ext.trans HB.out (by assumption))).mono ?_); rintro e w8 ⟨rfl, hE8⟩; have st : Ext V w8 := Ext.trans (by assumption) hE8))
    clear x0 x1 p0 p1 s0 s1
    obtain ⟨⟨x0, x1⟩, ⟨p0, p1⟩, s0, s1⟩ := HC.out w8 st
    go_wp2_with fail
    refine (ZB.out _ _ _ _ _ (hp.below st)).mono ?_
    rintro e w9 ⟨rfl, hE⟩
    have st := Ext.trans st hE
    clear hE x0 x1 p0 p1 s0 s1
    obtain ⟨⟨x0, x1⟩, ⟨p0, p1⟩, s0, s1⟩ := HC.out w9 st
    go_wp2_with fail
    refine (SG.out _ (Ext.trans HB.out st)).mono ?_
    rintro e w11 ⟨rfl, hE⟩
    have st := Ext.trans st hE
    clear hE x0 x1 p0 p1 s0 s1
    obtain ⟨⟨x0, x1⟩, ⟨p0, p1⟩, s0, s1⟩ := HC.out w11 st
    go_wp2_with fail
    refine (ZB.out _ _ _ _ _ (hs.below st)).mono ?_
    rintro e w12 ⟨rfl, hE⟩
    have st := Ext.trans st hE
    clear hE x0 x1 p0 p1 s0 s1
    obtain ⟨⟨x0, x1⟩, ⟨p0, p1⟩, s0, s1⟩ := HC.out w12 st
    go_wp2_with fail
    refine (AW.out _).mono ?_
    rintro e w13 ⟨rfl, hE⟩
    have EX := Lib.hid (Ext.trans HB.out (Ext.trans st hE))
    go_wp2
    go_ret
    exact ⟨rfl, EX.out⟩

set_option maxRecDepth 100000 in
set_option maxHeartbeats 8000000 in
theorem ibits_farP (nb : Bool) (ao : Option Addr) (n ca : Nat) (x i : Int) (w : World) (hg : Bg w nb ao n ca x) (hbl : blen x.natAbs ≤ 900000) (hn : n ≤ 40) (hi : i < -1048576 ∨ 1048576 < i) (hx : 0 ≤ x) (hT : Table w) :
    Calls Tryz.prog 6 #[.agg #[.bool nb, .slice ao n ca], .int .i64 i] w fun e w' => e = .returned (.bool true) ∧ Ext w w' := by
  have hbl : blen x.natAbs ≤ 1000000 := by omega
  have SL := Lib.hid (fun W => slim_yes nb ao n ca 40 W hn)
  have CSH := Lib.hid (fun W (_ : Ext w W) => shift_far nb ao n ca i W hi)
  obtain ⟨r, hr1, hr2⟩ := root_ex x.natAbs
  have CSQ : ∀ W, Ext w W → Calls Tryz.prog 47 #[.agg #[.bool nb, .slice ao n ca]] W fun e w' => ∃ nr ro k cr, e = .returned (.tuple #[.agg #[.bool nr, .slice ro k cr], .int .i64 0]) ∧ Bn w' nr ro k cr (r : Int) ∧ Ext W w' := fun W hE =>
    (sqrt_any nb ao n ca x W (hg.below hE) (by omega) hx).mono fun e w' ⟨nr, ro, k, cr, s, h1, h2, h3, h4, h5⟩ => ⟨nr, ro, k, cr, h1, by rw [root_unique hr1 hr2 h3 h4]; exact h2, h5⟩
  have RSQ : ∀ W, Ext w W → Calls Tryz.prog 55 #[.agg #[.bool nb, .slice ao n ca]] W fun e w' => ∃ nr ro k cr, e = .returned (.agg #[.bool nr, .slice ro k cr]) ∧ Bn w' nr ro k cr (r : Int) ∧ Ext W w' := fun W hE => by
    have hgx : Bg W nb ao n ca ((x.natAbs : Nat) : Int) := by rw [show ((x.natAbs : Nat) : Int) = x by omega]; exact hg.below hE
    exact (refSqrt_any nb ao n ca x.natAbs W hgx (by omega) (by omega)).mono fun e w' ⟨nr, ro, k, cr, s, h1, h2, h3, h4, h5⟩ => ⟨nr, ro, k, cr, h1, by rw [root_unique hr1 hr2 h3 h4]; exact h2, h5⟩
  have CSQ := Lib.hid CSQ
  have RSQ := Lib.hid RSQ
  have BL := Lib.hid (fun W (hE : Ext w W) => bitLenOut_any nb ao n ca x W (hg.below hE))
  have RBL := Lib.hid (fun W (hE : Ext w W) => refBitLen_any nb ao n ca x W (hg.below hE))
  have TZ : ∀ W, Ext w W → Calls Tryz.prog 50 #[.agg #[.bool nb, .slice ao n ca]] W fun e w' => e = .returned (.int .i64 (tzf x.natAbs)) ∧ Ext W w' := fun W hE =>
    (trailingZerosOut_any nb ao n ca x W (hg.below hE) (hT.below hE)).mono fun e w' ⟨t, h1, h2, h3⟩ => ⟨by rw [h1, h2.unique (tzf_isTz _)], h3⟩
  have TZ := Lib.hid TZ
  have RTZ := Lib.hid (fun W (hE : Ext w W) => refTz_any nb ao n ca x W (hg.below hE) (hT.below hE))
  have SG : ∀ W, Ext w W → Calls Tryz.prog 54 #[.agg #[.bool nb, .slice ao n ca]] W fun e w' => e = .returned (.int .i64 (sgn3 x 0)) ∧ Ext W w' := fun W hE => refSign_any nb ao n ca x W (hg.below hE)
  obtain ⟨sg, hsg⟩ : ∃ sg, sgn3 x 0 = sg := ⟨_, rfl⟩
  rw [hsg] at SG
  have SG := Lib.hid SG
  have hsg0 : decide (sg < 0) = false := by
    rw [← hsg]; unfold sgn3
    rw [if_neg (by omega)]; split <;> rfl
  have AW := Lib.hid (fun W => awake_any W)
  have ZB := Lib.hid (fun (a1 : Bool) (a2 : Option Addr) (a3 a4 : Nat) (W : World) (h : Bn W a1 a2 a3 a4 0) => zero_big a1 a2 a3 a4 W h)
  clear hg hbl hn hx hT hsg hr1 hr2
  generalize blen x.natAbs = bl at *
  generalize tzf x.natAbs = tz at *
  rcases (show i < -1048576 ∨ ¬ i < -1048576 ∧ i > 1048576 by omega) with h1 | ⟨h1, h2⟩
  · clear hi
    go_enter Tryz.func6, Tryz.ntmps6
    go_upto_region 1 with fail
    obtain ⟨W, hW, hB, hx, -⟩ := box_new w nb ao n ca
    rw [← hW]
    clear hW
    have HB := Lib.hid (show Ext w W from hB)
    generalize w.heap.size = B at hx ⊢
    clear hB
    have x0 := hx.c0
    have x1 := hx.c1
    go_wp2_with fail
    refine (SL.out _).mono ?_
    rintro e w1 ⟨rfl, hE⟩
    have hx := hx.below hE
    have HB := Lib.hid (Ext.trans HB.out hE)
    clear x0 x1 hE
    have x0 := hx.c0
    have x1 := hx.c1
    go_wp2_with fail
    refine (CSH.out _ HB.out).mono ?_
    rintro e w2 ⟨pn, po, pk, pc, rfl, hp, hE⟩
    have hx := hx.below hE
    have HB := Lib.hid (Ext.trans HB.out hE)
    clear x0 x1 hE
    go_upto_region 4 with fail
    obtain ⟨W3, hW3, hE, hp3, -⟩ := box_new w2 pn po pk pc
    rw [← hW3]
    clear hW3
    have hx := hx.below hE
    have hp := hp.below hE
    have HB := Lib.hid (Ext.trans HB.out hE)
    generalize w2.heap.size = D at hp3 ⊢
    clear hE
    have x0 := hx.c0
    have x1 := hx.c1
    go_wp2_with fail
    refine (CSQ.out _ HB.out).mono ?_
    rintro e w4 ⟨sn, so, sk, sc, rfl, hs, hE⟩
    have hx := hx.below hE
    have hp := hp.below hE
    have hp3 := hp3.below hE
    have HB := Lib.hid (Ext.trans HB.out hE)
    clear x0 x1 hE
    go_upto_region 5 with fail
    obtain ⟨V, hV, hE, hs5, -⟩ := box_new w4 sn so sk sc
    rw [← hV]
    clear hV
    have hx := hx.below hE
    have hp := hp.below hE
    have hp3 := hp3.below hE
    have hs := hs.below hE
    have HB := Lib.hid (Ext.trans HB.out hE)
    generalize w4.heap.size = E at hs5 ⊢
    clear hE
    have HC := Lib.hid (show ∀ wx, Ext V wx → (wx.cell? ⟨B, 0, none⟩ = some (.bool nb) ∧ wx.cell? ⟨B, 1, none⟩ = some (.slice ao n ca)) ∧ (wx.cell? ⟨D, 0, none⟩ = some (.bool pn) ∧ wx.cell? ⟨D, 1, none⟩ = some (.slice po pk pc)) ∧ (wx.cell? ⟨E, 0, none⟩ = some (.bool sn) ∧ wx.cell? ⟨E, 1, none⟩ = some (.slice so sk sc)) from fun wx h => ⟨⟨(hx.below h).c0, (hx.below h).c1⟩, ⟨(hp3.below h).c0, (hp3.below h).c1⟩, (hs5.below h).c0, (hs5.below h).c1⟩)
    have st : Ext V V.drew := (Below.refl _ _).drew
    obtain ⟨⟨x0, x1⟩, ⟨p0, p1⟩, s0, s1⟩ := HC.out V (Ext.refl V)
    clear hx hp3 hs5
    go_region_held3 (fun wx => (wx.cell? ⟨B, 0, none⟩ = some (.bool nb) ∧ wx.cell? ⟨B, 1, none⟩ = some (.slice ao n ca)) ∧ (wx.cell? ⟨D, 0, none⟩ = some (.bool pn) ∧ wx.cell? ⟨D, 1, none⟩ = some (.slice po pk pc)) ∧ (wx.cell? ⟨E, 0, none⟩ = some (.bool sn) ∧ wx.cell? ⟨E, 1, none⟩ = some (.slice so sk sc)))
      (first | exact HC.out _ (by assumption))
      (first
        | (go_at_call 48; (with_reducible refine (BL.out _ (Ext.trans HB.out (by assumption))).mono ?_); rintro e w5 ⟨rfl, hE5⟩; have st : Ext V w5 := Ext.trans (by assumption) hE5)
        | (go_at_call 49; (with_reducible refine (RBL.out _ (Ext.trans HB.out (by assumption))).mono ?_); rintro e w6 ⟨rfl, hE6⟩; have st : Ext V w6 := Ext.trans (by assumption) hE6)
        | (go_at_call 50; (with_reducible refine (TZ.out _ (Ext.trans HB.out (by assumption))).mono ?_); rintro e w7 ⟨rfl, hE7⟩; have st : Ext V w7 := Ext.trans (by assumption) hE7)
        | (go_at_call 51; (with_reducible refine (RTZ.out _ (Ext.trans HB.out (by assumption))).mono ?_); rintro e w8 ⟨rfl, hE8⟩; have st : Ext V w8 := Ext.trans (by assumption) hE8))
    clear x0 x1 p0 p1 s0 s1
    obtain ⟨⟨x0, x1⟩, ⟨p0, p1⟩, s0, s1⟩ := HC.out w8 st
    go_wp2_with fail
    refine (ZB.out _ _ _ _ _ (hp.below st)).mono ?_
    rintro e w9 ⟨rfl, hE⟩
    have st := Ext.trans st hE
    clear hE x0 x1 p0 p1 s0 s1
    obtain ⟨⟨x0, x1⟩, ⟨p0, p1⟩, s0, s1⟩ := HC.out w9 st
    go_wp2_with fail
    refine (SG.out _ (Ext.trans HB.out st)).mono ?_
    rintro e w11 ⟨rfl, hE⟩
    have st := Ext.trans st hE
    clear hE x0 x1 p0 p1 s0 s1
    obtain ⟨⟨x0, x1⟩, ⟨p0, p1⟩, s0, s1⟩ := HC.out w11 st
    go_upto_region 14 with fail
    have stB := st
    have st : Ext V w11.drew := Ext.trans stB (Below.refl _ _).drew
    go_region_held3 (fun wx => (wx.cell? ⟨B, 0, none⟩ = some (.bool nb) ∧ wx.cell? ⟨B, 1, none⟩ = some (.slice ao n ca)) ∧ (wx.cell? ⟨D, 0, none⟩ = some (.bool pn) ∧ wx.cell? ⟨D, 1, none⟩ = some (.slice po pk pc)) ∧ (wx.cell? ⟨E, 0, none⟩ = some (.bool sn) ∧ wx.cell? ⟨E, 1, none⟩ = some (.slice so sk sc)))
      (first | exact HC.out _ (by assumption))
      (first
        | (go_at_call 55; (with_reducible refine (RSQ.out _ (Ext.trans HB.out (by assumption))).mono ?_); rintro e w12 ⟨qn, qo, qk, qc, rfl, hq, hE12⟩; have st : Ext V w12 := Ext.trans (by assumption) hE12)
        | (go_at_call 52; refine (big_eq _ _ _ _ _ _ _ _ _ _ _ (by exact hs.below st) hq rfl).mono ?_; rintro e w13 ⟨rfl, hE13⟩; have st : Ext V w13 := Ext.trans (by assumption) hE13)
        | (go_at_call 45; refine (AW.out _).mono ?_; rintro e w14 ⟨rfl, hE14⟩; have st : Ext V w14 := Ext.trans (by assumption) hE14))
    have EX := Lib.hid (Ext.trans HB.out st)
    go_wp2
    go_ret
    exact ⟨rfl, EX.out⟩
  · clear hi
    go_enter Tryz.func6, Tryz.ntmps6
    go_upto_region 1 with fail
    obtain ⟨W, hW, hB, hx, -⟩ := box_new w nb ao n ca
    rw [← hW]
    clear hW
    have HB := Lib.hid (show Ext w W from hB)
    generalize w.heap.size = B at hx ⊢
    clear hB
    have x0 := hx.c0
    have x1 := hx.c1
    go_wp2_with fail
    refine (SL.out _).mono ?_
    rintro e w1 ⟨rfl, hE⟩
    have hx := hx.below hE
    have HB := Lib.hid (Ext.trans HB.out hE)
    clear x0 x1 hE
    have x0 := hx.c0
    have x1 := hx.c1
    go_wp2_with fail
    refine (CSH.out _ HB.out).mono ?_
    rintro e w2 ⟨pn, po, pk, pc, rfl, hp, hE⟩
    have hx := hx.below hE
    have HB := Lib.hid (Ext.trans HB.out hE)
    clear x0 x1 hE
    go_upto_region 4 with fail
    obtain ⟨W3, hW3, hE, hp3, -⟩ := box_new w2 pn po pk pc
    rw [← hW3]
    clear hW3
    have hx := hx.below hE
    have hp := hp.below hE
    have HB := Lib.hid (Ext.trans HB.out hE)
    generalize w2.heap.size = D at hp3 ⊢
    clear hE
    have x0 := hx.c0
    have x1 := hx.c1
    go_wp2_with fail
    refine (CSQ.out _ HB.out).mono ?_
    rintro e w4 ⟨sn, so, sk, sc, rfl, hs, hE⟩
    have hx := hx.below hE
    have hp := hp.below hE
    have hp3 := hp3.below hE
    have HB := Lib.hid (Ext.trans HB.out hE)
    clear x0 x1 hE
    go_upto_region 5 with fail
    obtain ⟨V, hV, hE, hs5, -⟩ := box_new w4 sn so sk sc
    rw [← hV]
    clear hV
    have hx := hx.below hE
    have hp := hp.below hE
    have hp3 := hp3.below hE
    have hs := hs.below hE
    have HB := Lib.hid (Ext.trans HB.out hE)
    generalize w4.heap.size = E at hs5 ⊢
    clear hE
    have HC := Lib.hid (show ∀ wx, Ext V wx → (wx.cell? ⟨B, 0, none⟩ = some (.bool nb) ∧ wx.cell? ⟨B, 1, none⟩ = some (.slice ao n ca)) ∧ (wx.cell? ⟨D, 0, none⟩ = some (.bool pn) ∧ wx.cell? ⟨D, 1, none⟩ = some (.slice po pk pc)) ∧ (wx.cell? ⟨E, 0, none⟩ = some (.bool sn) ∧ wx.cell? ⟨E, 1, none⟩ = some (.slice so sk sc)) from fun wx h => ⟨⟨(hx.below h).c0, (hx.below h).c1⟩, ⟨(hp3.below h).c0, (hp3.below h).c1⟩, (hs5.below h).c0, (hs5.below h).c1⟩)
    have st : Ext V V.drew := (Below.refl _ _).drew
    obtain ⟨⟨x0, x1⟩, ⟨p0, p1⟩, s0, s1⟩ := HC.out V (Ext.refl V)
    clear hx hp3 hs5
    go_region_held3 (fun wx => (wx.cell? ⟨B, 0, none⟩ = some (.bool nb) ∧ wx.cell? ⟨B, 1, none⟩ = some (.slice ao n ca)) ∧ (wx.cell? ⟨D, 0, none⟩ = some (.bool pn) ∧ wx.cell? ⟨D, 1, none⟩ = some (.slice po pk pc)) ∧ (wx.cell? ⟨E, 0, none⟩ = some (.bool sn) ∧ wx.cell? ⟨E, 1, none⟩ = some (.slice so sk sc)))
      (first | exact HC.out _ (by assumption))
      (first
        | (go_at_call 48; (with_reducible refine (BL.out _ (Ext.trans HB.out (by assumption))).mono ?_); rintro e w5 ⟨rfl, hE5⟩; have st : Ext V w5 := Ext.trans (by assumption) hE5)
        | (go_at_call 49; (with_reducible refine (RBL.out _ (Ext.trans HB.out (by assumption))).mono ?_); rintro e w6 ⟨rfl, hE6⟩; have st : Ext V w6 := Ext.trans (by assumption) hE6)
        | (go_at_call 50; (with_reducible refine (TZ.out _ (Ext.trans HB.out (by assumption))).mono ?_); rintro e w7 ⟨rfl, hE7⟩; have st : Ext V w7 := Ext.trans (by assumption) hE7)
        | (go_at_call 51; (with_reducible refine (RTZ.out _ (Ext.trans HB.out (by assumption))).mono ?_); rintro e w8 ⟨rfl, hE8⟩; have st : Ext V w8 := Ext.trans (by assumption) hE8))
    clear x0 x1 p0 p1 s0 s1
    obtain ⟨⟨x0, x1⟩, ⟨p0, p1⟩, s0, s1⟩ := HC.out w8 st
    go_wp2_with fail
    refine (ZB.out _ _ _ _ _ (hp.below st)).mono ?_
    rintro e w9 ⟨rfl, hE⟩
    have st := Ext.trans st hE
    clear hE x0 x1 p0 p1 s0 s1
    obtain ⟨⟨x0, x1⟩, ⟨p0, p1⟩, s0, s1⟩ := HC.out w9 st
    go_wp2_with fail
    refine (SG.out _ (Ext.trans HB.out st)).mono ?_
    rintro e w11 ⟨rfl, hE⟩
    have st := Ext.trans st hE
    clear hE x0 x1 p0 p1 s0 s1
    obtain ⟨⟨x0, x1⟩, ⟨p0, p1⟩, s0, s1⟩ := HC.out w11 st
    go_upto_region 14 with fail
    have stB := st
    have st : Ext V w11.drew := Ext.trans stB (Below.refl _ _).drew
    go_region_held3 (fun wx => (wx.cell? ⟨B, 0, none⟩ = some (.bool nb) ∧ wx.cell? ⟨B, 1, none⟩ = some (.slice ao n ca)) ∧ (wx.cell? ⟨D, 0, none⟩ = some (.bool pn) ∧ wx.cell? ⟨D, 1, none⟩ = some (.slice po pk pc)) ∧ (wx.cell? ⟨E, 0, none⟩ = some (.bool sn) ∧ wx.cell? ⟨E, 1, none⟩ = some (.slice so sk sc)))
      (first | exact HC.out _ (by assumption))
      (first
        | (go_at_call 55; (with_reducible refine (RSQ.out _ (Ext.trans HB.out (by assumption))).mono ?_); rintro e w12 ⟨qn, qo, qk, qc, rfl, hq, hE12⟩; have st : Ext V w12 := Ext.trans (by assumption) hE12)
        | (go_at_call 52; refine (big_eq _ _ _ _ _ _ _ _ _ _ _ (by exact hs.below st) hq rfl).mono ?_; rintro e w13 ⟨rfl, hE13⟩; have st : Ext V w13 := Ext.trans (by assumption) hE13)
        | (go_at_call 45; refine (AW.out _).mono ?_; rintro e w14 ⟨rfl, hE14⟩; have st : Ext V w14 := Ext.trans (by assumption) hE14))
    have EX := Lib.hid (Ext.trans HB.out st)
    go_wp2
    go_ret
    exact ⟨rfl, EX.out⟩

set_option maxRecDepth 100000 in
set_option maxHeartbeats 8000000 in
theorem ibits_nearN (nb : Bool) (ao : Option Addr) (n ca : Nat) (x i : Int) (w : World) (hg : Bg w nb ao n ca x) (hbl : blen x.natAbs ≤ 900000) (hn : n ≤ 40) (hi : -1048576 ≤ i ∧ i ≤ 1048576) (hx : x < 0) (hT : Table w) :
    Calls Tryz.prog 6 #[.agg #[.bool nb, .slice ao n ca], .int .i64 i] w fun e w' => e = .returned (.bool true) ∧ Ext w w' := by
  have hbl : blen x.natAbs ≤ 1000000 := by omega
  have SL := Lib.hid (fun W => slim_yes nb ao n ca 40 W hn)
  have CSH := Lib.hid (fun W (hE : Ext w W) => shift_at nb ao n ca x i W (hg.below hE) hi (hT.below hE))
  have RSH := Lib.hid (fun W (hE : Ext w W) => refShift_at nb ao n ca x i W (hg.below hE) hbl hi)
  have CSQ := Lib.hid (fun W (hE : Ext w W) => sqrt_neg nb ao n ca x W (hg.below hE) hx)
  have BL := Lib.hid (fun W (hE : Ext w W) => bitLenOut_any nb ao n ca x W (hg.below hE))
  have RBL := Lib.hid (fun W (hE : Ext w W) => refBitLen_any nb ao n ca x W (hg.below hE))
  have TZ : ∀ W, Ext w W → Calls Tryz.prog 50 #[.agg #[.bool nb, .slice ao n ca]] W fun e w' => e = .returned (.int .i64 (tzf x.natAbs)) ∧ Ext W w' := fun W hE =>
    (trailingZerosOut_any nb ao n ca x W (hg.below hE) (hT.below hE)).mono fun e w' ⟨t, h1, h2, h3⟩ => ⟨by rw [h1, h2.unique (tzf_isTz _)], h3⟩
  have TZ := Lib.hid TZ
  have RTZ := Lib.hid (fun W (hE : Ext w W) => refTz_any nb ao n ca x W (hg.below hE) (hT.below hE))
  have SG : ∀ W, Ext w W → Calls Tryz.prog 54 #[.agg #[.bool nb, .slice ao n ca]] W fun e w' => e = .returned (.int .i64 (sgn3 x 0)) ∧ Ext W w' := fun W hE => refSign_any nb ao n ca x W (hg.below hE)
  obtain ⟨sg, hsg⟩ : ∃ sg, sgn3 x 0 = sg := ⟨_, rfl⟩
  rw [hsg] at SG
  have SG := Lib.hid SG
  have hsg0 : decide (sg < 0) = true := by
    rw [← hsg]; unfold sgn3
    rw [if_pos hx]; rfl
  have AW := Lib.hid (fun W => awake_any W)
  have ZB := Lib.hid (fun (a1 : Bool) (a2 : Option Addr) (a3 a4 : Nat) (W : World) (h : Bn W a1 a2 a3 a4 0) => zero_big a1 a2 a3 a4 W h)
  clear hg hbl hn hx hT hsg
  generalize blen x.natAbs = bl at *
  generalize tzf x.natAbs = tz at *
  have h1 : ¬ i < -1048576 := by omega
  have h2 : ¬ i > 1048576 := by omega
  clear hi
  go_enter Tryz.func6, Tryz.ntmps6
  go_upto_region 1 with fail
  obtain ⟨W, hW, hB, hx, -⟩ := box_new w nb ao n ca
  rw [← hW]
  clear hW
  have HB := Lib.hid (show Ext w W from hB)
  generalize w.heap.size = B at hx ⊢
  clear hB
  have x0 := hx.c0
  have x1 := hx.c1
  go_wp2_with fail
  refine (SL.out _).mono ?_
  rintro e w1 ⟨rfl, hE⟩
  have hx := hx.below hE
  have HB := Lib.hid (Ext.trans HB.out hE)
  clear x0 x1 hE
  have x0 := hx.c0
  have x1 := hx.c1
  go_wp2_with fail
  refine (CSH.out _ HB.out).mono ?_
  rintro e w2 ⟨pn, po, pk, pc, rfl, hp, hE⟩
  have hx := hx.below hE
  have HB := Lib.hid (Ext.trans HB.out hE)
  clear x0 x1 hE
  go_upto_region 4 with fail
  obtain ⟨W3, hW3, hE, hp3, -⟩ := box_new w2 pn po pk pc
  rw [← hW3]
  clear hW3
  have hx := hx.below hE
  have hp := hp.below hE
  have HB := Lib.hid (Ext.trans HB.out hE)
  generalize w2.heap.size = D at hp3 ⊢
  clear hE
  have x0 := hx.c0
  have x1 := hx.c1
  go_wp2_with fail
  refine (CSQ.out _ HB.out).mono ?_
  rintro e w4 ⟨sn, so, sk, sc, rfl, hs, hE⟩
  have hx := hx.below hE
  have hp := hp.below hE
  have hp3 := hp3.below hE
  have HB := Lib.hid (Ext.trans HB.out hE)
  clear x0 x1 hE
  go_upto_region 5 with fail
  obtain ⟨V, hV, hE, hs5, -⟩ := box_new w4 sn so sk sc
  rw [← hV]
  clear hV
  have hx := hx.below hE
  have hp := hp.below hE
  have hp3 := hp3.below hE
  have hs := hs.below hE
  have HB := Lib.hid (Ext.trans HB.out hE)
  generalize w4.heap.size = E at hs5 ⊢
  clear hE
  have HC := Lib.hid (show ∀ wx, Ext V wx → (wx.cell? ⟨B, 0, none⟩ = some (.bool nb) ∧ wx.cell? ⟨B, 1, none⟩ = some (.slice ao n ca)) ∧ (wx.cell? ⟨D, 0, none⟩ = some (.bool pn) ∧ wx.cell? ⟨D, 1, none⟩ = some (.slice po pk pc)) ∧ (wx.cell? ⟨E, 0, none⟩ = some (.bool sn) ∧ wx.cell? ⟨E, 1, none⟩ = some (.slice so sk sc)) from fun wx h => ⟨⟨(hx.below h).c0, (hx.below h).c1⟩, ⟨(hp3.below h).c0, (hp3.below h).c1⟩, (hs5.below h).c0, (hs5.below h).c1⟩)
  have st : Ext V V.drew := (Below.refl _ _).drew
  obtain ⟨⟨x0, x1⟩, ⟨p0, p1⟩, s0, s1⟩ := HC.out V (Ext.refl V)
  clear hx hp3 hs5
  go_region_held3 (fun wx => (wx.cell? ⟨B, 0, none⟩ = some (.bool nb) ∧ wx.cell? ⟨B, 1, none⟩ = some (.slice ao n ca)) ∧ (wx.cell? ⟨D, 0, none⟩ = some (.bool pn) ∧ wx.cell? ⟨D, 1, none⟩ = some (.slice po pk pc)) ∧ (wx.cell? ⟨E, 0, none⟩ = some (.bool sn) ∧ wx.cell? ⟨E, 1, none⟩ = some (.slice so sk sc)))
    (first | exact HC.out _ (by assumption))
    (first
      | (go_at_call 48; (with_reducible refine (BL.out _ (Ext.trans HB.out (by assumption))).mono ?_); rintro e w5 ⟨rfl, hE5⟩; have st : Ext V w5 := Ext.trans (by assumption) hE5)
      | (go_at_call 49; (with_reducible refine (RBL.out _ (Ext.trans HB.out (by assumption))).mono ?_); rintro e w6 ⟨rfl, hE6⟩; have st : Ext V w6 := Ext.trans (by assumption) hE6)
      | (go_at_call 50; (with_reducible refine (TZ.out _ (Ext.trans HB.out (by assumption))).mono ?_); rintro e w7 ⟨rfl, hE7⟩; have st : Ext V w7 := Ext.trans (by assumption) hE7)
      | (go_at_call 51; (with_reducible refine (RTZ.out _ (Ext.trans HB.out (by assumption))).mono ?_); rintro e w8 ⟨rfl, hE8⟩; have st : Ext V w8 := Ext.trans (by assumption) hE8))
  clear x0 x1 p0 p1 s0 s1
  obtain ⟨⟨x0, x1⟩, ⟨p0, p1⟩, s0, s1⟩ := HC.out w8 st
  go_upto_region 10 with fail
  have stA := st
  have st : Ext V w8.drew := Ext.trans stA (Below.refl _ _).drew
  go_region_held3 (fun wx => (wx.cell? ⟨B, 0, none⟩ = some (.bool nb) ∧ wx.cell? ⟨B, 1, none⟩ = some (.slice ao n ca)) ∧ (wx.cell? ⟨D, 0, none⟩ = some (.bool pn) ∧ wx.cell? ⟨D, 1, none⟩ = some (.slice po pk pc)) ∧ (wx.cell? ⟨E, 0, none⟩ = some (.bool sn) ∧ wx.cell? ⟨E, 1, none⟩ = some (.slice so sk sc)))
    (first | exact HC.out _ (by assumption))
    (first
      | (go_at_call 53; (with_reducible refine (RSH.out _ (Ext.trans HB.out (by assumption))).mono ?_); rintro e w9 ⟨qn, qo, qk, qc, rfl, hq, hE9⟩; have st : Ext V w9 := Ext.trans (by assumption) hE9)
      | (go_at_call 52; refine (big_eq _ _ _ _ _ _ _ _ _ _ _ (by exact hp.below st) hq rfl).mono ?_; rintro e w10 ⟨rfl, hE10⟩; have st : Ext V w10 := Ext.trans (by assumption) hE10))
  clear x0 x1 p0 p1 s0 s1
  obtain ⟨⟨x0, x1⟩, ⟨p0, p1⟩, s0, s1⟩ := HC.out w10 st
  go_wp2_with fail
  refine (SG.out _ (Ext.trans HB.out st)).mono ?_
  rintro e w11 ⟨rfl, hE⟩
  have st := Ext.trans st hE
  clear hE x0 x1 p0 p1 s0 s1
  obtain ⟨⟨x0, x1⟩, ⟨p0, p1⟩, s0, s1⟩ := HC.out w11 st
  go_wp2_with fail
  refine (ZB.out _ _ _ _ _ (hs.below st)).mono ?_
  rintro e w12 ⟨rfl, hE⟩
  have st := Ext.trans st hE
  clear hE x0 x1 p0 p1 s0 s1
  obtain ⟨⟨x0, x1⟩, ⟨p0, p1⟩, s0, s1⟩ := HC.out w12 st
  go_wp2_with fail
  refine (AW.out _).mono ?_
  rintro e w13 ⟨rfl, hE⟩
  have EX := Lib.hid (Ext.trans HB.out (Ext.trans st hE))
  go_wp2
  go_ret
  exact ⟨rfl, EX.out⟩

set_option maxRecDepth 100000 in
set_option maxHeartbeats 8000000 in
theorem ibits_nearP (nb : Bool) (ao : Option Addr) (n ca : Nat) (x i : Int) (w : World) (hg : Bg w nb ao n ca x) (hbl : blen x.natAbs ≤ 900000) (hn : n ≤ 40) (hi : -1048576 ≤ i ∧ i ≤ 1048576) (hx : 0 ≤ x) (hT : Table w) :
    Calls Tryz.prog 6 #[.agg #[.bool nb, .slice ao n ca], .int .i64 i] w fun e w' => e = .returned (.bool true) ∧ Ext w w' := by
  have hbl : blen x.natAbs ≤ 1000000 := by omega
  have SL := Lib.hid (fun W => slim_yes nb ao n ca 40 W hn)
  have CSH := Lib.hid (fun W (hE : Ext w W) => shift_at nb ao n ca x i W (hg.below hE) hi (hT.below hE))
  have RSH := Lib.hid (fun W (hE : Ext w W) => refShift_at nb ao n ca x i W (hg.below hE) hbl hi)
  obtain ⟨r, hr1, hr2⟩ := root_ex x.natAbs
  have CSQ : ∀ W, Ext w W → Calls Tryz.prog 47 #[.agg #[.bool nb, .slice ao n ca]] W fun e w' => ∃ nr ro k cr, e = .returned (.tuple #[.agg #[.bool nr, .slice ro k cr], .int .i64 0]) ∧ Bn w' nr ro k cr (r : Int) ∧ Ext W w' := fun W hE =>
    (sqrt_any nb ao n ca x W (hg.below hE) (by omega) hx).mono fun e w' ⟨nr, ro, k, cr, s, h1, h2, h3, h4, h5⟩ => ⟨nr, ro, k, cr, h1, by rw [root_unique hr1 hr2 h3 h4]; exact h2, h5⟩
  have RSQ : ∀ W, Ext w W → Calls Tryz.prog 55 #[.agg #[.bool nb, .slice ao n ca]] W fun e w' => ∃ nr ro k cr, e = .returned (.agg #[.bool nr, .slice ro k cr]) ∧ Bn w' nr ro k cr (r : Int) ∧ Ext W w' := fun W hE => by
    have hgx : Bg W nb ao n ca ((x.natAbs : Nat) : Int) := by rw [show ((x.natAbs : Nat) : Int) = x by omega]; exact hg.below hE
    exact (refSqrt_any nb ao n ca x.natAbs W hgx (by omega) (by omega)).mono fun e w' ⟨nr, ro, k, cr, s, h1, h2, h3, h4, h5⟩ => ⟨nr, ro, k, cr, h1, by rw [root_unique hr1 hr2 h3 h4]; exact h2, h5⟩
  have CSQ := Lib.hid CSQ
  have RSQ := Lib.hid RSQ
  have BL := Lib.hid (fun W (hE : Ext w W) => bitLenOut_any nb ao n ca x W (hg.below hE))
  have RBL := Lib.hid (fun W (hE : Ext w W) => refBitLen_any nb ao n ca x W (hg.below hE))
  have TZ : ∀ W, Ext w W → Calls Tryz.prog 50 #[.agg #[.bool nb, .slice ao n ca]] W fun e w' => e = .returned (.int .i64 (tzf x.natAbs)) ∧ Ext W w' := fun W hE =>
    (trailingZerosOut_any nb ao n ca x W (hg.below hE) (hT.below hE)).mono fun e w' ⟨t, h1, h2, h3⟩ => ⟨by rw [h1, h2.unique (tzf_isTz _)], h3⟩
  have TZ := Lib.hid TZ
  have RTZ := Lib.hid (fun W (hE : Ext w W) => refTz_any nb ao n ca x W (hg.below hE) (hT.below hE))
  have SG : ∀ W, Ext w W → Calls Tryz.prog 54 #[.agg #[.bool nb, .slice ao n ca]] W fun e w' => e = .returned (.int .i64 (sgn3 x 0)) ∧ Ext W w' := fun W hE => refSign_any nb ao n ca x W (hg.below hE)
  obtain ⟨sg, hsg⟩ : ∃ sg, sgn3 x 0 = sg := ⟨_, rfl⟩
  rw [hsg] at SG
  have SG := Lib.hid SG
  have hsg0 : decide (sg < 0) = false := by
    rw [← hsg]; unfold sgn3
    rw [if_neg (by omega)]; split <;> rfl
  have AW := Lib.hid (fun W => awake_any W)
  have ZB := Lib.hid (fun (a1 : Bool) (a2 : Option Addr) (a3 a4 : Nat) (W : World) (h : Bn W a1 a2 a3 a4 0) => zero_big a1 a2 a3 a4 W h)
  clear hg hbl hn hx hT hsg hr1 hr2
  generalize blen x.natAbs = bl at *
  generalize tzf x.natAbs = tz at *
  have h1 : ¬ i < -1048576 := by omega
  have h2 : ¬ i > 1048576 := by omega
  clear hi
  go_enter Tryz.func6, Tryz.ntmps6
  go_upto_region 1 with fail
  obtain ⟨W, hW, hB, hx, -⟩ := box_new w nb ao n ca
  rw [← hW]
  clear hW
  have HB := Lib.hid (show Ext w W from hB)
  generalize w.heap.size = B at hx ⊢
  clear hB
  have x0 := hx.c0
  have x1 := hx.c1
  go_wp2_with fail
  refine (SL.out _).mono ?_
  rintro e w1 ⟨rfl, hE⟩
  have hx := hx.below hE
  have HB := Lib.hid (Ext.trans HB.out hE)
  clear x0 x1 hE
  have x0 := hx.c0
  have x1 := hx.c1
  go_wp2_with fail
  refine (CSH.out _ HB.out).mono ?_
  rintro e w2 ⟨pn, po, pk, pc, rfl, hp, hE⟩
  have hx := hx.below hE
  have HB := Lib.hid (Ext.trans HB.out hE)
  clear x0 x1 hE
  go_upto_region 4 with fail
  obtain ⟨W3, hW3, hE, hp3, -⟩ := box_new w2 pn po pk pc
  rw [← hW3]
  clear hW3
  have hx := hx.below hE
  have hp := hp.below hE
  have HB := Lib.hid (Ext.trans HB.out hE)
  generalize w2.heap.size = D at hp3 ⊢
  clear hE
  have x0 := hx.c0
  have x1 := hx.c1
  go_wp2_with fail
  refine (CSQ.out _ HB.out).mono ?_
  rintro e w4 ⟨sn, so, sk, sc, rfl, hs, hE⟩
  have hx := hx.below hE
  have hp := hp.below hE
  have hp3 := hp3.below hE
  have HB := Lib.hid (Ext.trans HB.out hE)
  clear x0 x1 hE
  go_upto_region 5 with fail
  obtain ⟨V, hV, hE, hs5, -⟩ := box_new w4 sn so sk sc
  rw [← hV]
  clear hV
  have hx := hx.below hE
  have hp := hp.below hE
  have hp3 := hp3.below hE
  have hs := hs.below hE
  have HB := Lib.hid (Ext.trans HB.out hE)
  generalize w4.heap.size = E at hs5 ⊢
  clear hE
  have HC := Lib.hid (show ∀ wx, Ext V wx → (wx.cell? ⟨B, 0, none⟩ = some (.bool nb) ∧ wx.cell? ⟨B, 1, none⟩ = some (.slice ao n ca)) ∧ (wx.cell? ⟨D, 0, none⟩ = some (.bool pn) ∧ wx.cell? ⟨D, 1, none⟩ = some (.slice po pk pc)) ∧ (wx.cell? ⟨E, 0, none⟩ = some (.bool sn) ∧ wx.cell? ⟨E, 1, none⟩ = some (.slice so sk sc)) from fun wx h => ⟨⟨(hx.below h).c0, (hx.below h).c1⟩, ⟨(hp3.below h).c0, (hp3.below h).c1⟩, (hs5.below h).c0, (hs5.below h).c1⟩)
  have st : Ext V V.drew := (Below.refl _ _).drew
  obtain ⟨⟨x0, x1⟩, ⟨p0, p1⟩, s0, s1⟩ := HC.out V (Ext.refl V)
  clear hx hp3 hs5
  go_region_held3 (fun wx => (wx.cell? ⟨B, 0, none⟩ = some (.bool nb) ∧ wx.cell? ⟨B, 1, none⟩ = some (.slice ao n ca)) ∧ (wx.cell? ⟨D, 0, none⟩ = some (.bool pn) ∧ wx.cell? ⟨D, 1, none⟩ = some (.slice po pk pc)) ∧ (wx.cell? ⟨E, 0, none⟩ = some (.bool sn) ∧ wx.cell? ⟨E, 1, none⟩ = some (.slice so sk sc)))
    (first | exact HC.out _ (by assumption))
    (first
      | (go_at_call 48; (with_reducible refine (BL.out _ (Ext.trans HB.out (by assumption))).mono ?_); rintro e w5 ⟨rfl, hE5⟩; have st : Ext V w5 := Ext.trans (by assumption) hE5)
      | (go_at_call 49; (with_reducible refine (RBL.out _ (Ext.trans HB.out (by assumption))).mono ?_); rintro e w6 ⟨rfl, hE6⟩; have st : Ext V w6 := Ext.trans (by assumption) hE6)
      | (go_at_call 50; (with_reducible refine (TZ.out _ (Ext.trans HB.out (by assumption))).mono ?_); rintro e w7 ⟨rfl, hE7⟩; have st : Ext V w7 := Ext.trans (by assumption) hE7)
      | (go_at_call 51; (with_reducible refine (RTZ.out _ (Ext.trans HB.out (by assumption))).mono ?_); rintro e w8 ⟨rfl, hE8⟩; have st : Ext V w8 := Ext.trans (by assumption) hE8))
  clear x0 x1 p0 p1 s0 s1
  obtain ⟨⟨x0, x1⟩, ⟨p0, p1⟩, s0, s1⟩ := HC.out w8 st
  go_upto_region 10 with fail
  have stA := st
  have st : Ext V w8.drew := Ext.trans stA (Below.refl _ _).drew
  go_region_held3 (fun wx => (wx.cell? ⟨B, 0, none⟩ = some (.bool nb) ∧ wx.cell? ⟨B, 1, none⟩ = some (.slice ao n ca)) ∧ (wx.cell? ⟨D, 0, none⟩ = some (.bool pn) ∧ wx.cell? ⟨D, 1, none⟩ = some (.slice po pk pc)) ∧ (wx.cell? ⟨E, 0, none⟩ = some (.bool sn) ∧ wx.cell? ⟨E, 1, none⟩ = some (.slice so sk sc)))
    (first | exact HC.out _ (by assumption))
    (first
      | (go_at_call 53; (with_reducible refine (RSH.out _ (Ext.trans HB.out (by assumption))).mono ?_); rintro e w9 ⟨qn, qo, qk, qc, rfl, hq, hE9⟩; have st : Ext V w9 := Ext.trans (by assumption) hE9)
      | (go_at_call 52; refine (big_eq _ _ _ _ _ _ _ _ _ _ _ (by exact hp.below st) hq rfl).mono ?_; rintro e w10 ⟨rfl, hE10⟩; have st : Ext V w10 := Ext.trans (by assumption) hE10))
  clear x0 x1 p0 p1 s0 s1
  obtain ⟨⟨x0, x1⟩, ⟨p0, p1⟩, s0, s1⟩ := HC.out w10 st
  go_wp2_with fail
  refine (SG.out _ (Ext.trans HB.out st)).mono ?_
  rintro e w11 ⟨rfl, hE⟩
  have st := Ext.trans st hE
  clear hE x0 x1 p0 p1 s0 s1
  obtain ⟨⟨x0, x1⟩, ⟨p0, p1⟩, s0, s1⟩ := HC.out w11 st
  go_upto_region 14 with fail
  have stB := st
  have st : Ext V w11.drew := Ext.trans stB (Below.refl _ _).drew
  go_region_held3 (fun wx => (wx.cell? ⟨B, 0, none⟩ = some (.bool nb) ∧ wx.cell? ⟨B, 1, none⟩ = some (.slice ao n ca)) ∧ (wx.cell? ⟨D, 0, none⟩ = some (.bool pn) ∧ wx.cell? ⟨D, 1, none⟩ = some (.slice po pk pc)) ∧ (wx.cell? ⟨E, 0, none⟩ = some (.bool sn) ∧ wx.cell? ⟨E, 1, none⟩ = some (.slice so sk sc)))
    (first | exact HC.out _ (by assumption))
    (first
      | (go_at_call 55; (with_reducible refine (RSQ.out _ (Ext.trans HB.out (by assumption))).mono ?_); rintro e w12 ⟨qn, qo, qk, qc, rfl, hq, hE12⟩; have st : Ext V w12 := Ext.trans (by assumption) hE12)
      | (go_at_call 52; refine (big_eq _ _ _ _ _ _ _ _ _ _ _ (by exact hs.below st) hq rfl).mono ?_; rintro e w13 ⟨rfl, hE13⟩; have st : Ext V w13 := Ext.trans (by assumption) hE13)
      | (go_at_call 45; refine (AW.out _).mono ?_; rintro e w14 ⟨rfl, hE14⟩; have st : Ext V w14 := Ext.trans (by assumption) hE14))
  have EX := Lib.hid (Ext.trans HB.out st)
  go_wp2
  go_ret
  exact ⟨rfl, EX.out⟩

set_option maxRecDepth 100000 in
set_option maxHeartbeats 2000000 in
theorem ibits_no (nb : Bool) (ao : Option Addr) (n ca : Nat) (i : Int) (w : World) (hn : ¬ n ≤ 40) :
    Calls Tryz.prog 6 #[.agg #[.bool nb, .slice ao n ca], .int .i64 i] w fun e w' => e = .returned (.bool true) ∧ Ext w w' := by
  have SL := Lib.hid (fun W => slim_no nb ao n ca 40 W hn)
  go_enter Tryz.func6, Tryz.ntmps6
  go_upto_region 1 with fail
  obtain ⟨W, hW, hB, hx, -⟩ := box_new w nb ao n ca
  rw [← hW]
  clear hW
  have HB := Lib.hid (show Ext w W from hB)
  generalize w.heap.size = B at hx ⊢
  clear hB
  have x0 := hx.c0
  have x1 := hx.c1
  go_wp2_with fail
  refine (SL.out _).mono ?_
  rintro e w1 ⟨rfl, hE⟩
  have HB := Lib.hid (Ext.trans HB.out hE)
  clear x0 x1 hE hx
  go_wp2_with fail
  refine (awake_any _).mono ?_
  rintro e w2 ⟨rfl, hE⟩
  have HB := Lib.hid (Ext.trans HB.out hE)
  go_wp2
  go_ret
  exact ⟨rfl, HB.out⟩

theorem ibits_any (nb : Bool) (ao : Option Addr) (n ca : Nat) (i : Int) (w : World) (hr : n ≤ 1099511627776 → ∃ zs, Sl w ao n ca zs) (hT : Table w) :
    Calls Tryz.prog 6 #[.agg #[.bool nb, .slice ao n ca], .int .i64 i] w fun e w' => e = .returned (.bool true) ∧ Ext w w' := by
  by_cases h : n ≤ 40
  · obtain ⟨zs, hz⟩ := hr (by omega)
    have hg : Bg w nb ao n ca (sgd nb zs) := ⟨⟨zs, hz, rfl⟩, by omega⟩
    have hb : blen (sgd nb zs).natAbs ≤ 900000 := by
      rw [sgd_natAbs hz.wf]
      have h1 := num_lt hz.wf
      rw [hz.len] at h1
      have h2 : (num zs).toNat < 4294967296 ^ n := by
        have h3 : ((4294967296 ^ n : Nat) : Int) = 4294967296 ^ n := by rw [Int.natCast_pow]; rfl
        have := num_nonneg hz.wf
        omega
      have := blen_limbs h2
      omega
    by_cases h1 : -1048576 ≤ i ∧ i ≤ 1048576
    · by_cases h2 : sgd nb zs < 0
      · exact ibits_nearN nb ao n ca _ i w hg hb h h1 h2 hT
      · exact ibits_nearP nb ao n ca _ i w hg hb h h1 (by omega) hT
    · by_cases h2 : sgd nb zs < 0
      · exact ibits_farN nb ao n ca _ i w hg hb h (by omega) h2 hT
      · exact ibits_farP nb ao n ca _ i w hg hb h (by omega) (by omega) hT
  · exact ibits_no nb ao n ca i w h
end Go.Proofs.YtjohpdobnedilaaGreatDoor
