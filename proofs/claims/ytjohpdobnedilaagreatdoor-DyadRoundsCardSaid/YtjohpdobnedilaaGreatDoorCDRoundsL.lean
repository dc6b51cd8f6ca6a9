/- DyadRounds returns true. -/
import Derived.Test.YtjohpdobnedilaaGreatDoorIe
import Derived.Test.YtjohpdobnedilaaGreatDoorCDSqrtFar
import Derived.Test.YtjohpdobnedilaaGreatDoorCRefDRound
import Derived.Test.YtjohpdobnedilaaGreatDoorCRefDQuo
import Derived.Test.YtjohpdobnedilaaGreatDoorCRefDSqrt
namespace Go.Proofs.YtjohpdobnedilaaGreatDoor
open Go.RowKit

theorem raw_below {w W : World} {bb nb : Bool} {ao : Option Addr} {n ca : Nat} {f : Int} (ha : RawD w bb nb ao n ca f) (hB : Below w.heap.size w W) : RawD W bb nb ao n ca f := ⟨ha.1, ha.2.1, fun h => by obtain ⟨zs, hs⟩ := ha.2.2 h; exact ⟨zs, hs.below hB⟩⟩

set_option maxRecDepth 100000 in
set_option maxHeartbeats 20000000 in
theorem drounds_any (ab an : Bool) (ao : Option Addr) (ak ac : Nat) (ae : Int) (bb bn : Bool) (bo : Option Addr) (bk bc : Nat) (be p mode : Int) (w : World) (ha : RawD w ab an ao ak ac ae) (hb : RawD w bb bn bo bk bc be) (hT : Table w) :
    Calls Tryz.prog 5 #[.agg #[.bool ab, .bool an, .slice ao ak ac, .int .i64 ae], .agg #[.bool bb, .bool bn, .slice bo bk bc, .int .i64 be], .int .i64 p, .int .i64 mode] w fun e w' => e = .returned (.bool true) ∧ Ext w w' := by
  go_enter Tryz.func5, Tryz.ntmps5
  go_upto_region 1 with fail
  obtain ⟨W, hW, hB, hx, hy, hz⟩ := boxes_two_d w ab an ao ak ac ae bb bn bo bk bc be
  rw [← hW]
  clear hW
  have ha := raw_below ha hB
  have hb := raw_below hb hB
  have HT := Lib.hid (hT.below hB)
  have HB := Lib.hid (show Ext w W from hB)
  have EX := Lib.hid (Ext.refl W)
  clear hB hT
  generalize w.heap.size = B at *
  have hcells : ∀ wx, Ext W wx → (wx.cell? ⟨B, 0, none⟩ = some (.bool ab) ∧ wx.cell? ⟨B, 1, none⟩ = some (.bool an) ∧ wx.cell? ⟨B, 2, none⟩ = some (.slice ao ak ac) ∧ wx.cell? ⟨B, 3, none⟩ = some (.int .i64 ae)) ∧ (wx.cell? ⟨(B + 1), 0, none⟩ = some (.bool bb) ∧ wx.cell? ⟨(B + 1), 1, none⟩ = some (.bool bn) ∧ wx.cell? ⟨(B + 1), 2, none⟩ = some (.slice bo bk bc) ∧ wx.cell? ⟨(B + 1), 3, none⟩ = some (.int .i64 be)) := fun wx h =>
    ⟨⟨(hx.ext h).c0, (hx.ext h).c1, (hx.ext h).c2, (hx.ext h).c3⟩, ⟨(hy.ext h).c0, (hy.ext h).c1, (hy.ext h).c2, (hy.ext h).c3⟩⟩
  have HC := Lib.hid hcells; clear hcells
  obtain ⟨⟨a0, a1, a2, a3⟩, b0, b1, b2, b3⟩ := HC.out W (Ext.refl _)
  clear hx hy
  cases sa : slimSays ak ae 20 2000 with
  | false =>
    have CA := Lib.hid (fun w => dslim_at ab an ao ak ac ae w false sa)
    clear sa ha hb
    go_wp2_with fail
    refine (CA.out _).mono ?_
    rintro e w1 ⟨rfl, hE⟩
    clear a0 a1 a2 a3 b0 b1 b2 b3
    have EX := Lib.hid (Ext.trans EX.out hE)
    clear hE
    go_wp2_with fail
    refine (dawake_any _ (HT.out.below EX.out)).mono ?_
    rintro e wz ⟨rfl, hE⟩
    go_wp2
    go_ret
    exact ⟨rfl, HB.out.trans (Ext.trans EX.out hE)⟩
  | true =>
    have CA := Lib.hid (fun w => dslim_at ab an ao ak ac ae w true sa)
    obtain ⟨d, hda, hqa⟩ := ha.slim sa
    have HDA := Lib.hid (fun wx (h : Ext W wx) => hda.ext h)
    clear sa ha hda hqa
    cases sb : slimSays bk be 20 2000 with
    | false =>
      have CB := Lib.hid (fun w => dslim_at bb bn bo bk bc be w false sb)
      clear sb hb
      go_wp2_with fail
      refine (CA.out _).mono ?_
      rintro e w1 ⟨rfl, hE⟩
      clear a0 a1 a2 a3 b0 b1 b2 b3
      have EX := Lib.hid (Ext.trans EX.out hE)
      clear hE
      obtain ⟨⟨a0, a1, a2, a3⟩, b0, b1, b2, b3⟩ := HC.out _ EX.out
      go_wp2_with fail
      refine (CB.out _).mono ?_
      rintro e w2 ⟨rfl, hE⟩
      clear a0 a1 a2 a3 b0 b1 b2 b3
      have EX := Lib.hid (Ext.trans EX.out hE)
      clear hE
      go_wp2_with fail
      refine (dawake_any _ (HT.out.below EX.out)).mono ?_
      rintro e wz ⟨rfl, hE⟩
      go_wp2
      go_ret
      exact ⟨rfl, HB.out.trans (Ext.trans EX.out hE)⟩
    | true =>
      have CB := Lib.hid (fun w => dslim_at bb bn bo bk bc be w true sb)
      obtain ⟨d', hdb, hqb⟩ := hb.slim sb
      have HDB := Lib.hid (fun wx (h : Ext W wx) => hdb.ext h)
      clear sb hb hdb hqb
      have CR1 := Lib.hid (fun wx (h : Ext W wx) => dround_any (.agg #[.bool ab, .bool an, .slice ao ak ac, .int .i64 ae]) d p mode wx (HDA.out wx h).dg (HT.out.below h))
      have CR2 := Lib.hid (fun wx (h : Ext W wx) => ref_dround_any (.agg #[.bool ab, .bool an, .slice ao ak ac, .int .i64 ae]) d p mode wx (HDA.out wx h) (HT.out.below h))
      have CQ1 := Lib.hid (fun wx (h : Ext W wx) => dquo_any (.agg #[.bool ab, .bool an, .slice ao ak ac, .int .i64 ae]) (.agg #[.bool bb, .bool bn, .slice bo bk bc, .int .i64 be]) d d' p mode wx (HDA.out wx h).dg (HDB.out wx h).dg (HT.out.below h))
      have CQ2 := Lib.hid (fun wx (h : Ext W wx) => ref_dquo_any (.agg #[.bool ab, .bool an, .slice ao ak ac, .int .i64 ae]) (.agg #[.bool bb, .bool bn, .slice bo bk bc, .int .i64 be]) d d' p mode wx (HDA.out wx h) (HDB.out wx h) (HT.out.below h))
      have CS2 := Lib.hid (fun wx (h : Ext W wx) => ref_dsqrt_any (.agg #[.bool ab, .bool an, .slice ao ak ac, .int .i64 ae]) d p mode wx (HDA.out wx h) (HT.out.below h))
      have AW := Lib.hid (fun wx (h : Ext W wx) => dawake_any wx (HT.out.below h))
      by_cases h1 : p > 300
      · by_cases h2 : p ≤ 4096
        · go_wp2_with fail
          refine (CA.out _).mono ?_
          rintro e w1 ⟨rfl, hE⟩
          clear a0 a1 a2 a3 b0 b1 b2 b3
          have EX := Lib.hid (Ext.trans EX.out hE)
          clear hE
          obtain ⟨⟨a0, a1, a2, a3⟩, b0, b1, b2, b3⟩ := HC.out _ EX.out
          go_wp2_with fail
          refine (CB.out _).mono ?_
          rintro e w2 ⟨rfl, hE⟩
          clear a0 a1 a2 a3 b0 b1 b2 b3
          have EX := Lib.hid (Ext.trans EX.out hE)
          clear hE
          go_wp2_with fail
          refine (dawake_any _ (HT.out.below EX.out)).mono ?_
          rintro e wz ⟨rfl, hE⟩
          go_wp2
          go_ret
          exact ⟨rfl, HB.out.trans (Ext.trans EX.out hE)⟩
          
        · have CS1 := Lib.hid (fun wx (h : Ext W wx) => dsqrt_far (.agg #[.bool ab, .bool an, .slice ao ak ac, .int .i64 ae]) d p mode wx (HDA.out wx h).dg (by omega) (HT.out.below h))
          go_wp2_with fail
          refine (CA.out _).mono ?_
          rintro e w1 ⟨rfl, hE⟩
          clear a0 a1 a2 a3 b0 b1 b2 b3
          have EX := Lib.hid (Ext.trans EX.out hE)
          clear hE
          obtain ⟨⟨a0, a1, a2, a3⟩, b0, b1, b2, b3⟩ := HC.out _ EX.out
          go_wp2_with fail
          refine (CB.out _).mono ?_
          rintro e w2 ⟨rfl, hE⟩
          clear a0 a1 a2 a3 b0 b1 b2 b3
          have EX := Lib.hid (Ext.trans EX.out hE)
          clear hE
          obtain ⟨⟨a0, a1, a2, a3⟩, b0, b1, b2, b3⟩ := HC.out _ EX.out
          go_upto_region 3 with fail
          have stB := EX.out
          have st : Ext W w2.drew := Ext.trans stB (Below.refl _ _).drew
          go_region_held3 (fun wx => (wx.cell? ⟨B, 0, none⟩ = some (.bool ab) ∧ wx.cell? ⟨B, 1, none⟩ = some (.bool an) ∧ wx.cell? ⟨B, 2, none⟩ = some (.slice ao ak ac) ∧ wx.cell? ⟨B, 3, none⟩ = some (.int .i64 ae)) ∧ (wx.cell? ⟨(B + 1), 0, none⟩ = some (.bool bb) ∧ wx.cell? ⟨(B + 1), 1, none⟩ = some (.bool bn) ∧ wx.cell? ⟨(B + 1), 2, none⟩ = some (.slice bo bk bc) ∧ wx.cell? ⟨(B + 1), 3, none⟩ = some (.int .i64 be)))
            (first | exact HC.out _ (by assumption))
            (first
              | (go_at_call 38; (with_reducible refine (CR1.out _ (by assumption)).mono ?_); rintro e x1 ⟨r1, rfl, g1, hE1⟩; have st : Ext W x1 := Ext.trans (by assumption) hE1)
              | (go_at_call 39; (with_reducible refine (CR2.out _ (by assumption)).mono ?_); rintro e x2 ⟨r2, rfl, g2, hE2⟩; have st : Ext W x2 := Ext.trans (by assumption) hE2; have g1 := g1.ext hE2)
              | (go_at_call 24; (with_reducible refine (kitDyad_same _ _ _ _ g1 g2).mono ?_); rintro e x3 ⟨rfl, hE3⟩; have st : Ext W x3 := Ext.trans (by assumption) hE3)
              | (go_at_call 40; (with_reducible refine (CQ1.out _ (by assumption)).mono ?_); rintro e x4 ⟨r3, rfl, g3, hE4⟩; have st : Ext W x4 := Ext.trans (by assumption) hE4)
              | (go_at_call 41; (with_reducible refine (CQ2.out _ (by assumption)).mono ?_); rintro e x5 ⟨r4, rfl, g4, hE5⟩; have st : Ext W x5 := Ext.trans (by assumption) hE5; have g3 := g3.ext hE5)
              | (go_at_call 24; (with_reducible refine (kitDyad_same _ _ _ _ g3 g4).mono ?_); rintro e x6 ⟨rfl, hE6⟩; have st : Ext W x6 := Ext.trans (by assumption) hE6)
              | (go_at_call 42; (with_reducible refine (CS1.out _ (by assumption)).mono ?_); rintro e x7 ⟨r5, rfl, g5, hE7⟩; have st : Ext W x7 := Ext.trans (by assumption) hE7)
              | (go_at_call 43; (with_reducible refine (CS2.out _ (by assumption)).mono ?_); rintro e x8 ⟨r6, rfl, g6, hE8⟩; have st : Ext W x8 := Ext.trans (by assumption) hE8; have g5 := g5.ext hE8)
              | (go_at_call 24; (with_reducible refine (kitDyad_same _ _ _ _ g5 g6).mono ?_); rintro e x9 ⟨rfl, hE9⟩; have st : Ext W x9 := Ext.trans (by assumption) hE9)
              | (go_at_call 37; (with_reducible refine (AW.out _ (by assumption)).mono ?_); rintro e xz ⟨rfl, hEz⟩; have st : Ext W xz := Ext.trans (by assumption) hEz))
          have EX := Lib.hid (Ext.trans HB.out st)
          go_wp2
          go_ret
          exact ⟨rfl, EX.out⟩
      · have CS1 := Lib.hid (fun wx (h : Ext W wx) => dsqrt_any (.agg #[.bool ab, .bool an, .slice ao ak ac, .int .i64 ae]) d p mode wx (HDA.out wx h).dg (by omega) (HT.out.below h))
        go_wp2_with fail
        refine (CA.out _).mono ?_
        rintro e w1 ⟨rfl, hE⟩
        clear a0 a1 a2 a3 b0 b1 b2 b3
        have EX := Lib.hid (Ext.trans EX.out hE)
        clear hE
        obtain ⟨⟨a0, a1, a2, a3⟩, b0, b1, b2, b3⟩ := HC.out _ EX.out
        go_wp2_with fail
        refine (CB.out _).mono ?_
        rintro e w2 ⟨rfl, hE⟩
        clear a0 a1 a2 a3 b0 b1 b2 b3
        have EX := Lib.hid (Ext.trans EX.out hE)
        clear hE
        obtain ⟨⟨a0, a1, a2, a3⟩, b0, b1, b2, b3⟩ := HC.out _ EX.out
        go_upto_region 3 with fail
        have stB := EX.out
        have st : Ext W w2.drew := Ext.trans stB (Below.refl _ _).drew
        go_region_held3 (fun wx => (wx.cell? ⟨B, 0, none⟩ = some (.bool ab) ∧ wx.cell? ⟨B, 1, none⟩ = some (.bool an) ∧ wx.cell? ⟨B, 2, none⟩ = some (.slice ao ak ac) ∧ wx.cell? ⟨B, 3, none⟩ = some (.int .i64 ae)) ∧ (wx.cell? ⟨(B + 1), 0, none⟩ = some (.bool bb) ∧ wx.cell? ⟨(B + 1), 1, none⟩ = some (.bool bn) ∧ wx.cell? ⟨(B + 1), 2, none⟩ = some (.slice bo bk bc) ∧ wx.cell? ⟨(B + 1), 3, none⟩ = some (.int .i64 be)))
          (first | exact HC.out _ (by assumption))
          (first
            | (go_at_call 38; (with_reducible refine (CR1.out _ (by assumption)).mono ?_); rintro e x1 ⟨r1, rfl, g1, hE1⟩; have st : Ext W x1 := Ext.trans (by assumption) hE1)
            | (go_at_call 39; (with_reducible refine (CR2.out _ (by assumption)).mono ?_); rintro e x2 ⟨r2, rfl, g2, hE2⟩; have st : Ext W x2 := Ext.trans (by assumption) hE2; have g1 := g1.ext hE2)
            | (go_at_call 24; (with_reducible refine (kitDyad_same _ _ _ _ g1 g2).mono ?_); rintro e x3 ⟨rfl, hE3⟩; have st : Ext W x3 := Ext.trans (by assumption) hE3)
            | (go_at_call 40; (with_reducible refine (CQ1.out _ (by assumption)).mono ?_); rintro e x4 ⟨r3, rfl, g3, hE4⟩; have st : Ext W x4 := Ext.trans (by assumption) hE4)
            | (go_at_call 41; (with_reducible refine (CQ2.out _ (by assumption)).mono ?_); rintro e x5 ⟨r4, rfl, g4, hE5⟩; have st : Ext W x5 := Ext.trans (by assumption) hE5; have g3 := g3.ext hE5)
            | (go_at_call 24; (with_reducible refine (kitDyad_same _ _ _ _ g3 g4).mono ?_); rintro e x6 ⟨rfl, hE6⟩; have st : Ext W x6 := Ext.trans (by assumption) hE6)
            | (go_at_call 42; (with_reducible refine (CS1.out _ (by assumption)).mono ?_); rintro e x7 ⟨r5, rfl, g5, hE7⟩; have st : Ext W x7 := Ext.trans (by assumption) hE7)
            | (go_at_call 43; (with_reducible refine (CS2.out _ (by assumption)).mono ?_); rintro e x8 ⟨r6, rfl, g6, hE8⟩; have st : Ext W x8 := Ext.trans (by assumption) hE8; have g5 := g5.ext hE8)
            | (go_at_call 24; (with_reducible refine (kitDyad_same _ _ _ _ g5 g6).mono ?_); rintro e x9 ⟨rfl, hE9⟩; have st : Ext W x9 := Ext.trans (by assumption) hE9)
            | (go_at_call 37; (with_reducible refine (AW.out _ (by assumption)).mono ?_); rintro e xz ⟨rfl, hEz⟩; have st : Ext W xz := Ext.trans (by assumption) hEz))
        have EX := Lib.hid (Ext.trans HB.out st)
        go_wp2
        go_ret
        exact ⟨rfl, EX.out⟩
end Go.Proofs.YtjohpdobnedilaaGreatDoor
