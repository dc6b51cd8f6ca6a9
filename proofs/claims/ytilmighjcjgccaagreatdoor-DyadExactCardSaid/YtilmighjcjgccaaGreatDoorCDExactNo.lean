/- DyadExact returns true: every case. -/
import Derived.Test.YtilmighjcjgccaaGreatDoorCDExact
namespace Go.Proofs.YtilmighjcjgccaaGreatDoor
open Go.RowKit

set_option maxRecDepth 100000 in
set_option maxHeartbeats 4000000 in
theorem dexact_no1 (ab an : Bool) (ao : Option Addr) (ak ac : Nat) (ae : Int) (bb bn : Bool) (bo : Option Addr) (bk bc : Nat) (be : Int) (i : Int) (w : World) (sa : slimSays ak ae 20 2000 = false) (hT : Table w) :
    Calls Tryz.prog 3 #[.agg #[.bool ab, .bool an, .slice ao ak ac, .int .i64 ae], .agg #[.bool bb, .bool bn, .slice bo bk bc, .int .i64 be], .int .i64 i] w fun e w' => e = .returned (.bool true) ∧ Ext w w' := by
  go_enter Tryz.func3, Tryz.ntmps3
  go_upto_region 1 with fail
  obtain ⟨W, hW, hB, hx, hy, hsz⟩ := boxes_two_d w ab an ao ak ac ae bb bn bo bk bc be
  rw [← hW]
  clear hW
  have HTW := Lib.hid (hT.below hB)
  have HB := Lib.hid (show Ext w W from hB)
  clear hB hT
  generalize w.heap.size = B at *
  have hcells : ∀ wx, Ext W wx → (wx.cell? ⟨B, 0, none⟩ = some (.bool ab) ∧ wx.cell? ⟨B, 1, none⟩ = some (.bool an) ∧ wx.cell? ⟨B, 2, none⟩ = some (.slice ao ak ac) ∧ wx.cell? ⟨B, 3, none⟩ = some (.int .i64 ae)) ∧ (wx.cell? ⟨B + 1, 0, none⟩ = some (.bool bb) ∧ wx.cell? ⟨B + 1, 1, none⟩ = some (.bool bn) ∧ wx.cell? ⟨B + 1, 2, none⟩ = some (.slice bo bk bc) ∧ wx.cell? ⟨B + 1, 3, none⟩ = some (.int .i64 be)) := fun wx h =>
    ⟨⟨(hx.ext h).c0, (hx.ext h).c1, (hx.ext h).c2, (hx.ext h).c3⟩, ⟨(hy.ext h).c0, (hy.ext h).c1, (hy.ext h).c2, (hy.ext h).c3⟩⟩
  have HC := Lib.hid hcells; clear hcells
  clear hx hy
  obtain ⟨⟨a0, a1, a2, a3⟩, b0, b1, b2, b3⟩ := HC.out W (Ext.refl _)
  go_wp2_with fail
  refine (dslim_at ab an ao ak ac ae _ false sa).mono ?_
  rintro e w1 ⟨rfl, h2⟩
  go_wp2_with fail
  refine (dawake_any _ (HTW.out.below h2)).mono ?_
  rintro e w9 ⟨rfl, hw9⟩
  go_wp2
  go_ret
  exact ⟨rfl, Ext.trans HB.out (Ext.trans h2 hw9)⟩

set_option maxRecDepth 100000 in
set_option maxHeartbeats 4000000 in
theorem dexact_no2 (ab an : Bool) (ao : Option Addr) (ak ac : Nat) (ae : Int) (bb bn : Bool) (bo : Option Addr) (bk bc : Nat) (be : Int) (i : Int) (w : World) (sa : slimSays ak ae 20 2000 = true) (sb : slimSays bk be 20 2000 = false) (hT : Table w) :
    Calls Tryz.prog 3 #[.agg #[.bool ab, .bool an, .slice ao ak ac, .int .i64 ae], .agg #[.bool bb, .bool bn, .slice bo bk bc, .int .i64 be], .int .i64 i] w fun e w' => e = .returned (.bool true) ∧ Ext w w' := by
  go_enter Tryz.func3, Tryz.ntmps3
  go_upto_region 1 with fail
  obtain ⟨W, hW, hB, hx, hy, hsz⟩ := boxes_two_d w ab an ao ak ac ae bb bn bo bk bc be
  rw [← hW]
  clear hW
  have HTW := Lib.hid (hT.below hB)
  have HB := Lib.hid (show Ext w W from hB)
  clear hB hT
  generalize w.heap.size = B at *
  have hcells : ∀ wx, Ext W wx → (wx.cell? ⟨B, 0, none⟩ = some (.bool ab) ∧ wx.cell? ⟨B, 1, none⟩ = some (.bool an) ∧ wx.cell? ⟨B, 2, none⟩ = some (.slice ao ak ac) ∧ wx.cell? ⟨B, 3, none⟩ = some (.int .i64 ae)) ∧ (wx.cell? ⟨B + 1, 0, none⟩ = some (.bool bb) ∧ wx.cell? ⟨B + 1, 1, none⟩ = some (.bool bn) ∧ wx.cell? ⟨B + 1, 2, none⟩ = some (.slice bo bk bc) ∧ wx.cell? ⟨B + 1, 3, none⟩ = some (.int .i64 be)) := fun wx h =>
    ⟨⟨(hx.ext h).c0, (hx.ext h).c1, (hx.ext h).c2, (hx.ext h).c3⟩, ⟨(hy.ext h).c0, (hy.ext h).c1, (hy.ext h).c2, (hy.ext h).c3⟩⟩
  have HC := Lib.hid hcells; clear hcells
  clear hx hy
  obtain ⟨⟨a0, a1, a2, a3⟩, b0, b1, b2, b3⟩ := HC.out W (Ext.refl _)
  go_wp2_with fail
  refine (dslim_at ab an ao ak ac ae _ true sa).mono ?_
  rintro e w1 ⟨rfl, h1⟩
  clear a0 a1 a2 a3 b0 b1 b2 b3
  obtain ⟨⟨a0, a1, a2, a3⟩, b0, b1, b2, b3⟩ := HC.out w1 h1
  go_wp2_with fail
  refine (dslim_at bb bn bo bk bc be _ false sb).mono ?_
  rintro e w2 ⟨rfl, h2⟩
  have h2 := Ext.trans h1 h2
  go_wp2_with fail
  refine (dawake_any _ (HTW.out.below h2)).mono ?_
  rintro e w9 ⟨rfl, hw9⟩
  go_wp2
  go_ret
  exact ⟨rfl, Ext.trans HB.out (Ext.trans h2 hw9)⟩

set_option maxRecDepth 100000 in
set_option maxHeartbeats 4000000 in
theorem dexact_any (ab an : Bool) (ao : Option Addr) (ak ac : Nat) (ae : Int) (bb bn : Bool) (bo : Option Addr) (bk bc : Nat) (be : Int) (i : Int) (w : World) (ha : RawD w ab an ao ak ac ae) (hb : RawD w bb bn bo bk bc be) (hi : -9223372036854775808 ≤ i ∧ i ≤ 9223372036854775807) (hT : Table w) :
    Calls Tryz.prog 3 #[.agg #[.bool ab, .bool an, .slice ao ak ac, .int .i64 ae], .agg #[.bool bb, .bool bn, .slice bo bk bc, .int .i64 be], .int .i64 i] w fun e w' => e = .returned (.bool true) ∧ Ext w w' := by
  cases sa : slimSays ak ae 20 2000 with
  | false => exact dexact_no1 ab an ao ak ac ae bb bn bo bk bc be i w sa hT
  | true =>
    cases sb : slimSays bk be 20 2000 with
    | false => exact dexact_no2 ab an ao ak ac ae bb bn bo bk bc be i w sa sb hT
    | true =>
      have sa' := sa
      have sb' := sb
      unfold slimSays at sa' sb'
      simp only [decide_eq_true_eq] at sa' sb'
      obtain ⟨zs, hz⟩ := ha.2.2 (by omega)
      obtain ⟨ys, hy⟩ := hb.2.2 (by omega)
      exact dexact_yes ab an ao ak ac ae bb bn bo bk bc be i w zs ys hz hy sa sb ⟨ha.1, ha.2.1⟩ ⟨hb.1, hb.2.1⟩ hi hT
end Go.Proofs.YtilmighjcjgccaaGreatDoor
