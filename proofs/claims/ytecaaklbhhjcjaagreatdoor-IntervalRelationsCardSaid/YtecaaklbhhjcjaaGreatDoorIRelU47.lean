import Derived.Test.YtecaaklbhhjcjaaGreatDoorIRelU27
import Derived.Test.YtecaaklbhhjcjaaGreatDoorIRelU16
import Derived.Test.YtecaaklbhhjcjaaGreatDoorIRelU34
import Derived.Test.YtecaaklbhhjcjaaGreatDoorIRelU46
import Derived.Test.YtecaaklbhhjcjaaGreatDoorIRelU30
import Derived.Test.YtecaaklbhhjcjaaGreatDoorIRelU23
import Derived.Test.YtecaaklbhhjcjaaGreatDoorIRelU40
import Derived.Test.YtecaaklbhhjcjaaGreatDoorIRelU42
import Derived.Test.YtecaaklbhhjcjaaGreatDoorIRelU43
import Derived.Test.YtecaaklbhhjcjaaGreatDoorIRelU44
import Derived.Test.YtecaaklbhhjcjaaGreatDoorIRelU45
namespace Go.Proofs.YtecaaklbhhjcjaaGreatDoor
open Go.RowKit
theorem box_id2 (w : World) (lo hi : Int) (bb nb : Bool) (ao : Option Addr) (n ca : Nat) (e : Int) :
    ∃ W, W = (w.alloc (.cells #[.int .u64 lo, .int .u64 hi] 40)).alloc (.cells #[.bool bb, .bool nb, .slice ao n ca, .int .i64 e] 47) ∧ Ext w W ∧ IBox W w.heap.size lo hi ∧ DBox W (w.heap.size + 1) bb nb ao n ca e := by
  refine ⟨_, rfl, ((Below.refl _ w).alloc (Nat.le_refl _) _).alloc (by simp) _, ?_, ?_⟩
  · exact (IBox.new w lo hi).below ((Below.refl _ _).alloc (Nat.le_refl _) _)
  · have := DBox.new (w.alloc (.cells #[.int .u64 lo, .int .u64 hi] 40)) bb nb ao n ca e
    simpa using this
end Go.Proofs.YtecaaklbhhjcjaaGreatDoor

namespace Go.Proofs.YtecaaklbhhjcjaaGreatDoor
open Go.RowKit

set_option maxRecDepth 100000 in
set_option maxHeartbeats 8000000 in
theorem icontains_any (lo hi : Nat) (hl : lo < 18446744073709551616) (hh : hi < 18446744073709551616) (v : Value) (d : Dy) (b : Bool) (hb : contD lo hi d = b) (w : World) (hv : Dg w v d) (hT : Table w) :
    Calls Tryz.prog 39 #[.agg #[.int .u64 (lo : Int), .int .u64 (hi : Int)], v] w fun e w' => e = .returned (.bool b) ∧ Ext w w' := by
  obtain ⟨vb, vn, vo, vk, vc, ve, rfl⟩ := hv.parts
  obtain ⟨r1, h1⟩ : ∃ r, frdF d 1 = r := ⟨_, rfl⟩
  obtain ⟨r2, h2⟩ : ∃ r, frdF d 2 = r := ⟨_, rfl⟩
  have l1 := frdF_lt d 1
  have l2 := frdF_lt d 2
  unfold contD at hb
  rw [h1] at l1 hb
  rw [h2] at l2 hb
  have CS := Lib.hid (isubset_any r1 r2 lo hi l1 l2 hl hh b hb)
  have CD := Lib.hid (fun wx (h : Ext w wx) => frd_at (mode := 1) (hv.ext h) (hT.below h) h1)
  have CU := Lib.hid (fun wx (h : Ext w wx) => frd_at (mode := 2) (hv.ext h) (hT.below h) h2)
  clear hb h1 h2 l1 l2 hl hh hv hT
  go_enter Tryz.func39, Tryz.ntmps39
  go_upto_region 1 with fail
  obtain ⟨W, hW, hB, hx, hy⟩ := box_id2 w lo hi vb vn vo vk vc ve
  rw [← hW]
  clear hW
  have HB := Lib.hid hB
  generalize w.heap.size = B at hx hy ⊢
  clear hB
  have HC := Lib.hid (show ∀ wx, Ext W wx → (wx.cell? ⟨B, 0, none⟩ = some (.int .u64 (lo : Int)) ∧ wx.cell? ⟨B, 1, none⟩ = some (.int .u64 (hi : Int))) ∧ (wx.cell? ⟨B + 1, 0, none⟩ = some (.bool vb) ∧ wx.cell? ⟨B + 1, 1, none⟩ = some (.bool vn) ∧ wx.cell? ⟨B + 1, 2, none⟩ = some (.slice vo vk vc) ∧ wx.cell? ⟨B + 1, 3, none⟩ = some (.int .i64 ve)) from fun wx h => ⟨⟨(hx.below h).c0, (hx.below h).c1⟩, (hy.below h).c0, (hy.below h).c1, (hy.below h).c2, (hy.below h).c3⟩)
  clear hx hy
  obtain ⟨⟨a0, a1⟩, a2, a3, a4, a5⟩ := HC.out W (Ext.refl _)
  have st : Ext W W.drew := (Below.refl _ _).drew
  go_region_held3 (fun wx => (wx.cell? ⟨B, 0, none⟩ = some (.int .u64 (lo : Int)) ∧ wx.cell? ⟨B, 1, none⟩ = some (.int .u64 (hi : Int))) ∧ (wx.cell? ⟨B + 1, 0, none⟩ = some (.bool vb) ∧ wx.cell? ⟨B + 1, 1, none⟩ = some (.bool vn) ∧ wx.cell? ⟨B + 1, 2, none⟩ = some (.slice vo vk vc) ∧ wx.cell? ⟨B + 1, 3, none⟩ = some (.int .i64 ve)))
    (first | exact HC.out _ (by assumption))
    (first
      | (go_at_call 100; (with_reducible refine (CD.out _ (Ext.trans HB.out (by assumption))).mono ?_); rintro r wa ⟨rfl, hE⟩; have st : Ext W wa := Ext.trans (by assumption) hE; clear hE)
      | (go_at_call 100; (with_reducible refine (CU.out _ (Ext.trans HB.out (by assumption))).mono ?_); rintro r wa ⟨rfl, hE⟩; have st : Ext W wa := Ext.trans (by assumption) hE; clear hE)
      | (go_at_call 41; (with_reducible refine (CS.out _).mono ?_); rintro r wa ⟨rfl, hE⟩; have st : Ext W wa := Ext.trans (by assumption) hE; clear hE))
  have HF := Lib.hid (Ext.trans HB.out st)
  go_wp2
  go_ret
  exact ⟨rfl, HF.out⟩
end Go.Proofs.YtecaaklbhhjcjaaGreatDoor

namespace Go.Proofs.YtecaaklbhhjcjaaGreatDoor
open Go.RowKit

theorem ext_drewB' (w : World) : Ext w w.drew := (Below.refl _ _).drew
end Go.Proofs.YtecaaklbhhjcjaaGreatDoor

namespace Go.Proofs.YtecaaklbhhjcjaaGreatDoor
open Go.RowKit

theorem lit_facts : finB 4607182418800017408 = true ∧ plainF 4607182418800017408 = 4607182418800017408 ∧ finB 4611686018427387904 = true ∧ plainF 4611686018427387904 = 4611686018427387904 ∧ validF 4607182418800017408 4607182418800017408 = true ∧ validF 4607182418800017408 4611686018427387904 = true ∧ validF 4611686018427387904 4607182418800017408 = false ∧ subF 4607182418800017408 4607182418800017408 4607182418800017408 4611686018427387904 = true ∧ plainF (faddF 4607182418800017408 4607182418800017408 1) = 4611686018427387904 ∧ plainF (faddF 4607182418800017408 4607182418800017408 2) = 4611686018427387904 := by decide +kernel
theorem lit_mul : MulF 4607182418800017408 4607182418800017408 4607182418800017408 4611686018427387904 4607182418800017408 4611686018427387904 [4607182418800017408, 4611686018427387904, 4607182418800017408, 4611686018427387904] [4607182418800017408, 4611686018427387904, 4607182418800017408, 4611686018427387904] :=
  ⟨by decide +kernel, by decide +kernel, by decide +kernel, by decide +kernel, by decide +kernel, by decide +kernel⟩

set_option maxRecDepth 100000 in
set_option maxHeartbeats 8000000 in
theorem iawake_any (w : World) : Calls Tryz.prog 35 #[] w fun e w' => e = .returned (.bool true) ∧ Ext w w' := by
  obtain ⟨f1, f2, f3, f4, f5, f6, f7, f8, f9, f10⟩ := lit_facts
  have P1 : ∀ w, Calls Tryz.prog 17 #[.int .u64 4607182418800017408] w fun e w' => e = .returned (.agg #[.int .u64 4607182418800017408, .int .u64 4607182418800017408]) ∧ Ext w w' := point_any 4607182418800017408 (by decide) _ (by rw [f1, f2]; rfl)
  have P2 : ∀ w, Calls Tryz.prog 17 #[.int .u64 4611686018427387904] w fun e w' => e = .returned (.agg #[.int .u64 4611686018427387904, .int .u64 4611686018427387904]) ∧ Ext w w' := point_any 4611686018427387904 (by decide) _ (by rw [f3, f4]; rfl)
  have CA : ∀ w, Calls Tryz.prog 21 #[.agg #[.int .u64 4607182418800017408, .int .u64 4607182418800017408], .agg #[.int .u64 4607182418800017408, .int .u64 4607182418800017408]] w fun e w' => e = .returned (.agg #[.int .u64 4611686018427387904, .int .u64 4611686018427387904]) ∧ Ext w w' := by
    intro w
    have := iadd_yes 4607182418800017408 4607182418800017408 4607182418800017408 4607182418800017408 (by decide) (by decide) (by decide) (by decide) f5 f5 w
    rw [f9, f10] at this
    exact this
  have CM : ∀ w, Calls Tryz.prog 25 #[.agg #[.int .u64 4607182418800017408, .int .u64 4607182418800017408], .agg #[.int .u64 4607182418800017408, .int .u64 4611686018427387904]] w fun e w' => e = .returned (.agg #[.int .u64 4607182418800017408, .int .u64 4611686018427387904]) ∧ Ext w w' := imul_yes 4607182418800017408 4607182418800017408 4607182418800017408 4611686018427387904 4607182418800017408 4611686018427387904 _ _ (by decide) (by decide) (by decide) (by decide) f5 f6 lit_mul
  have V1 : ∀ w, Calls Tryz.prog 15 #[.agg #[.int .u64 4607182418800017408, .int .u64 4611686018427387904]] w fun e w' => e = .returned (.bool true) ∧ Ext w w' := ivalid_at 4607182418800017408 4611686018427387904 (by decide) (by decide) rfl rfl true f6
  have V2 : ∀ w, Calls Tryz.prog 15 #[.agg #[.int .u64 4611686018427387904, .int .u64 4607182418800017408]] w fun e w' => e = .returned (.bool false) ∧ Ext w w' := ivalid_at 4611686018427387904 4607182418800017408 (by decide) (by decide) rfl rfl false f7
  have CS : ∀ w, Calls Tryz.prog 41 #[.agg #[.int .u64 4607182418800017408, .int .u64 4607182418800017408], .agg #[.int .u64 4607182418800017408, .int .u64 4611686018427387904]] w fun e w' => e = .returned (.bool true) ∧ Ext w w' := subset_yes 4607182418800017408 4607182418800017408 4607182418800017408 4611686018427387904 (by decide) (by decide) (by decide) (by decide) f8
  have P1 := Lib.hid P1; have P2 := Lib.hid P2; have CA := Lib.hid CA; have CM := Lib.hid CM; have V1 := Lib.hid V1; have V2 := Lib.hid V2; have CS := Lib.hid CS
  clear f1 f2 f3 f4 f5 f6 f7 f8 f9 f10
  go_enter Tryz.func35, Tryz.ntmps35
  go_wp2_with fail
  refine (P1.out _).mono ?_
  rintro r w1 ⟨rfl, hE1⟩
  go_upto_region 3 with fail
  obtain ⟨W, hW, hB, hx, hy, hsz⟩ := ibox_two w1 4607182418800017408 4607182418800017408 4607182418800017408 4611686018427387904
  rw [← hW]
  clear hW
  have HB := Lib.hid (Ext.trans hE1 hB)
  generalize w1.heap.size = B at hx hy ⊢
  clear hB hsz hE1
  have HC := Lib.hid (show ∀ wx, Ext W wx → (wx.cell? ⟨B, 0, none⟩ = some (.int .u64 4607182418800017408) ∧ wx.cell? ⟨B, 1, none⟩ = some (.int .u64 4607182418800017408)) ∧ (wx.cell? ⟨B + 1, 0, none⟩ = some (.int .u64 4607182418800017408) ∧ wx.cell? ⟨B + 1, 1, none⟩ = some (.int .u64 4611686018427387904)) from fun wx h => ⟨⟨(hx.below h).c0, (hx.below h).c1⟩, (hy.below h).c0, (hy.below h).c1⟩)
  obtain ⟨⟨c0, c1⟩, c2, c3⟩ := HC.out W (Ext.refl _)
  have st : Ext W W.drew := ext_drewB' _
  go_region_held3 (fun wx => (wx.cell? ⟨B, 0, none⟩ = some (.int .u64 4607182418800017408) ∧ wx.cell? ⟨B, 1, none⟩ = some (.int .u64 4607182418800017408)) ∧ (wx.cell? ⟨B + 1, 0, none⟩ = some (.int .u64 4607182418800017408) ∧ wx.cell? ⟨B + 1, 1, none⟩ = some (.int .u64 4611686018427387904)))
    (first | exact HC.out _ (by assumption))
    (first
      | (go_at_call 21; (with_reducible refine (CA.out _).mono ?_); rintro r wn ⟨rfl, hE⟩; have st : Ext W wn := Ext.trans (by assumption) hE; clear hE)
      | (go_at_call 17; (with_reducible refine (P2.out _).mono ?_); rintro r wn ⟨rfl, hE⟩; have st : Ext W wn := Ext.trans (by assumption) hE; clear hE)
      | (go_at_call 25; (with_reducible refine (CM.out _).mono ?_); rintro r wn ⟨rfl, hE⟩; have st : Ext W wn := Ext.trans (by assumption) hE; clear hE)
      | (go_at_call 15; (with_reducible refine (V1.out _).mono ?_); rintro r wn ⟨rfl, hE⟩; have st : Ext W wn := Ext.trans (by assumption) hE; clear hE)
      | (go_at_call 15; (with_reducible refine (V2.out _).mono ?_); rintro r wn ⟨rfl, hE⟩; have st : Ext W wn := Ext.trans (by assumption) hE; clear hE)
      | (go_at_call 41; (with_reducible refine (CS.out _).mono ?_); rintro r wn ⟨rfl, hE⟩; have st : Ext W wn := Ext.trans (by assumption) hE; clear hE))
  go_wp2
  go_ret
  exact ⟨rfl, Ext.trans HB.out (by assumption)⟩

end Go.Proofs.YtecaaklbhhjcjaaGreatDoor

namespace Go.Proofs.YtecaaklbhhjcjaaGreatDoor
open Go.RowKit

theorem box_iid (w : World) (lo hi l2 h2 : Int) (bb nb : Bool) (ao : Option Addr) (n ca : Nat) (e : Int) :
    ∃ W, W = ((w.alloc (.cells #[.int .u64 lo, .int .u64 hi] 40)).alloc (.cells #[.int .u64 l2, .int .u64 h2] 40)).alloc (.cells #[.bool bb, .bool nb, .slice ao n ca, .int .i64 e] 47) ∧ Ext w W ∧ IBox W w.heap.size lo hi ∧ IBox W (w.heap.size + 1) l2 h2 ∧ DBox W (w.heap.size + 1 + 1) bb nb ao n ca e := by
  refine ⟨_, rfl, (((Below.refl _ w).alloc (Nat.le_refl _) _).alloc (by simp) _).alloc (by simp; omega) _, ?_, ?_, ?_⟩
  · exact ((IBox.new w lo hi).below ((Below.refl _ _).alloc (Nat.le_refl _) _)).below ((Below.refl _ _).alloc (Nat.le_refl _) _)
  · have := (IBox.new (w.alloc (.cells #[.int .u64 lo, .int .u64 hi] 40)) l2 h2).below ((Below.refl _ _).alloc (Nat.le_refl _) (.cells #[.bool bb, .bool nb, .slice ao n ca, .int .i64 e] 47))
    simpa using this
  · have := DBox.new ((w.alloc (.cells #[.int .u64 lo, .int .u64 hi] 40)).alloc (.cells #[.int .u64 l2, .int .u64 h2] 40)) bb nb ao n ca e
    simpa using this
/-- what both Meets return -/
theorem meets_any (a b c d : Nat) (ha : a < 18446744073709551616) (hb : b < 18446744073709551616) (hc : c < 18446744073709551616) (hd : d < 18446744073709551616) : ∃ (x y : Int) (ok : Bool), (∀ w, Calls Tryz.prog 37 #[.agg #[.int .u64 (a : Int), .int .u64 (b : Int)], .agg #[.int .u64 (c : Int), .int .u64 (d : Int)]] w fun e w' => e = .returned (.tuple #[.agg #[.int .u64 x, .int .u64 y], .bool ok]) ∧ Ext w w') ∧ (∀ w, Table w → Calls Tryz.prog 38 #[.agg #[.int .u64 (a : Int), .int .u64 (b : Int)], .agg #[.int .u64 (c : Int), .int .u64 (d : Int)]] w fun e w' => e = .returned (.tuple #[.agg #[.int .u64 x, .int .u64 y], .bool ok]) ∧ Ext w w') := by
  have no : validF a b = false ∨ validF c d = false → _ := fun h => (⟨0, 0, false, fun w => imeet_no a b c d ha hb hc hd h w 0 0, fun w _ => refMeet_no a b c d ha hb hc hd h w 0 0⟩ : ∃ (x y : Int) (ok : Bool), (∀ w, Calls Tryz.prog 37 #[.agg #[.int .u64 (a : Int), .int .u64 (b : Int)], .agg #[.int .u64 (c : Int), .int .u64 (d : Int)]] w fun e w' => e = .returned (.tuple #[.agg #[.int .u64 x, .int .u64 y], .bool ok]) ∧ Ext w w') ∧ (∀ w, Table w → Calls Tryz.prog 38 #[.agg #[.int .u64 (a : Int), .int .u64 (b : Int)], .agg #[.int .u64 (c : Int), .int .u64 (d : Int)]] w fun e w' => e = .returned (.tuple #[.agg #[.int .u64 x, .int .u64 y], .bool ok]) ∧ Ext w w'))
  cases h1 : validF a b with
  | false => exact no (Or.inl h1)
  | true =>
    cases h2 : validF c d with
    | false => exact no (Or.inr h2)
    | true =>
      cases h3 : validF (meetLo a c) (meetHi b d) with
      | false => exact ⟨0, 0, false, fun w => imeet_yes a b c d ha hb hc hd h1 h2 false h3 w, fun w hT => refMeet_yes a b c d ha hb hc hd h1 h2 false h3 w hT⟩
      | true => exact ⟨_, _, true, fun w => imeet_yes a b c d ha hb hc hd h1 h2 true h3 w, fun w hT => refMeet_yes a b c d ha hb hc hd h1 h2 true h3 w hT⟩
/-- what both say of one interval -/
theorem sizes_any (a b : Nat) (ha : a < 18446744073709551616) (hb : b < 18446744073709551616) : ∃ (x1 x2 x3 x4 : Int),
    ((∀ w, Table w → Table64 w → Calls Tryz.prog 45 #[.agg #[.int .u64 (a : Int), .int .u64 (b : Int)]] w fun e w' => e = .returned (.int .u64 x1) ∧ Ext w w') ∧ (∀ w, Table w → Calls Tryz.prog 46 #[.agg #[.int .u64 (a : Int), .int .u64 (b : Int)]] w fun e w' => e = .returned (.int .u64 x1) ∧ Ext w w')) ∧
    ((∀ w, Table w → Table64 w → Calls Tryz.prog 47 #[.agg #[.int .u64 (a : Int), .int .u64 (b : Int)]] w fun e w' => e = .returned (.int .u64 x2) ∧ Ext w w') ∧ (∀ w, Table w → Calls Tryz.prog 48 #[.agg #[.int .u64 (a : Int), .int .u64 (b : Int)]] w fun e w' => e = .returned (.int .u64 x2) ∧ Ext w w')) ∧
    ((∀ w, Calls Tryz.prog 49 #[.agg #[.int .u64 (a : Int), .int .u64 (b : Int)]] w fun e w' => e = .returned (.int .u64 x3) ∧ Ext w w') ∧ (∀ w, Calls Tryz.prog 50 #[.agg #[.int .u64 (a : Int), .int .u64 (b : Int)]] w fun e w' => e = .returned (.int .u64 x3) ∧ Ext w w')) ∧
    ((∀ w, Calls Tryz.prog 51 #[.agg #[.int .u64 (a : Int), .int .u64 (b : Int)]] w fun e w' => e = .returned (.int .u64 x4) ∧ Ext w w') ∧ (∀ w, Table w → Calls Tryz.prog 52 #[.agg #[.int .u64 (a : Int), .int .u64 (b : Int)]] w fun e w' => e = .returned (.int .u64 x4) ∧ Ext w w')) := by
  cases h : validF a b with
  | false => exact ⟨_, _, _, _, ⟨fun w _ _ => imid_no a b ha hb h w, fun w _ => refMid_no a b ha hb h w⟩, ⟨fun w _ _ => irad_no a b ha hb h w, fun w _ => refRad_no a b ha hb h w⟩, ⟨fun w => imag_no a b ha hb h w, fun w => refMag_no a b ha hb h w⟩, fun w => imig_no a b ha hb h w, fun w _ => refMig_no a b ha hb h w⟩
  | true =>
    have g := Good.of ha hb h
    exact ⟨_, _, _, _, ⟨fun w hT hT6 => imid_yes a b g w hT hT6, fun w hT => refMid_yes a b g w hT⟩, ⟨fun w hT hT6 => irad_yes a b g w hT hT6, fun w hT => refRad_yes a b g w hT⟩, ⟨fun w => imag_yes a b ha hb h w, fun w => refMag_yes a b g w⟩, fun w => imig_yes a b ha hb h w, fun w hT => refMig_yes a b g w hT⟩

set_option maxRecDepth 100000 in
set_option maxHeartbeats 32000000 in
theorem irelL_any (a b c d : Nat) (ha : a < 18446744073709551616) (hb : b < 18446744073709551616) (hc : c < 18446744073709551616) (hd : d < 18446744073709551616) (bb nb : Bool) (ao : Option Addr) (n ca : Nat) (f : Int) (w : World) (hr : RawD w bb nb ao n ca f) (hT : Table w) (hT6 : Table64 w) :
    Calls Tryz.prog 5 #[.agg #[.int .u64 (a : Int), .int .u64 (b : Int)], .agg #[.int .u64 (c : Int), .int .u64 (d : Int)], .agg #[.bool bb, .bool nb, .slice ao n ca, .int .i64 f]] w fun r w' => r = .returned (.bool true) ∧ Ext w w' := by
  obtain ⟨u, hu⟩ : ∃ u, slimSays n f 20 3000 = u := ⟨_, rfl⟩
  have CX := Lib.hid (fun w => slim_no_at bb nb ao n ca f w u hu)
  have HT := Lib.hid hT
  have HT6 := Lib.hid hT6
  have CA := Lib.hid iawake_any
  go_enter Tryz.func5, Tryz.ntmps5
  go_upto_region 1 with fail
  obtain ⟨V, hW, hB, hx, hy, hz⟩ := box_iid w a b c d bb nb ao n ca f
  rw [← hW]
  clear hW
  have HB := Lib.hid hB
  generalize w.heap.size = B at hx hy hz ⊢
  have HC := Lib.hid (show ∀ wx, Ext V wx → (wx.cell? ⟨B, 0, none⟩ = some (.int .u64 (a : Int)) ∧ wx.cell? ⟨B, 1, none⟩ = some (.int .u64 (b : Int))) ∧ (wx.cell? ⟨(B + 1), 0, none⟩ = some (.int .u64 (c : Int)) ∧ wx.cell? ⟨(B + 1), 1, none⟩ = some (.int .u64 (d : Int))) ∧ (wx.cell? ⟨(B + 1 + 1), 0, none⟩ = some (.bool bb) ∧ wx.cell? ⟨(B + 1 + 1), 1, none⟩ = some (.bool nb) ∧ wx.cell? ⟨(B + 1 + 1), 2, none⟩ = some (.slice ao n ca) ∧ wx.cell? ⟨(B + 1 + 1), 3, none⟩ = some (.int .i64 f)) from fun wx h => ⟨⟨(hx.below h).c0, (hx.below h).c1⟩, ⟨(hy.below h).c0, (hy.below h).c1⟩, (hz.ext h).c0, (hz.ext h).c1, (hz.ext h).c2, (hz.ext h).c3⟩)
  clear hx hy hz hB hT hT6
  have HTV0 := Lib.hid (show ∀ wx, Ext V wx → Table wx from fun wx h => (HT.out.below HB.out).below h)
  have HT6V0 := Lib.hid (show ∀ wx, Ext V wx → Table64 wx from fun wx h => (HT6.out.below HB.out).below h)
  clear HT HT6
  have st : Ext V V := Ext.refl _
  obtain ⟨⟨a0, a1⟩, ⟨a2, a3⟩, b0, b1, b2, b3⟩ := HC.out _ st
  go_wp2_with fail
  refine (CX.out _).mono ?_
  rintro r w1 ⟨rfl, hE⟩
  have st : Ext V w1 := Ext.trans st hE
  clear hE
  clear a0 a1 a2 a3 b0 b1 b2 b3
  cases u with
  | false =>
    clear hr hu ha hb hc hd
    go_wp2_with fail
    refine (CA.out _).mono ?_
    rintro r w9 ⟨rfl, hE⟩
    have HF := Lib.hid (HB.out.trans (Ext.trans st hE))
    go_wp2
    go_ret
    exact ⟨rfl, HF.out⟩
  | true =>
  obtain ⟨D, hD, -, hN⟩ := hr.dl hu (by omega)
  obtain ⟨mx, my, ok, p1, q1⟩ := meets_any a b c d ha hb hc hd
  obtain ⟨x1, x2, x3, x4, ⟨m1, n1⟩, ⟨m2, n2⟩, ⟨m3, n3⟩, m4, n4⟩ := sizes_any a b ha hb
  have P1 := Lib.hid p1
  have Q1 := Lib.hid q1
  obtain ⟨z3, hz3⟩ : ∃ z, contD a b D = z := ⟨_, rfl⟩
  have hz3' : contB a b D = z3 := (contD_B ha hb hN).symm.trans hz3
  obtain ⟨z4, hz4⟩ : ∃ z, subF a b c d = z := ⟨_, rfl⟩
  obtain ⟨z5, hz5⟩ : ∃ z, interF a b c d = z := ⟨_, rfl⟩
  have P3a := Lib.hid (fun wx (h : Ext w wx) hT => icontains_any a b ha hb _ D z3 hz3 wx (hD.ext h).dg hT)
  have Q3a := Lib.hid (fun wx (h : Ext w wx) hT => refContains_any a b ha hb _ D z3 hz3' wx (hD.ext h) hT)
  have P4 := Lib.hid (fun wx => isubset_any a b c d ha hb hc hd z4 hz4 wx)
  have Q4 := Lib.hid (fun wx hT => refSubset_any a b c d ha hb hc hd z4 hz4 wx hT)
  have P5 := Lib.hid (fun wx => iinterior_any a b c d ha hb hc hd z5 hz5 wx)
  have Q5 := Lib.hid (fun wx hT => refInterior_any a b c d ha hb hc hd z5 hz5 wx hT)
  have M3 := Lib.hid m3
  have N3 := Lib.hid n3
  have M4 := Lib.hid m4
  have M1a := Lib.hid m1
  have M2a := Lib.hid m2
  have N1a := Lib.hid n1
  have N2a := Lib.hid n2
  have N4a := Lib.hid n4
  clear p1 q1 m1 n1 m2 n2 m3 n3 m4 n4 hz3 hz3' hz4 hz5 hD hN hr hu ha hb hc hd
  obtain ⟨⟨a0, a1⟩, ⟨a2, a3⟩, b0, b1, b2, b3⟩ := HC.out _ st
  go_wp2_with fail
  refine (P1.out _).mono ?_
  rintro r w2 ⟨rfl, hE⟩
  have st : Ext V w2 := Ext.trans st hE
  clear hE
  clear a0 a1 a2 a3 b0 b1 b2 b3
  obtain ⟨⟨a0, a1⟩, ⟨a2, a3⟩, b0, b1, b2, b3⟩ := HC.out _ st
  go_upto_region 4 with fail
  obtain ⟨V2, hV2, hE2, hg, -⟩ := ibox_new w2 mx my
  rw [← hV2]
  clear hV2
  have st : Ext V V2 := Ext.trans st hE2
  generalize w2.heap.size = G at *
  clear a0 a1 a2 a3 b0 b1 b2 b3
  obtain ⟨⟨a0, a1⟩, ⟨a2, a3⟩, b0, b1, b2, b3⟩ := HC.out _ st
  have k0 := hg.c0
  have k1 := hg.c1
  go_wp2_with fail
  refine (Q1.out _ (HTV0.out _ st)).mono ?_
  rintro r w3 ⟨rfl, hE⟩
  have st : Ext V w3 := Ext.trans st hE
  have hg := hg.below hE
  clear hE k0 k1 hE2
  clear a0 a1 a2 a3 b0 b1 b2 b3
  obtain ⟨⟨a0, a1⟩, ⟨a2, a3⟩, b0, b1, b2, b3⟩ := HC.out _ st
  have k0 := hg.c0
  have k1 := hg.c1
  go_upto_region 5 with fail
  obtain ⟨U, hU, hE2, hh, -⟩ := ibox_new w3 mx my
  rw [← hU]
  clear hU k0 k1
  have HVU := Lib.hid (Ext.trans st hE2)
  have hg := hg.below hE2
  generalize w3.heap.size = H at *
  clear a0 a1 a2 a3 b0 b1 b2 b3
  clear st hE2
  have HC5 := Lib.hid (show ∀ wx, Ext U wx → ((wx.cell? ⟨B, 0, none⟩ = some (.int .u64 (a : Int)) ∧ wx.cell? ⟨B, 1, none⟩ = some (.int .u64 (b : Int))) ∧ (wx.cell? ⟨(B + 1), 0, none⟩ = some (.int .u64 (c : Int)) ∧ wx.cell? ⟨(B + 1), 1, none⟩ = some (.int .u64 (d : Int))) ∧ (wx.cell? ⟨(B + 1 + 1), 0, none⟩ = some (.bool bb) ∧ wx.cell? ⟨(B + 1 + 1), 1, none⟩ = some (.bool nb) ∧ wx.cell? ⟨(B + 1 + 1), 2, none⟩ = some (.slice ao n ca) ∧ wx.cell? ⟨(B + 1 + 1), 3, none⟩ = some (.int .i64 f))) ∧ (wx.cell? ⟨G, 0, none⟩ = some (.int .u64 mx) ∧ wx.cell? ⟨G, 1, none⟩ = some (.int .u64 my)) ∧ (wx.cell? ⟨H, 0, none⟩ = some (.int .u64 mx) ∧ wx.cell? ⟨H, 1, none⟩ = some (.int .u64 my)) from fun wx h => ⟨HC.out wx (Ext.trans HVU.out h), ⟨(hg.below h).c0, (hg.below h).c1⟩, (hh.below h).c0, (hh.below h).c1⟩)
  clear hg hh
  have HBU := Lib.hid (Ext.trans HB.out HVU.out)
  have HTV := Lib.hid (fun wx (h : Ext U wx) => HTV0.out wx (Ext.trans HVU.out h))
  have HT6V := Lib.hid (fun wx (h : Ext U wx) => HT6V0.out wx (Ext.trans HVU.out h))
  have P3 := Lib.hid (fun wx (h : Ext U wx) => P3a.out wx (Ext.trans HBU.out h) (HTV.out wx h))
  have Q3 := Lib.hid (fun wx (h : Ext U wx) => Q3a.out wx (Ext.trans HBU.out h) (HTV.out wx h))
  have M1 := Lib.hid (fun wx (h : Ext U wx) => M1a.out wx (HTV.out wx h) (HT6V.out wx h))
  have M2 := Lib.hid (fun wx (h : Ext U wx) => M2a.out wx (HTV.out wx h) (HT6V.out wx h))
  have N1 := Lib.hid (fun wx (h : Ext U wx) => N1a.out wx (HTV.out wx h))
  have N2 := Lib.hid (fun wx (h : Ext U wx) => N2a.out wx (HTV.out wx h))
  have N4 := Lib.hid (fun wx (h : Ext U wx) => N4a.out wx (HTV.out wx h))
  clear P3a Q3a M1a M2a N1a N2a N4a P1 Q1
  have st : Ext U U := Ext.refl _
  obtain ⟨⟨⟨a0, a1⟩, ⟨a2, a3⟩, b0, b1, b2, b3⟩, ⟨g0, g1⟩, h0, h1⟩ := HC5.out _ st
  go_upto_region 5 with fail
  have st : Ext U _ := st.drew
  go_region_held3 (fun wx => ((wx.cell? ⟨B, 0, none⟩ = some (.int .u64 (a : Int)) ∧ wx.cell? ⟨B, 1, none⟩ = some (.int .u64 (b : Int))) ∧ (wx.cell? ⟨(B + 1), 0, none⟩ = some (.int .u64 (c : Int)) ∧ wx.cell? ⟨(B + 1), 1, none⟩ = some (.int .u64 (d : Int))) ∧ (wx.cell? ⟨(B + 1 + 1), 0, none⟩ = some (.bool bb) ∧ wx.cell? ⟨(B + 1 + 1), 1, none⟩ = some (.bool nb) ∧ wx.cell? ⟨(B + 1 + 1), 2, none⟩ = some (.slice ao n ca) ∧ wx.cell? ⟨(B + 1 + 1), 3, none⟩ = some (.int .i64 f))) ∧ (wx.cell? ⟨G, 0, none⟩ = some (.int .u64 mx) ∧ wx.cell? ⟨G, 1, none⟩ = some (.int .u64 my)) ∧ (wx.cell? ⟨H, 0, none⟩ = some (.int .u64 mx) ∧ wx.cell? ⟨H, 1, none⟩ = some (.int .u64 my)))
    (first | exact HC5.out _ (by with_reducible assumption))
    (first
      | (go_at_call 39; (with_reducible refine (P3.out _ (by with_reducible assumption)).mono ?_); rintro r wn ⟨rfl, hE⟩; have st : Ext U wn := Ext.trans (by with_reducible assumption) hE; clear hE)
      | (go_at_call 40; (with_reducible refine (Q3.out _ (by with_reducible assumption)).mono ?_); rintro r wn ⟨rfl, hE⟩; have st : Ext U wn := Ext.trans (by with_reducible assumption) hE; clear hE)
      | (go_at_call 41; (with_reducible refine (P4.out _).mono ?_); rintro r wn ⟨rfl, hE⟩; have st : Ext U wn := Ext.trans (by with_reducible assumption) hE; clear hE)
      | (go_at_call 42; (with_reducible refine (Q4.out _ (HTV.out _ (by with_reducible assumption))).mono ?_); rintro r wn ⟨rfl, hE⟩; have st : Ext U wn := Ext.trans (by with_reducible assumption) hE; clear hE)
      | (go_at_call 43; (with_reducible refine (P5.out _).mono ?_); rintro r wn ⟨rfl, hE⟩; have st : Ext U wn := Ext.trans (by with_reducible assumption) hE; clear hE)
      | (go_at_call 44; (with_reducible refine (Q5.out _ (HTV.out _ (by with_reducible assumption))).mono ?_); rintro r wn ⟨rfl, hE⟩; have st : Ext U wn := Ext.trans (by with_reducible assumption) hE; clear hE)
    )
  clear a0 a1 a2 a3 b0 b1 b2 b3 g0 g1 h0 h1
  obtain ⟨⟨⟨a0, a1⟩, ⟨a2, a3⟩, b0, b1, b2, b3⟩, ⟨g0, g1⟩, h0, h1⟩ := HC5.out _ st
  go_upto_region 7 with fail
  have st : Ext U _ := st.drew
  go_region_held3 (fun wx => ((wx.cell? ⟨B, 0, none⟩ = some (.int .u64 (a : Int)) ∧ wx.cell? ⟨B, 1, none⟩ = some (.int .u64 (b : Int))) ∧ (wx.cell? ⟨(B + 1), 0, none⟩ = some (.int .u64 (c : Int)) ∧ wx.cell? ⟨(B + 1), 1, none⟩ = some (.int .u64 (d : Int))) ∧ (wx.cell? ⟨(B + 1 + 1), 0, none⟩ = some (.bool bb) ∧ wx.cell? ⟨(B + 1 + 1), 1, none⟩ = some (.bool nb) ∧ wx.cell? ⟨(B + 1 + 1), 2, none⟩ = some (.slice ao n ca) ∧ wx.cell? ⟨(B + 1 + 1), 3, none⟩ = some (.int .i64 f))) ∧ (wx.cell? ⟨G, 0, none⟩ = some (.int .u64 mx) ∧ wx.cell? ⟨G, 1, none⟩ = some (.int .u64 my)) ∧ (wx.cell? ⟨H, 0, none⟩ = some (.int .u64 mx) ∧ wx.cell? ⟨H, 1, none⟩ = some (.int .u64 my)))
    (first | exact HC5.out _ (by with_reducible assumption))
    (first
      | (go_at_call 45; (with_reducible refine (M1.out _ (by with_reducible assumption)).mono ?_); rintro r wn ⟨rfl, hE⟩; have st : Ext U wn := Ext.trans (by with_reducible assumption) hE; clear hE)
      | (go_at_call 46; (with_reducible refine (N1.out _ (by with_reducible assumption)).mono ?_); rintro r wn ⟨rfl, hE⟩; have st : Ext U wn := Ext.trans (by with_reducible assumption) hE; clear hE)
      | (go_at_call 47; (with_reducible refine (M2.out _ (by with_reducible assumption)).mono ?_); rintro r wn ⟨rfl, hE⟩; have st : Ext U wn := Ext.trans (by with_reducible assumption) hE; clear hE)
      | (go_at_call 48; (with_reducible refine (N2.out _ (by with_reducible assumption)).mono ?_); rintro r wn ⟨rfl, hE⟩; have st : Ext U wn := Ext.trans (by with_reducible assumption) hE; clear hE)
      | (go_at_call 49; (with_reducible refine (M3.out _).mono ?_); rintro r wn ⟨rfl, hE⟩; have st : Ext U wn := Ext.trans (by with_reducible assumption) hE; clear hE)
      | (go_at_call 50; (with_reducible refine (N3.out _).mono ?_); rintro r wn ⟨rfl, hE⟩; have st : Ext U wn := Ext.trans (by with_reducible assumption) hE; clear hE)
      | (go_at_call 51; (with_reducible refine (M4.out _).mono ?_); rintro r wn ⟨rfl, hE⟩; have st : Ext U wn := Ext.trans (by with_reducible assumption) hE; clear hE)
      | (go_at_call 52; (with_reducible refine (N4.out _ (by with_reducible assumption)).mono ?_); rintro r wn ⟨rfl, hE⟩; have st : Ext U wn := Ext.trans (by with_reducible assumption) hE; clear hE)
      | (go_at_call 35; (with_reducible refine (CA.out _).mono ?_); rintro r wn ⟨rfl, hE⟩; have st : Ext U wn := Ext.trans (by with_reducible assumption) hE; clear hE)
    )
  have HF := Lib.hid (Ext.trans HBU.out st)
  go_wp2
  go_ret
  exact ⟨rfl, HF.out⟩

theorem irelL_int (a b c d : Int) (bb nb : Bool) (ao : Option Addr) (n ca : Nat) (f : Int) (w : World) (ha : 0 ≤ a ∧ a < 18446744073709551616) (hb : 0 ≤ b ∧ b < 18446744073709551616) (hc : 0 ≤ c ∧ c < 18446744073709551616) (hd : 0 ≤ d ∧ d < 18446744073709551616) (hr : RawD w bb nb ao n ca f) (hT : Table w) (hT6 : Table64 w) :
    Calls Tryz.prog 5 #[.agg #[.int .u64 a, .int .u64 b], .agg #[.int .u64 c, .int .u64 d], .agg #[.bool bb, .bool nb, .slice ao n ca, .int .i64 f]] w fun r w' => r = .returned (.bool true) ∧ Ext w w' := by
  have h := irelL_any a.toNat b.toNat c.toNat d.toNat (by omega) (by omega) (by omega) (by omega) bb nb ao n ca f w hr hT hT6
  rw [Int.toNat_of_nonneg ha.1, Int.toNat_of_nonneg hb.1, Int.toNat_of_nonneg hc.1, Int.toNat_of_nonneg hd.1] at h
  exact h
end Go.Proofs.YtecaaklbhhjcjaaGreatDoor
