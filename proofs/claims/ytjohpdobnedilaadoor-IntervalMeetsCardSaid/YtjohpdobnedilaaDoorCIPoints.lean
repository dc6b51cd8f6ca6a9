/- IntervalPoints returns true, from what its callees do. -/
import Derived.Test.YtjohpdobnedilaaDoorIg
import Derived.Test.YtjohpdobnedilaaDoorCIPair
namespace Go.Proofs.YtjohpdobnedilaaDoor
open Go.RowKit

theorem lit_facts : finB 4607182418800017408 = true ∧ plainF 4607182418800017408 = 4607182418800017408 ∧ finB 4611686018427387904 = true ∧ plainF 4611686018427387904 = 4611686018427387904 ∧ validF 4607182418800017408 4607182418800017408 = true ∧ validF 4607182418800017408 4611686018427387904 = true ∧ validF 4611686018427387904 4607182418800017408 = false ∧ subF 4607182418800017408 4607182418800017408 4607182418800017408 4611686018427387904 = true ∧ plainF (faddF 4607182418800017408 4607182418800017408 1) = 4611686018427387904 ∧ plainF (faddF 4607182418800017408 4607182418800017408 2) = 4611686018427387904 := by decide +kernel
theorem lit_mul : MulF 4607182418800017408 4607182418800017408 4607182418800017408 4611686018427387904 4607182418800017408 4611686018427387904 [4607182418800017408, 4611686018427387904, 4607182418800017408, 4611686018427387904] [4607182418800017408, 4611686018427387904, 4607182418800017408, 4611686018427387904] :=
  ⟨by decide +kernel, by decide +kernel, by decide +kernel, by decide +kernel, by decide +kernel, by decide +kernel⟩

set_option maxRecDepth 100000 in
set_option maxHeartbeats 8000000 in
theorem iawake_any (w : World) : Calls Tryd.prog 10 #[] w fun e w' => e = .returned (.bool true) ∧ Ext w w' := by
  obtain ⟨f1, f2, f3, f4, f5, f6, f7, f8, f9, f10⟩ := lit_facts
  have P1 : ∀ w, Calls Tryd.prog 26 #[.int .u64 4607182418800017408] w fun e w' => e = .returned (.agg #[.int .u64 4607182418800017408, .int .u64 4607182418800017408]) ∧ Ext w w' := point_any 4607182418800017408 (by decide) _ (by rw [f1, f2]; rfl)
  have P2 : ∀ w, Calls Tryd.prog 26 #[.int .u64 4611686018427387904] w fun e w' => e = .returned (.agg #[.int .u64 4611686018427387904, .int .u64 4611686018427387904]) ∧ Ext w w' := point_any 4611686018427387904 (by decide) _ (by rw [f3, f4]; rfl)
  have CA : ∀ w, Calls Tryd.prog 13 #[.agg #[.int .u64 4607182418800017408, .int .u64 4607182418800017408], .agg #[.int .u64 4607182418800017408, .int .u64 4607182418800017408]] w fun e w' => e = .returned (.agg #[.int .u64 4611686018427387904, .int .u64 4611686018427387904]) ∧ Ext w w' := by
    intro w
    have := iadd_yes 4607182418800017408 4607182418800017408 4607182418800017408 4607182418800017408 (by decide) (by decide) (by decide) (by decide) f5 f5 w
    rw [f9, f10] at this
    exact this
  have CM : ∀ w, Calls Tryd.prog 15 #[.agg #[.int .u64 4607182418800017408, .int .u64 4607182418800017408], .agg #[.int .u64 4607182418800017408, .int .u64 4611686018427387904]] w fun e w' => e = .returned (.agg #[.int .u64 4607182418800017408, .int .u64 4611686018427387904]) ∧ Ext w w' := imul_yes 4607182418800017408 4607182418800017408 4607182418800017408 4611686018427387904 4607182418800017408 4611686018427387904 _ _ (by decide) (by decide) (by decide) (by decide) f5 f6 lit_mul
  have V1 : ∀ w, Calls Tryd.prog 18 #[.agg #[.int .u64 4607182418800017408, .int .u64 4611686018427387904]] w fun e w' => e = .returned (.bool true) ∧ Ext w w' := ivalid_at 4607182418800017408 4611686018427387904 (by decide) (by decide) rfl rfl true f6
  have V2 : ∀ w, Calls Tryd.prog 18 #[.agg #[.int .u64 4611686018427387904, .int .u64 4607182418800017408]] w fun e w' => e = .returned (.bool false) ∧ Ext w w' := ivalid_at 4611686018427387904 4607182418800017408 (by decide) (by decide) rfl rfl false f7
  have CS : ∀ w, Calls Tryd.prog 8 #[.agg #[.int .u64 4607182418800017408, .int .u64 4607182418800017408], .agg #[.int .u64 4607182418800017408, .int .u64 4611686018427387904]] w fun e w' => e = .returned (.bool true) ∧ Ext w w' := subset_yes 4607182418800017408 4607182418800017408 4607182418800017408 4611686018427387904 (by decide) (by decide) (by decide) (by decide) f8
  have P1 := Lib.hid P1; have P2 := Lib.hid P2; have CA := Lib.hid CA; have CM := Lib.hid CM; have V1 := Lib.hid V1; have V2 := Lib.hid V2; have CS := Lib.hid CS
  clear f1 f2 f3 f4 f5 f6 f7 f8 f9 f10
  go_enter Tryd.func10, Tryd.ntmps10
  go_wp2_with fail
  refine (P1.out _).mono ?_
  rintro r w1 ⟨rfl, hE1⟩
  go_upto_region 3 with fail
  obtain ⟨W, hW, hB, hx, hy, hsz⟩ := ibox_two w1 4607182418800017408 4607182418800017408 4607182418800017408 4611686018427387904
  rw [← hW]
  clear hW
  have HB := Lib.hid (Ext.trans hE1 hB)
  generalize w1.heap.size = B at hx hy ⊢
  clear hB hsz hE1
  have HC := Lib.hid (show ∀ wx, Ext W wx → (wx.cell? ⟨B, 0, none⟩ = some (.int .u64 4607182418800017408) ∧ wx.cell? ⟨B, 1, none⟩ = some (.int .u64 4607182418800017408)) ∧ (wx.cell? ⟨B + 1, 0, none⟩ = some (.int .u64 4607182418800017408) ∧ wx.cell? ⟨B + 1, 1, none⟩ = some (.int .u64 4611686018427387904)) from fun wx h => ⟨⟨(hx.below h).c0, (hx.below h).c1⟩, (hy.below h).c0, (hy.below h).c1⟩)
  obtain ⟨⟨c0, c1⟩, c2, c3⟩ := HC.out W (Ext.refl _)
  have st : Ext W W.drew := ext_drewB' _
  go_region_held3 (fun wx => (wx.cell? ⟨B, 0, none⟩ = some (.int .u64 4607182418800017408) ∧ wx.cell? ⟨B, 1, none⟩ = some (.int .u64 4607182418800017408)) ∧ (wx.cell? ⟨B + 1, 0, none⟩ = some (.int .u64 4607182418800017408) ∧ wx.cell? ⟨B + 1, 1, none⟩ = some (.int .u64 4611686018427387904)))
    (first | exact HC.out _ (by assumption))
    (first
      | (go_at_call 13; (with_reducible refine (CA.out _).mono ?_); rintro r wn ⟨rfl, hE⟩; have st : Ext W wn := Ext.trans (by assumption) hE; clear hE)
      | (go_at_call 26; (with_reducible refine (P2.out _).mono ?_); rintro r wn ⟨rfl, hE⟩; have st : Ext W wn := Ext.trans (by assumption) hE; clear hE)
      | (go_at_call 15; (with_reducible refine (CM.out _).mono ?_); rintro r wn ⟨rfl, hE⟩; have st : Ext W wn := Ext.trans (by assumption) hE; clear hE)
      | (go_at_call 18; (with_reducible refine (V1.out _).mono ?_); rintro r wn ⟨rfl, hE⟩; have st : Ext W wn := Ext.trans (by assumption) hE; clear hE)
      | (go_at_call 18; (with_reducible refine (V2.out _).mono ?_); rintro r wn ⟨rfl, hE⟩; have st : Ext W wn := Ext.trans (by assumption) hE; clear hE)
      | (go_at_call 8; (with_reducible refine (CS.out _).mono ?_); rintro r wn ⟨rfl, hE⟩; have st : Ext W wn := Ext.trans (by assumption) hE; clear hE))
  go_wp2
  go_ret
  exact ⟨rfl, Ext.trans HB.out (by assumption)⟩

end Go.Proofs.YtjohpdobnedilaaDoor
