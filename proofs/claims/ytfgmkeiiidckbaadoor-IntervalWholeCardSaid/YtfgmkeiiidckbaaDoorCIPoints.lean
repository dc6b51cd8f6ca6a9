/- IntervalPoints returns true, from what its callees do. -/
import Derived.Test.YtfgmkeiiidckbaaDoorCIPair
namespace Go.Proofs.YtfgmkeiiidckbaaDoor
open Go.RowKit

set_option maxRecDepth 100000 in
theorem refFin_any (f : Nat) (hf : f < 18446744073709551616) (b : Bool) (hb : finB f = b) (w : World) :
    Calls Tryd.prog 69 #[.int .u64 (f : Int)] w fun e w' => e = .returned (.bool b) ∧ w = w' := by
  have h1 : (f : Int) / 4503599627370496 = ((f / 4503599627370496 : Nat) : Int) := (Int.natCast_ediv _ _).symm
  have h2 := bits_and_u64_nat (f / 4503599627370496) 2047 (by omega) (by omega)
  rw [show (2047 : Nat) = 2 ^ 11 - 1 from rfl, Nat.and_two_pow_sub_one_eq_mod] at h2
  have h3 : (((f / 4503599627370496 % 2 ^ 11 : Nat) : Int) != 2047) = b := by
    rw [← hb]
    unfold finB fmag
    by_cases h : f % 9223372036854775808 < 9218868437227405312
    · rw [decide_eq_true h]; simp; omega
    · rw [decide_eq_false h]; simp; omega
  obtain ⟨q, hq⟩ : ∃ q : Nat, f / 4503599627370496 % 2 ^ 11 = q := ⟨_, rfl⟩
  rw [hq] at h2 h3
  have h2 : bits BinOp.and IntKind.u64 ((f / 4503599627370496 : Nat) : Int) 2047 = (q : Int) := h2
  rw [← h1] at h2
  clear hb hq h1
  cases b
  all_goals
    go_enter Tryd.func69, Tryd.ntmps69
    go_wp2
    go_ret
    exact ⟨ret_bool (by first | rfl | exact h3), rfl⟩

theorem lit_facts : finB 4607182418800017408 = true ∧ plainF 4607182418800017408 = 4607182418800017408 ∧ finB 4611686018427387904 = true ∧ plainF 4611686018427387904 = 4611686018427387904 ∧ validF 4607182418800017408 4607182418800017408 = true ∧ validF 4607182418800017408 4611686018427387904 = true ∧ validF 4611686018427387904 4607182418800017408 = false ∧ subF 4607182418800017408 4607182418800017408 4607182418800017408 4611686018427387904 = true ∧ plainF (faddF 4607182418800017408 4607182418800017408 1) = 4611686018427387904 ∧ plainF (faddF 4607182418800017408 4607182418800017408 2) = 4611686018427387904 := by decide +kernel
theorem lit_mul : MulF 4607182418800017408 4607182418800017408 4607182418800017408 4611686018427387904 4607182418800017408 4611686018427387904 [4607182418800017408, 4611686018427387904, 4607182418800017408, 4611686018427387904] [4607182418800017408, 4611686018427387904, 4607182418800017408, 4611686018427387904] :=
  ⟨by decide +kernel, by decide +kernel, by decide +kernel, by decide +kernel, by decide +kernel, by decide +kernel⟩

set_option maxRecDepth 100000 in
set_option maxHeartbeats 8000000 in
theorem iawake_any (w : World) : Calls Tryd.prog 7 #[] w fun e w' => e = .returned (.bool true) ∧ Ext w w' := by
  obtain ⟨f1, f2, f3, f4, f5, f6, f7, f8, f9, f10⟩ := lit_facts
  have P1 : ∀ w, Calls Tryd.prog 16 #[.int .u64 4607182418800017408] w fun e w' => e = .returned (.agg #[.int .u64 4607182418800017408, .int .u64 4607182418800017408]) ∧ Ext w w' := point_any 4607182418800017408 (by decide) _ (by rw [f1, f2]; rfl)
  have P2 : ∀ w, Calls Tryd.prog 16 #[.int .u64 4611686018427387904] w fun e w' => e = .returned (.agg #[.int .u64 4611686018427387904, .int .u64 4611686018427387904]) ∧ Ext w w' := point_any 4611686018427387904 (by decide) _ (by rw [f3, f4]; rfl)
  have CA : ∀ w, Calls Tryd.prog 9 #[.agg #[.int .u64 4607182418800017408, .int .u64 4607182418800017408], .agg #[.int .u64 4607182418800017408, .int .u64 4607182418800017408]] w fun e w' => e = .returned (.agg #[.int .u64 4611686018427387904, .int .u64 4611686018427387904]) ∧ Ext w w' := by
    intro w
    have := iadd_yes 4607182418800017408 4607182418800017408 4607182418800017408 4607182418800017408 (by decide) (by decide) (by decide) (by decide) f5 f5 w
    rw [f9, f10] at this
    exact this
  have CM : ∀ w, Calls Tryd.prog 11 #[.agg #[.int .u64 4607182418800017408, .int .u64 4607182418800017408], .agg #[.int .u64 4607182418800017408, .int .u64 4611686018427387904]] w fun e w' => e = .returned (.agg #[.int .u64 4607182418800017408, .int .u64 4611686018427387904]) ∧ Ext w w' := imul_yes 4607182418800017408 4607182418800017408 4607182418800017408 4611686018427387904 4607182418800017408 4611686018427387904 _ _ (by decide) (by decide) (by decide) (by decide) f5 f6 lit_mul
  have V1 : ∀ w, Calls Tryd.prog 22 #[.agg #[.int .u64 4607182418800017408, .int .u64 4611686018427387904]] w fun e w' => e = .returned (.bool true) ∧ Ext w w' := ivalid_at 4607182418800017408 4611686018427387904 (by decide) (by decide) rfl rfl true f6
  have V2 : ∀ w, Calls Tryd.prog 22 #[.agg #[.int .u64 4611686018427387904, .int .u64 4607182418800017408]] w fun e w' => e = .returned (.bool false) ∧ Ext w w' := ivalid_at 4611686018427387904 4607182418800017408 (by decide) (by decide) rfl rfl false f7
  have CS : ∀ w, Calls Tryd.prog 8 #[.agg #[.int .u64 4607182418800017408, .int .u64 4607182418800017408], .agg #[.int .u64 4607182418800017408, .int .u64 4611686018427387904]] w fun e w' => e = .returned (.bool true) ∧ Ext w w' := subset_yes 4607182418800017408 4607182418800017408 4607182418800017408 4611686018427387904 (by decide) (by decide) (by decide) (by decide) f8
  have P1 := Lib.hid P1; have P2 := Lib.hid P2; have CA := Lib.hid CA; have CM := Lib.hid CM; have V1 := Lib.hid V1; have V2 := Lib.hid V2; have CS := Lib.hid CS
  clear f1 f2 f3 f4 f5 f6 f7 f8 f9 f10
  go_enter Tryd.func7, Tryd.ntmps7
  go_wp2_with fail
  refine (P1.out _).mono ?_
  rintro r w1 ⟨rfl, hE1⟩
  go_upto_region 3 with fail
  obtain ⟨W, hW, hB, hx, hy, hsz⟩ := ibox_two w1 4607182418800017408 4607182418800017408 4607182418800017408 4611686018427387904
  rw [← hW]
  clear hW
  have HB := Lib.hid (Ext.trans hE1 hB)
  generalize w1.heap.size = B at hx hy ⊢
  clear hB hsz hE1
  have HC := Lib.hid (show ∀ wx, Ext W wx → (wx.cell? ⟨B, 0, none⟩ = some (.int .u64 4607182418800017408) ∧ wx.cell? ⟨B, 1, none⟩ = some (.int .u64 4607182418800017408)) ∧ (wx.cell? ⟨B + 1, 0, none⟩ = some (.int .u64 4607182418800017408) ∧ wx.cell? ⟨B + 1, 1, none⟩ = some (.int .u64 4611686018427387904)) from fun wx h => ⟨⟨(hx.below h).c0, (hx.below h).c1⟩, (hy.below h).c0, (hy.below h).c1⟩)
  obtain ⟨⟨c0, c1⟩, c2, c3⟩ := HC.out W (Ext.refl _)
  have st : Ext W W.drew := ext_drewB' _
  go_region_held3 (fun wx => (wx.cell? ⟨B, 0, none⟩ = some (.int .u64 4607182418800017408) ∧ wx.cell? ⟨B, 1, none⟩ = some (.int .u64 4607182418800017408)) ∧ (wx.cell? ⟨B + 1, 0, none⟩ = some (.int .u64 4607182418800017408) ∧ wx.cell? ⟨B + 1, 1, none⟩ = some (.int .u64 4611686018427387904)))
    (first | exact HC.out _ (by assumption))
    (first
      | (go_at_call 9; (with_reducible refine (CA.out _).mono ?_); rintro r wn ⟨rfl, hE⟩; have st : Ext W wn := Ext.trans (by assumption) hE; clear hE)
      | (go_at_call 16; (with_reducible refine (P2.out _).mono ?_); rintro r wn ⟨rfl, hE⟩; have st : Ext W wn := Ext.trans (by assumption) hE; clear hE)
      | (go_at_call 11; (with_reducible refine (CM.out _).mono ?_); rintro r wn ⟨rfl, hE⟩; have st : Ext W wn := Ext.trans (by assumption) hE; clear hE)
      | (go_at_call 22; (with_reducible refine (V1.out _).mono ?_); rintro r wn ⟨rfl, hE⟩; have st : Ext W wn := Ext.trans (by assumption) hE; clear hE)
      | (go_at_call 22; (with_reducible refine (V2.out _).mono ?_); rintro r wn ⟨rfl, hE⟩; have st : Ext W wn := Ext.trans (by assumption) hE; clear hE)
      | (go_at_call 8; (with_reducible refine (CS.out _).mono ?_); rintro r wn ⟨rfl, hE⟩; have st : Ext W wn := Ext.trans (by assumption) hE; clear hE))
  go_wp2
  go_ret
  exact ⟨rfl, Ext.trans HB.out (by assumption)⟩

end Go.Proofs.YtfgmkeiiidckbaaDoor
