import Derived.Test.YtolghagbpnjpgaaDoorIMonoU37
import Derived.Test.YtolghagbpnjpgaaDoorIMonoU28
namespace Go.Proofs.YtolghagbpnjpgaaDoor
open Go.RowKit

set_option maxRecDepth 100000 in
set_option maxHeartbeats 8000000 in
theorem isubset_any (a b c d : Nat) (ha : a < 18446744073709551616) (hb : b < 18446744073709551616) (hc : c < 18446744073709551616) (hd : d < 18446744073709551616) (z : Bool) (hz : subF a b c d = z) (w : World) :
    Calls Tryd.prog 8 #[.agg #[.int .u64 (a : Int), .int .u64 (b : Int)], .agg #[.int .u64 (c : Int), .int .u64 (d : Int)]] w fun e w' => e = .returned (.bool z) ∧ Ext w w' := by
  unfold subF at hz
  obtain ⟨v1, h1⟩ : ∃ v, validF a b = v := ⟨_, rfl⟩
  obtain ⟨v2, h2⟩ : ∃ v, validF c d = v := ⟨_, rfl⟩
  obtain ⟨l3, h3⟩ : ∃ v, lessF a c = v := ⟨_, rfl⟩
  obtain ⟨l4, h4⟩ : ∃ v, lessF d b = v := ⟨_, rfl⟩
  have C1 := Lib.hid (ivalid_at a b ha hb rfl rfl v1 h1)
  have C2 := Lib.hid (ivalid_at c d hc hd rfl rfl v2 h2)
  have C3 := Lib.hid (isLess_at a c ha hc rfl rfl l3 h3)
  have C4 := Lib.hid (isLess_at d b hd hb rfl rfl l4 h4)
  rw [h1, h2, h3, h4] at hz
  clear h1 h2 h3 h4 ha hb hc hd
  cases v1
  · obtain rfl : false = z := hz
    go_enter Tryd.func8, Tryd.ntmps8
    go_wp2_with fail
    obtain ⟨W, hW, hB, hx, hy, hsz⟩ := ibox_two w a b c d
    rw [← hW]
    clear hW
    have HB := Lib.hid hB
    generalize w.heap.size = B at hx hy ⊢
    clear hB hsz
    have c0 := hx.c0
    have c1 := hx.c1
    have c2 := hy.c0
    have c3 := hy.c1
    go_wp2_with fail
    refine (C1.out _).mono ?_
    rintro r w1 ⟨rfl, hE⟩
    have hx := hx.below hE
    have hy := hy.below hE
    have HB := Lib.hid (HB.out.trans hE)
    clear c0 c1 c2 c3 hE
    have c0 := hx.c0
    have c1 := hx.c1
    have c2 := hy.c0
    have c3 := hy.c1
    go_wp2
    go_ret
    exact ⟨rfl, HB.out⟩
  · cases v2
    · obtain rfl : false = z := hz
      go_enter Tryd.func8, Tryd.ntmps8
      go_wp2_with fail
      obtain ⟨W, hW, hB, hx, hy, hsz⟩ := ibox_two w a b c d
      rw [← hW]
      clear hW
      have HB := Lib.hid hB
      generalize w.heap.size = B at hx hy ⊢
      clear hB hsz
      have c0 := hx.c0
      have c1 := hx.c1
      have c2 := hy.c0
      have c3 := hy.c1
      go_wp2_with fail
      refine (C1.out _).mono ?_
      rintro r w1 ⟨rfl, hE⟩
      have hx := hx.below hE
      have hy := hy.below hE
      have HB := Lib.hid (HB.out.trans hE)
      clear c0 c1 c2 c3 hE
      have c0 := hx.c0
      have c1 := hx.c1
      have c2 := hy.c0
      have c3 := hy.c1
      go_wp2_with fail
      refine (C2.out _).mono ?_
      rintro r w2 ⟨rfl, hE⟩
      have hx := hx.below hE
      have hy := hy.below hE
      have HB := Lib.hid (HB.out.trans hE)
      clear c0 c1 c2 c3 hE
      have c0 := hx.c0
      have c1 := hx.c1
      have c2 := hy.c0
      have c3 := hy.c1
      go_wp2
      go_ret
      exact ⟨rfl, HB.out⟩
    · cases l3
      · cases l4
        · obtain rfl : true = z := hz
          go_enter Tryd.func8, Tryd.ntmps8
          go_wp2_with fail
          obtain ⟨W, hW, hB, hx, hy, hsz⟩ := ibox_two w a b c d
          rw [← hW]
          clear hW
          have HB := Lib.hid hB
          generalize w.heap.size = B at hx hy ⊢
          clear hB hsz
          have c0 := hx.c0
          have c1 := hx.c1
          have c2 := hy.c0
          have c3 := hy.c1
          go_wp2_with fail
          refine (C1.out _).mono ?_
          rintro r w1 ⟨rfl, hE⟩
          have hx := hx.below hE
          have hy := hy.below hE
          have HB := Lib.hid (HB.out.trans hE)
          clear c0 c1 c2 c3 hE
          have c0 := hx.c0
          have c1 := hx.c1
          have c2 := hy.c0
          have c3 := hy.c1
          go_wp2_with fail
          refine (C2.out _).mono ?_
          rintro r w2 ⟨rfl, hE⟩
          have hx := hx.below hE
          have hy := hy.below hE
          have HB := Lib.hid (HB.out.trans hE)
          clear c0 c1 c2 c3 hE
          have c0 := hx.c0
          have c1 := hx.c1
          have c2 := hy.c0
          have c3 := hy.c1
          go_wp2_with fail
          refine (C3.out _).mono ?_
          rintro r w3 ⟨rfl, hE⟩
          have hx := hx.below hE
          have hy := hy.below hE
          have HB := Lib.hid (HB.out.trans hE)
          clear c0 c1 c2 c3 hE
          have c0 := hx.c0
          have c1 := hx.c1
          have c2 := hy.c0
          have c3 := hy.c1
          go_wp2_with fail
          refine (C4.out _).mono ?_
          rintro r w4 ⟨rfl, hE⟩
          have hx := hx.below hE
          have hy := hy.below hE
          have HB := Lib.hid (HB.out.trans hE)
          clear c0 c1 c2 c3 hE
          have c0 := hx.c0
          have c1 := hx.c1
          have c2 := hy.c0
          have c3 := hy.c1
          go_wp2
          go_ret
          exact ⟨rfl, HB.out⟩
        · obtain rfl : false = z := hz
          go_enter Tryd.func8, Tryd.ntmps8
          go_wp2_with fail
          obtain ⟨W, hW, hB, hx, hy, hsz⟩ := ibox_two w a b c d
          rw [← hW]
          clear hW
          have HB := Lib.hid hB
          generalize w.heap.size = B at hx hy ⊢
          clear hB hsz
          have c0 := hx.c0
          have c1 := hx.c1
          have c2 := hy.c0
          have c3 := hy.c1
          go_wp2_with fail
          refine (C1.out _).mono ?_
          rintro r w1 ⟨rfl, hE⟩
          have hx := hx.below hE
          have hy := hy.below hE
          have HB := Lib.hid (HB.out.trans hE)
          clear c0 c1 c2 c3 hE
          have c0 := hx.c0
          have c1 := hx.c1
          have c2 := hy.c0
          have c3 := hy.c1
          go_wp2_with fail
          refine (C2.out _).mono ?_
          rintro r w2 ⟨rfl, hE⟩
          have hx := hx.below hE
          have hy := hy.below hE
          have HB := Lib.hid (HB.out.trans hE)
          clear c0 c1 c2 c3 hE
          have c0 := hx.c0
          have c1 := hx.c1
          have c2 := hy.c0
          have c3 := hy.c1
          go_wp2_with fail
          refine (C3.out _).mono ?_
          rintro r w3 ⟨rfl, hE⟩
          have hx := hx.below hE
          have hy := hy.below hE
          have HB := Lib.hid (HB.out.trans hE)
          clear c0 c1 c2 c3 hE
          have c0 := hx.c0
          have c1 := hx.c1
          have c2 := hy.c0
          have c3 := hy.c1
          go_wp2_with fail
          refine (C4.out _).mono ?_
          rintro r w4 ⟨rfl, hE⟩
          have hx := hx.below hE
          have hy := hy.below hE
          have HB := Lib.hid (HB.out.trans hE)
          clear c0 c1 c2 c3 hE
          have c0 := hx.c0
          have c1 := hx.c1
          have c2 := hy.c0
          have c3 := hy.c1
          go_wp2
          go_ret
          exact ⟨rfl, HB.out⟩
      · obtain rfl : false = z := by rw [← hz]; cases l4 <;> rfl
        go_enter Tryd.func8, Tryd.ntmps8
        go_wp2_with fail
        obtain ⟨W, hW, hB, hx, hy, hsz⟩ := ibox_two w a b c d
        rw [← hW]
        clear hW
        have HB := Lib.hid hB
        generalize w.heap.size = B at hx hy ⊢
        clear hB hsz
        have c0 := hx.c0
        have c1 := hx.c1
        have c2 := hy.c0
        have c3 := hy.c1
        go_wp2_with fail
        refine (C1.out _).mono ?_
        rintro r w1 ⟨rfl, hE⟩
        have hx := hx.below hE
        have hy := hy.below hE
        have HB := Lib.hid (HB.out.trans hE)
        clear c0 c1 c2 c3 hE
        have c0 := hx.c0
        have c1 := hx.c1
        have c2 := hy.c0
        have c3 := hy.c1
        go_wp2_with fail
        refine (C2.out _).mono ?_
        rintro r w2 ⟨rfl, hE⟩
        have hx := hx.below hE
        have hy := hy.below hE
        have HB := Lib.hid (HB.out.trans hE)
        clear c0 c1 c2 c3 hE
        have c0 := hx.c0
        have c1 := hx.c1
        have c2 := hy.c0
        have c3 := hy.c1
        go_wp2_with fail
        refine (C3.out _).mono ?_
        rintro r w3 ⟨rfl, hE⟩
        have hx := hx.below hE
        have hy := hy.below hE
        have HB := Lib.hid (HB.out.trans hE)
        clear c0 c1 c2 c3 hE
        have c0 := hx.c0
        have c1 := hx.c1
        have c2 := hy.c0
        have c3 := hy.c1
        go_wp2
        go_ret
        exact ⟨rfl, HB.out⟩

end Go.Proofs.YtolghagbpnjpgaaDoor

namespace Go.Proofs.YtolghagbpnjpgaaDoor
open Go.RowKit

theorem ext_drewB' (w : World) : Ext w w.drew := (Below.refl _ _).drew
end Go.Proofs.YtolghagbpnjpgaaDoor

namespace Go.Proofs.YtolghagbpnjpgaaDoor
open Go.RowKit

theorem lit_facts : finB 4607182418800017408 = true ∧ plainF 4607182418800017408 = 4607182418800017408 ∧ finB 4611686018427387904 = true ∧ plainF 4611686018427387904 = 4611686018427387904 ∧ validF 4607182418800017408 4607182418800017408 = true ∧ validF 4607182418800017408 4611686018427387904 = true ∧ validF 4611686018427387904 4607182418800017408 = false ∧ subF 4607182418800017408 4607182418800017408 4607182418800017408 4611686018427387904 = true ∧ plainF (faddF 4607182418800017408 4607182418800017408 1) = 4611686018427387904 ∧ plainF (faddF 4607182418800017408 4607182418800017408 2) = 4611686018427387904 := by decide +kernel
theorem lit_mul : MulF 4607182418800017408 4607182418800017408 4607182418800017408 4611686018427387904 4607182418800017408 4611686018427387904 [4607182418800017408, 4611686018427387904, 4607182418800017408, 4611686018427387904] [4607182418800017408, 4611686018427387904, 4607182418800017408, 4611686018427387904] :=
  ⟨by decide +kernel, by decide +kernel, by decide +kernel, by decide +kernel, by decide +kernel, by decide +kernel⟩

set_option maxRecDepth 100000 in
set_option maxHeartbeats 8000000 in
theorem iawake_any (w : World) : Calls Tryd.prog 7 #[] w fun e w' => e = .returned (.bool true) ∧ Ext w w' := by
  obtain ⟨f1, f2, f3, f4, f5, f6, f7, f8, f9, f10⟩ := lit_facts
  have P1 : ∀ w, Calls Tryd.prog 22 #[.int .u64 4607182418800017408] w fun e w' => e = .returned (.agg #[.int .u64 4607182418800017408, .int .u64 4607182418800017408]) ∧ Ext w w' := point_any 4607182418800017408 (by decide) _ (by rw [f1, f2]; rfl)
  have P2 : ∀ w, Calls Tryd.prog 22 #[.int .u64 4611686018427387904] w fun e w' => e = .returned (.agg #[.int .u64 4611686018427387904, .int .u64 4611686018427387904]) ∧ Ext w w' := point_any 4611686018427387904 (by decide) _ (by rw [f3, f4]; rfl)
  have CA : ∀ w, Calls Tryd.prog 9 #[.agg #[.int .u64 4607182418800017408, .int .u64 4607182418800017408], .agg #[.int .u64 4607182418800017408, .int .u64 4607182418800017408]] w fun e w' => e = .returned (.agg #[.int .u64 4611686018427387904, .int .u64 4611686018427387904]) ∧ Ext w w' := by
    intro w
    have := iadd_yes 4607182418800017408 4607182418800017408 4607182418800017408 4607182418800017408 (by decide) (by decide) (by decide) (by decide) f5 f5 w
    rw [f9, f10] at this
    exact this
  have CM : ∀ w, Calls Tryd.prog 11 #[.agg #[.int .u64 4607182418800017408, .int .u64 4607182418800017408], .agg #[.int .u64 4607182418800017408, .int .u64 4611686018427387904]] w fun e w' => e = .returned (.agg #[.int .u64 4607182418800017408, .int .u64 4611686018427387904]) ∧ Ext w w' := imul_yes 4607182418800017408 4607182418800017408 4607182418800017408 4611686018427387904 4607182418800017408 4611686018427387904 _ _ (by decide) (by decide) (by decide) (by decide) f5 f6 lit_mul
  have V1 : ∀ w, Calls Tryd.prog 23 #[.agg #[.int .u64 4607182418800017408, .int .u64 4611686018427387904]] w fun e w' => e = .returned (.bool true) ∧ Ext w w' := ivalid_at 4607182418800017408 4611686018427387904 (by decide) (by decide) rfl rfl true f6
  have V2 : ∀ w, Calls Tryd.prog 23 #[.agg #[.int .u64 4611686018427387904, .int .u64 4607182418800017408]] w fun e w' => e = .returned (.bool false) ∧ Ext w w' := ivalid_at 4611686018427387904 4607182418800017408 (by decide) (by decide) rfl rfl false f7
  have CS : ∀ w, Calls Tryd.prog 8 #[.agg #[.int .u64 4607182418800017408, .int .u64 4607182418800017408], .agg #[.int .u64 4607182418800017408, .int .u64 4611686018427387904]] w fun e w' => e = .returned (.bool true) ∧ Ext w w' := subset_yes 4607182418800017408 4607182418800017408 4607182418800017408 4611686018427387904 (by decide) (by decide) (by decide) (by decide) f8
  have P1 := Lib.hid P1; have P2 := Lib.hid P2; have CA := Lib.hid CA; have CM := Lib.hid CM; have V1 := Lib.hid V1; have V2 := Lib.hid V2; have CS := Lib.hid CS
  clear f1 f2 f3 f4 f5 f6 f7 f8 f9 f10
  go_enter Tryd.func7, Tryd.ntmps7
  go_wp2_with fail
  refine (P1.out _).mono ?_
  rintro r w1 ⟨rfl, hE1⟩
  go_upto_region 3 with fail
  obtain ⟨W, hW, hB, hx, hy, hsz⟩ := ibox_two w1 4607182418800017408 4607182418800017408 4607182418800017408 4611686018427387904
  rw [← hW]
  clear hW
  have HB := Lib.hid (Ext.trans hE1 hB)
  generalize w1.heap.size = B at hx hy ⊢
  clear hB hsz hE1
  have HC := Lib.hid (show ∀ wx, Ext W wx → (wx.cell? ⟨B, 0, none⟩ = some (.int .u64 4607182418800017408) ∧ wx.cell? ⟨B, 1, none⟩ = some (.int .u64 4607182418800017408)) ∧ (wx.cell? ⟨B + 1, 0, none⟩ = some (.int .u64 4607182418800017408) ∧ wx.cell? ⟨B + 1, 1, none⟩ = some (.int .u64 4611686018427387904)) from fun wx h => ⟨⟨(hx.below h).c0, (hx.below h).c1⟩, (hy.below h).c0, (hy.below h).c1⟩)
  obtain ⟨⟨c0, c1⟩, c2, c3⟩ := HC.out W (Ext.refl _)
  have st : Ext W W.drew := ext_drewB' _
  go_region_held3 (fun wx => (wx.cell? ⟨B, 0, none⟩ = some (.int .u64 4607182418800017408) ∧ wx.cell? ⟨B, 1, none⟩ = some (.int .u64 4607182418800017408)) ∧ (wx.cell? ⟨B + 1, 0, none⟩ = some (.int .u64 4607182418800017408) ∧ wx.cell? ⟨B + 1, 1, none⟩ = some (.int .u64 4611686018427387904)))
    (first | exact HC.out _ (by assumption))
    (first
      | (go_at_call 9; (with_reducible refine (CA.out _).mono ?_); rintro r wn ⟨rfl, hE⟩; have st : Ext W wn := Ext.trans (by assumption) hE; clear hE)
      | (go_at_call 22; (with_reducible refine (P2.out _).mono ?_); rintro r wn ⟨rfl, hE⟩; have st : Ext W wn := Ext.trans (by assumption) hE; clear hE)
      | (go_at_call 11; (with_reducible refine (CM.out _).mono ?_); rintro r wn ⟨rfl, hE⟩; have st : Ext W wn := Ext.trans (by assumption) hE; clear hE)
      | (go_at_call 23; (with_reducible refine (V1.out _).mono ?_); rintro r wn ⟨rfl, hE⟩; have st : Ext W wn := Ext.trans (by assumption) hE; clear hE)
      | (go_at_call 23; (with_reducible refine (V2.out _).mono ?_); rintro r wn ⟨rfl, hE⟩; have st : Ext W wn := Ext.trans (by assumption) hE; clear hE)
      | (go_at_call 8; (with_reducible refine (CS.out _).mono ?_); rintro r wn ⟨rfl, hE⟩; have st : Ext W wn := Ext.trans (by assumption) hE; clear hE))
  go_wp2
  go_ret
  exact ⟨rfl, Ext.trans HB.out (by assumption)⟩

end Go.Proofs.YtolghagbpnjpgaaDoor
