/- IntegerExact returns true for every input. -/
import Derived.Test.YtpjfipjmpppjcaaDoorCIExact
import Derived.Test.YtpjfipjmpppjcaaDoorCAwake
namespace Go.Proofs.YtpjfipjmpppjcaaDoor
open Go.RowKit

set_option maxRecDepth 100000 in
set_option maxHeartbeats 4000000 in
theorem iexact_no (nb mb : Bool) (ao bo : Option Addr) (n m ca cb : Nat) (i : Int) (w : World) (hno : ¬ (n ≤ 40 ∧ m ≤ 40)) (haw : AwakeSays w) :
    Calls Tryd.prog 3 #[.agg #[.bool nb, .slice ao n ca], .agg #[.bool mb, .slice bo m cb], .int .i64 i] w fun e w' => e = .returned (.bool true) ∧ Ext w w' := by
  obtain ⟨W, hW, hB, hx, hy⟩ := box_pair w nb ao n ca mb bo m cb
  have hAW : AwakeSays W := fun w' h => haw w' (hB.trans h)
  generalize hg : w.heap.size = B at *
  have HG := Lib.hid hg; clear hg
  have hcells : ∀ wx, Ext W wx → (wx.cell? ⟨B, 0, none⟩ = some (.bool nb) ∧ wx.cell? ⟨B, 1, none⟩ = some (.slice ao n ca) ∧ wx.cell? ⟨B + 1, 0, none⟩ = some (.bool mb) ∧ wx.cell? ⟨B + 1, 1, none⟩ = some (.slice bo m cb)) := fun wx h =>
    ⟨(hx.below h).c0, (hx.below h).c1, (hy.below h).c0, (hy.below h).c1⟩
  have HC := Lib.hid hcells
  have HB := Lib.hid hB
  have HNO := Lib.hid hno
  clear hcells hx hy hB haw hno
  have HW := Lib.hid hW; clear hW
  by_cases hn : n ≤ 40
  · have hm : ¬ m ≤ 40 := fun h => HNO.out ⟨hn, h⟩
    go_enter Tryd.func3, Tryd.ntmps3
    go_upto_region 1 with fail
    rw [HG.out, ← HW.out]
    obtain ⟨d0, d1, d2, d3⟩ := HC.out W (Ext.refl _)
    go_wp2_with fail
    refine (slim_yes nb ao n ca 40 _ hn).mono ?_
    rintro e w1 ⟨rfl, h1⟩
    clear d0 d1 d2 d3
    obtain ⟨d0, d1, d2, d3⟩ := HC.out w1 h1
    go_wp2_with fail
    refine (slim_no mb bo m cb 40 _ hm).mono ?_
    rintro e w2 ⟨rfl, h2⟩
    have h12 := h1.trans h2
    clear d0 d1 d2 d3 h1 h2
    go_wp2_with fail
    refine (hAW _ h12).mono ?_
    rintro e w4 ⟨rfl, h4⟩
    go_wp2
    go_ret
    exact ⟨rfl, HB.out.trans (h12.trans h4)⟩
  · go_enter Tryd.func3, Tryd.ntmps3
    go_upto_region 1 with fail
    rw [HG.out, ← HW.out]
    obtain ⟨d0, d1, d2, d3⟩ := HC.out W (Ext.refl _)
    go_wp2_with fail
    refine (slim_no nb ao n ca 40 _ hn).mono ?_
    rintro e w1 ⟨rfl, h1⟩
    go_wp2_with fail
    refine (hAW _ h1).mono ?_
    rintro e w4 ⟨rfl, h4⟩
    go_wp2
    go_ret
    exact ⟨rfl, HB.out.trans (h1.trans h4)⟩

theorem iexact_any (nb mb : Bool) (ao bo : Option Addr) (n m ca cb : Nat) (i : Int) (w : World) (ha : n ≤ 1099511627776 → ∃ zs, Sl w ao n ca zs) (hb : m ≤ 1099511627776 → ∃ zs, Sl w bo m cb zs) (hi : -9223372036854775808 ≤ i ∧ i ≤ 9223372036854775807) :
    Calls Tryd.prog 3 #[.agg #[.bool nb, .slice ao n ca], .agg #[.bool mb, .slice bo m cb], .int .i64 i] w fun e w' => e = .returned (.bool true) ∧ Ext w w' := by
  have haw : AwakeSays w := fun w' _ => awake_any w'
  by_cases h : n ≤ 40 ∧ m ≤ 40
  · obtain ⟨xs, hx⟩ := ha (by omega)
    obtain ⟨ys, hy⟩ := hb (by omega)
    exact iexact_yes nb mb ao bo n m ca cb i xs ys w hx hy h.1 h.2 hi haw
  · exact iexact_no nb mb ao bo n m ca cb i w h haw
end Go.Proofs.YtpjfipjmpppjcaaDoor
