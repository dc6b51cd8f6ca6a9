import Derived.Test.YtecaaklbhhjcjaaDoorDivisorU42
namespace Go.Proofs.YtecaaklbhhjcjaaDoor
open Go.RowKit

set_option maxRecDepth 100000 in
set_option maxHeartbeats 4000000 in
theorem divisor_no (nb mb lb : Bool) (ao bo co : Option Addr) (n m l ca cb cc : Nat) (w : World) (hno : ¬ (n ≤ 20 ∧ m ≤ 20 ∧ l ≤ 20)) (haw : AwakeSays w) :
    Calls Tryd.prog 3 #[.agg #[.bool nb, .slice ao n ca], .agg #[.bool mb, .slice bo m cb], .agg #[.bool lb, .slice co l cc]] w fun e w' => e = .returned (.bool true) ∧ Ext w w' := by
  obtain ⟨W, hW, hB, hx, hy, hz⟩ := boxes_in w nb ao n ca mb bo m cb lb co l cc
  have hAW : AwakeSays W := fun w' h => haw w' (hB.trans h)
  generalize hg : w.heap.size = B at *
  have HG := Lib.hid hg; clear hg
  have hcells : ∀ wx, Ext W wx → (wx.cell? ⟨B, 0, none⟩ = some (.bool nb) ∧ wx.cell? ⟨B, 1, none⟩ = some (.slice ao n ca) ∧ wx.cell? ⟨B + 1, 0, none⟩ = some (.bool mb) ∧ wx.cell? ⟨B + 1, 1, none⟩ = some (.slice bo m cb) ∧ wx.cell? ⟨B + 1 + 1, 0, none⟩ = some (.bool lb) ∧ wx.cell? ⟨B + 1 + 1, 1, none⟩ = some (.slice co l cc)) := fun wx h =>
    ⟨(hx.below h).c0, (hx.below h).c1, (hy.below h).c0, (hy.below h).c1, (hz.below h).c0, (hz.below h).c1⟩
  have HC := Lib.hid hcells
  have HB := Lib.hid hB
  have HNO := Lib.hid hno
  clear hcells hx hy hz hB haw hno
  have HW := Lib.hid hW; clear hW
  by_cases hn : n ≤ 20
  · by_cases hm : m ≤ 20
    · have hl : ¬ l ≤ 20 := fun h => HNO.out ⟨hn, hm, h⟩
      go_enter Tryd.func3, Tryd.ntmps3
      go_wp2_with fail
      rw [HG.out, ← HW.out]
      refine (slim_yes nb ao n ca 20 _ hn).mono ?_
      rintro e w1 ⟨rfl, h1⟩
      obtain ⟨d0, d1, d2, d3, d4, d5⟩ := HC.out w1 h1
      go_wp2_with fail
      refine (slim_yes mb bo m cb 20 _ hm).mono ?_
      rintro e w2 ⟨rfl, h2⟩
      have h12 := h1.trans h2
      clear d0 d1 d2 d3 d4 d5 h1 h2
      obtain ⟨d0, d1, d2, d3, d4, d5⟩ := HC.out w2 h12
      go_wp2_with fail
      refine (slim_no lb co l cc 20 _ hl).mono ?_
      rintro e w3 ⟨rfl, h3⟩
      have h13 := h12.trans h3
      clear d0 d1 d2 d3 d4 d5 h12 h3
      go_wp2_with fail
      refine (hAW _ h13).mono ?_
      rintro e w4 ⟨rfl, h4⟩
      go_wp2
      go_ret
      exact ⟨rfl, HB.out.trans (h13.trans h4)⟩
    · go_enter Tryd.func3, Tryd.ntmps3
      go_wp2_with fail
      rw [HG.out, ← HW.out]
      refine (slim_yes nb ao n ca 20 _ hn).mono ?_
      rintro e w1 ⟨rfl, h1⟩
      obtain ⟨d0, d1, d2, d3, d4, d5⟩ := HC.out w1 h1
      go_wp2_with fail
      refine (slim_no mb bo m cb 20 _ hm).mono ?_
      rintro e w2 ⟨rfl, h2⟩
      have h12 := h1.trans h2
      clear d0 d1 d2 d3 d4 d5 h1 h2
      go_wp2_with fail
      refine (hAW _ h12).mono ?_
      rintro e w4 ⟨rfl, h4⟩
      go_wp2
      go_ret
      exact ⟨rfl, HB.out.trans (h12.trans h4)⟩
  · go_enter Tryd.func3, Tryd.ntmps3
    go_wp2_with fail
    rw [HG.out, ← HW.out]
    refine (slim_no nb ao n ca 20 _ hn).mono ?_
    rintro e w1 ⟨rfl, h1⟩
    go_wp2_with fail
    refine (hAW _ h1).mono ?_
    rintro e w4 ⟨rfl, h4⟩
    go_wp2
    go_ret
    exact ⟨rfl, HB.out.trans (h1.trans h4)⟩
end Go.Proofs.YtecaaklbhhjcjaaDoor
