/- IntegerDivision returns true where an argument is too long or the divisor is zero: only the check of fixed numbers counts. -/
import Derived.Test.YtkifefinbgceeaaDoorDivision
namespace Go.Proofs.YtkifefinbgceeaaDoor
open Go.RowKit

set_option maxRecDepth 100000 in
set_option maxHeartbeats 4000000 in
theorem division_no (nb mb : Bool) (ao bo : Option Addr) (n m ca cb : Nat) (w : World) (hb : m ≤ 40 → ∃ ys, Sl w bo m cb ys ∧ (n ≤ 40 → sgd mb ys = 0)) (haw : AwakeSays w) :
    Calls Tryd.prog 6 #[.agg #[.bool nb, .slice ao n ca], .agg #[.bool mb, .slice bo m cb]] w fun e w' => e = .returned (.bool true) ∧ Ext w w' := by
  obtain ⟨W, hW, hB, hx, hy⟩ := boxes_two w nb ao n ca mb bo m cb
  have hAW : AwakeSays W := fun w' h => haw w' (hB.trans h)
  generalize hg : w.heap.size = B at *
  have HG := Lib.hid hg; clear hg
  have hcells : ∀ wx, Ext W wx → (wx.cell? ⟨B, 0, none⟩ = some (.bool nb) ∧ wx.cell? ⟨B, 1, none⟩ = some (.slice ao n ca) ∧ wx.cell? ⟨B + 1, 0, none⟩ = some (.bool mb) ∧ wx.cell? ⟨B + 1, 1, none⟩ = some (.slice bo m cb)) := fun wx h =>
    ⟨(hx.below h).c0, (hx.below h).c1, (hy.below h).c0, (hy.below h).c1⟩
  have HC := Lib.hid hcells
  have HB := Lib.hid hB
  clear hcells hx hy hB haw
  have HW := Lib.hid hW; clear hW
  have HD := Lib.hid hb; clear hb
  by_cases hn : n ≤ 40
  · by_cases hm : m ≤ 40
    · obtain ⟨ys, hs, h0⟩ := HD.out hm
      have h0' := h0 hn
      have ry : Ent.Ok W ⟨.agg #[.bool mb, .slice bo m cb], sgd mb ys, 40, false⟩ := ok_raw (nb := mb) (hs.below HB.out) 40 hm (by omega)
      rw [h0'] at ry
      have hst : St W W [⟨.agg #[.bool mb, .slice bo m cb], 0, 40, false⟩] := ⟨Ext.refl W, fun p hp => by
        simp only [List.mem_cons, List.not_mem_nil, or_false] at hp
        subst hp; exact ry⟩
      clear h0 h0' hs ry
      go_enter Tryd.func6, Tryd.ntmps6
      go_wp2_with fail
      rw [HG.out, ← HW.out]
      refine (slim_yes nb ao n ca 40 _ hn).mono ?_
      rintro e w1 ⟨rfl, h1⟩
      have st1 := hst.step h1
      obtain ⟨d0, d1, d2, d3⟩ := HC.out w1 st1.ext
      clear h1
      go_wp2_with fail
      refine (slim_yes mb bo m cb 40 _ hm).mono ?_
      rintro e w2 ⟨rfl, h2⟩
      have st2 := st1.step h2
      clear d0 d1 d2 d3 st1 h2
      obtain ⟨d0, d1, d2, d3⟩ := HC.out w2 st2.ext
      go_wp2_with fail
      refine (refSign_bag st2 (List.Mem.head _) 0 (by decide)).mono ?_
      rintro e w3 ⟨rfl, st3⟩
      have h13 := st3.ext
      clear d0 d1 d2 d3 st2 hst
      go_wp2_with fail
      refine (hAW _ h13).mono ?_
      rintro e w4 ⟨rfl, h4⟩
      go_wp2
      go_ret
      exact ⟨rfl, HB.out.trans (h13.trans h4)⟩
    · go_enter Tryd.func6, Tryd.ntmps6
      go_wp2_with fail
      rw [HG.out, ← HW.out]
      refine (slim_yes nb ao n ca 40 _ hn).mono ?_
      rintro e w1 ⟨rfl, h1⟩
      obtain ⟨d0, d1, d2, d3⟩ := HC.out w1 h1
      go_wp2_with fail
      refine (slim_no mb bo m cb 40 _ hm).mono ?_
      rintro e w2 ⟨rfl, h2⟩
      have h12 := h1.trans h2
      clear d0 d1 d2 d3 h1 h2
      go_wp2_with fail
      refine (hAW _ h12).mono ?_
      rintro e w4 ⟨rfl, h4⟩
      go_wp2
      go_ret
      exact ⟨rfl, HB.out.trans (h12.trans h4)⟩
  · go_enter Tryd.func6, Tryd.ntmps6
    go_wp2_with fail
    rw [HG.out, ← HW.out]
    refine (slim_no nb ao n ca 40 _ hn).mono ?_
    rintro e w1 ⟨rfl, h1⟩
    go_wp2_with fail
    refine (hAW _ h1).mono ?_
    rintro e w4 ⟨rfl, h4⟩
    go_wp2
    go_ret
    exact ⟨rfl, HB.out.trans (h1.trans h4)⟩
end Go.Proofs.YtkifefinbgceeaaDoor
