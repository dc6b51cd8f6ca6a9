import Derived.Test.YtkomhemjodbkpaaDoorTxOrdU42
import Derived.Test.YtkomhemjodbkpaaDoorTxOrdU16
import Derived.Test.YtkomhemjodbkpaaDoorTxOrdU30
import Derived.Test.YtkomhemjodbkpaaDoorTxOrdU18
import Derived.Test.YtkomhemjodbkpaaDoorTxOrdU26
import Derived.Test.YtkomhemjodbkpaaDoorTxOrdU25
import Derived.Deep.RegionHeld3
import Derived.Test.YtkomhemjodbkpaaDoorTxOrdU43
import Derived.Test.YtkomhemjodbkpaaDoorTxOrdU44
import Derived.Test.YtkomhemjodbkpaaDoorTxOrdU45
import Derived.Test.YtkomhemjodbkpaaDoorTxOrdU46
namespace Go.Proofs.YtkomhemjodbkpaaDoor
open Go.RowKit

set_option maxRecDepth 100000 in
set_option maxHeartbeats 4000000 in
theorem order_no (i : Int) (nb mb lb : Bool) (ao bo co : Option Addr) (n m l ca cb cc : Nat) (w : World) (hno : ¬ (n ≤ 40 ∧ m ≤ 40 ∧ l ≤ 40)) (haw : AwakeSays w) :
    Calls Tryd.prog 4 #[.agg #[.bool nb, .slice ao n ca], .agg #[.bool mb, .slice bo m cb], .agg #[.bool lb, .slice co l cc], .int .i64 i] w fun e w' => e = .returned (.bool true) ∧ Ext w w' := by
  obtain ⟨W, hW, hB, hx, hy, hz⟩ := boxes_in w nb ao n ca mb bo m cb lb co l cc
  have hAW : AwakeSays W := fun w' h => haw w' (hB.trans h)
  generalize hg : w.heap.size = B at *
  have HG := Lib.hid hg; clear hg
  have hcells : ∀ wx, Ext W wx → (wx.cell? ⟨B, 0, none⟩ = some (.bool nb) ∧ wx.cell? ⟨B, 1, none⟩ = some (.slice ao n ca) ∧ wx.cell? ⟨B + 1, 0, none⟩ = some (.bool mb) ∧ wx.cell? ⟨B + 1, 1, none⟩ = some (.slice bo m cb) ∧ wx.cell? ⟨B + 1 + 1, 0, none⟩ = some (.bool lb) ∧ wx.cell? ⟨B + 1 + 1, 1, none⟩ = some (.slice co l cc)) := fun wx h =>
    ⟨(hx.below h).c0, (hx.below h).c1, (hy.below h).c0, (hy.below h).c1, (hz.below h).c0, (hz.below h).c1⟩
  have HC := Lib.hid hcells
  have HB := Lib.hid hB
  have HNO := Lib.hid hno
  clear hcells hx hy hz hB haw hno
  have HW := Lib.hid hW; clear hW
  by_cases hn : n ≤ 40
  · by_cases hm : m ≤ 40
    · have hl : ¬ l ≤ 40 := fun h => HNO.out ⟨hn, hm, h⟩
      go_enter Tryd.func4, Tryd.ntmps4
      go_wp2_with fail
      rw [HG.out, ← HW.out]
      refine (slim_yes nb ao n ca 40 _ hn).mono ?_
      rintro e w1 ⟨rfl, h1⟩
      obtain ⟨d0, d1, d2, d3, d4, d5⟩ := HC.out w1 h1
      go_wp2_with fail
      refine (slim_yes mb bo m cb 40 _ hm).mono ?_
      rintro e w2 ⟨rfl, h2⟩
      have h12 := h1.trans h2
      clear d0 d1 d2 d3 d4 d5 h1 h2
      obtain ⟨d0, d1, d2, d3, d4, d5⟩ := HC.out w2 h12
      go_wp2_with fail
      refine (slim_no lb co l cc 40 _ hl).mono ?_
      rintro e w3 ⟨rfl, h3⟩
      have h13 := h12.trans h3
      clear d0 d1 d2 d3 d4 d5 h12 h3
      go_wp2_with fail
      refine (hAW _ h13).mono ?_
      rintro e w4 ⟨rfl, h4⟩
      go_wp2
      go_ret
      exact ⟨rfl, HB.out.trans (h13.trans h4)⟩
    · go_enter Tryd.func4, Tryd.ntmps4
      go_wp2_with fail
      rw [HG.out, ← HW.out]
      refine (slim_yes nb ao n ca 40 _ hn).mono ?_
      rintro e w1 ⟨rfl, h1⟩
      obtain ⟨d0, d1, d2, d3, d4, d5⟩ := HC.out w1 h1
      go_wp2_with fail
      refine (slim_no mb bo m cb 40 _ hm).mono ?_
      rintro e w2 ⟨rfl, h2⟩
      have h12 := h1.trans h2
      clear d0 d1 d2 d3 d4 d5 h1 h2
      go_wp2_with fail
      refine (hAW _ h12).mono ?_
      rintro e w4 ⟨rfl, h4⟩
      go_wp2
      go_ret
      exact ⟨rfl, HB.out.trans (h12.trans h4)⟩
  · go_enter Tryd.func4, Tryd.ntmps4
    go_wp2_with fail
    rw [HG.out, ← HW.out]
    refine (slim_no nb ao n ca 40 _ hn).mono ?_
    rintro e w1 ⟨rfl, h1⟩
    go_wp2_with fail
    refine (hAW _ h1).mono ?_
    rintro e w4 ⟨rfl, h4⟩
    go_wp2
    go_ret
    exact ⟨rfl, HB.out.trans (h1.trans h4)⟩
end Go.Proofs.YtkomhemjodbkpaaDoor

namespace Go.Proofs.YtkomhemjodbkpaaDoor
open Go.RowKit

/-- seven by two -/
theorem div_7_2 : DivSays 7 2 := fun ao bo n m ca cb w ha hb _ _ => by
  have hm : m = 1 := by rw [← hb.len, limbs_pos (by omega), show 2 / 4294967296 = 0 by omega, limbs_zero]; rfl
  subst hm
  exact divide_limb 7 2 ao bo n ca cb w ha hb (by omega)

theorem boxes_new (w : World) (nb : Bool) (ao : Option Addr) (n ca : Nat) (mb : Bool) (bo : Option Addr) (m cb : Nat) :
    ∃ W, W = (w.alloc (.cells #[.bool nb, .slice ao n ca] 24)).alloc (.cells #[.bool mb, .slice bo m cb] 24) ∧ Ext w W ∧ Box W w.heap.size nb ao n ca ∧ Box W (w.heap.size + 1) mb bo m cb := by
  refine ⟨_, rfl, ((Below.refl _ w).alloc (Nat.le_refl _) _).alloc (by simp) _, ?_, ?_⟩
  · exact (Box.new w nb ao n ca).below ((Below.refl _ _).alloc (Nat.le_refl _) _)
  · have := Box.new (w.alloc (.cells #[.bool nb, .slice ao n ca] 24)) mb bo m cb
    simpa using this

theorem one_limb {w : World} {nb : Bool} {ao : Option Addr} {n ca : Nat} {x : Int} (h : Bn w nb ao n ca x) (hx : x.natAbs < 4294967296) : n ≤ 1 := by
  have := (limbs_len_le x.natAbs 1).2 (by omega)
  rw [h.sl.len] at this
  exact this

set_option maxRecDepth 100000 in
set_option maxHeartbeats 4000000 in
theorem awake_any (w : World) : Calls Tryd.prog 6 #[] w fun e w' => e = .returned (.bool true) ∧ Ext w w' := by
  go_enter Tryd.func6, Tryd.ntmps6
  go_wp2_with fail
  refine (fromInt_any (-7) _ (by omega) (by omega)).mono ?_
  rintro e w1 ⟨n1, a1, k1, c1, rfl, h1, hw1⟩
  go_wp2_with fail
  refine (fromInt_any 2 _ (by omega) (by omega)).mono ?_
  rintro e w2 ⟨n2, a2, k2, c2, rfl, h2, hw2⟩
  go_wp2_with fail
  obtain ⟨W, hW, he, b1, b2⟩ := boxes_new w2 n1 a1 k1 c1 n2 a2 k2 c2
  rw [← hW]
  clear hW
  have heW : Ext w W := (Ext.trans hw1 hw2).trans he
  have x1 := (h1.below hw2).below he
  have x2 := h2.below he
  have l1 := one_limb x1 (by decide)
  have l2 := one_limb x2 (by decide)
  generalize w2.heap.size = B at *
  clear h1 h2 hw1 hw2 he
  refine (divMod_any n1 n2 a1 k1 c1 a2 k2 c2 (-7) 2 W (x1.bg (by omega)) (x2.bg (by omega)) (by omega) (by omega) div_7_2).mono ?_
  rintro e w3 ⟨q1, q2, q3, q4, r1, r2, r3, r4, rfl, hq, hr, hw3⟩
  rw [show (-7 : Int) / 2 = -4 from by decide] at hq
  rw [show (-7 : Int) % 2 = 1 from by decide] at hr
  go_wp2_with fail
  obtain ⟨V, hV, hv, d1, d2⟩ := boxes_new w3 q1 q2 q3 q4 r1 r2 r3 r4
  rw [← hV]
  clear hV
  have heV : Ext w V := (heW.trans hw3).trans hv
  have x1 := (x1.below hw3).below hv
  have x2 := (x2.below hw3).below hv
  have xq := hq.below hv
  have xr := hr.below hv
  have b1 := (b1.below hw3).below hv
  have b2 := (b2.below hw3).below hv
  have l3 := one_limb xq (by decide)
  have l4 := one_limb xr (by decide)
  generalize w3.heap.size = D at *
  clear hq hr hw3 hv heW
  refine (int_small q1 q2 q3 q4 (-4) V (xq.bg (by omega)) (by decide)).mono ?_
  rintro e w4 ⟨rfl, hw4⟩
  have heV4 : Ext w w4 := heV.trans hw4
  have x1 := x1.below hw4
  have x2 := x2.below hw4
  have xr := xr.below hw4
  have b1 := b1.below hw4
  have b2 := b2.below hw4
  have d2 := d2.below hw4
  clear d1 hw4 heV xq
  obtain ⟨e0, e1⟩ := And.intro d2.c0 d2.c1
  go_wp2_with fail
  refine (format_1 r1 r2 r3 r4 w4 xr).mono ?_
  rintro e w5 ⟨rfl, hw5⟩
  have heV5 : Ext w w5 := heV4.trans hw5
  have x1 := x1.below hw5
  have x2 := x2.below hw5
  have b1 := b1.below hw5
  have b2 := b2.below hw5
  clear d2 e0 e1 xr hw5 heV4
  obtain ⟨e0, e1⟩ := And.intro b1.c0 b1.c1
  obtain ⟨e2, e3⟩ := And.intro b2.c0 b2.c1
  go_wp2_with fail
  refine (cmp_any n1 n2 a1 k1 c1 a2 k2 c2 (-7) 2 w5 (x1.bg (by omega)) (x2.bg (by omega))).mono ?_
  rw [show sgn3 (-7) 2 = -1 from by decide]
  rintro e w6 ⟨rfl, hw6⟩
  have heV6 : Ext w w6 := heV5.trans hw6
  have x1 := x1.below hw6
  have x2 := x2.below hw6
  have b1 := b1.below hw6
  have b2 := b2.below hw6
  clear e0 e1 e2 e3 hw6 heV5
  obtain ⟨e0, e1⟩ := And.intro b1.c0 b1.c1
  obtain ⟨e2, e3⟩ := And.intro b2.c0 b2.c1
  go_wp2_with fail
  refine (mul_any n1 n2 a1 k1 c1 a2 k2 c2 (-7) 2 w6 (x1.bg (by omega)) (x2.bg (by omega)) (by omega)).mono ?_
  rw [show (-7 : Int) * 2 = -14 from by decide]
  rintro e w7 ⟨m1, m2, m3, m4, rfl, xm, hw7⟩
  go_wp2_with fail
  refine (format_m14 m1 m2 m3 m4 w7 xm).mono ?_
  rintro e w8 ⟨rfl, hw8⟩
  have heV8 : Ext w w8 := (heV6.trans hw7).trans hw8
  clear e0 e1 e2 e3 hw7 hw8 heV6
  go_wp2
  go_ret
  exact ⟨rfl, heV8⟩
end Go.Proofs.YtkomhemjodbkpaaDoor

namespace Go.Proofs.YtkomhemjodbkpaaDoor
open Go Go.RowKit

theorem order_any (nb mb lb : Bool) (ao bo co : Option Addr) (n m l ca cb cc : Nat) (i : Int) (w : World) (ha : n ≤ 1099511627776 → ∃ zs, Sl w ao n ca zs) (hb : m ≤ 1099511627776 → ∃ zs, Sl w bo m cb zs) (hc : l ≤ 1099511627776 → ∃ zs, Sl w co l cc zs)
    (hi : -9223372036854775808 ≤ i ∧ i ≤ 9223372036854775807) (hP : Pow10 w) :
    Calls Tryd.prog 4 #[.agg #[.bool nb, .slice ao n ca], .agg #[.bool mb, .slice bo m cb], .agg #[.bool lb, .slice co l cc], .int .i64 i] w fun e w' => e = .returned (.bool true) ∧ Ext w w' := by
  have haw : AwakeSays w := fun w' _ => awake_any w'
  by_cases h : n ≤ 40 ∧ m ≤ 40 ∧ l ≤ 40
  · obtain ⟨h1, h2, h3⟩ := h
    obtain ⟨xs, hx⟩ := ha (by omega)
    obtain ⟨ys, hy⟩ := hb (by omega)
    obtain ⟨zs, hz⟩ := hc (by omega)
    by_cases h12 : sgn3 (sgd nb xs) (sgd mb ys) = sgn3 (sgd mb ys) (sgd lb zs)
    · have h13 := sgn3_trans _ _ _ h12
      by_cases h0 : sgn3 (sgd nb xs) (sgd mb ys) = 0
      · exact order_sz nb mb lb ao bo co n m l ca cb cc xs ys zs w hx hy hz h1 h2 h3 i hi hP h0 (h12.symm.trans h0) (h13.trans h0) haw
      · exact order_sd nb mb lb ao bo co n m l ca cb cc xs ys zs w hx hy hz h1 h2 h3 i _ hi hP rfl h12.symm h13 h0 haw
    · by_cases h0 : sgn3 (sgd nb xs) (sgd mb ys) = 0
      · exact order_dz nb mb lb ao bo co n m l ca cb cc xs ys zs w hx hy hz h1 h2 h3 i _ _ hi hP h0 rfl rfl (fun e => h12 (h0.trans e)) haw
      · exact order_dd nb mb lb ao bo co n m l ca cb cc xs ys zs w hx hy hz h1 h2 h3 i _ _ _ hi hP rfl rfl rfl h12 h0 haw
  · exact order_no i nb mb lb ao bo co n m l ca cb cc w h haw
end Go.Proofs.YtkomhemjodbkpaaDoor
