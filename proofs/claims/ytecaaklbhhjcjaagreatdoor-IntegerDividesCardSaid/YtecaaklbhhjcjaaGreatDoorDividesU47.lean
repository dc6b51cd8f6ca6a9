import Derived.Test.YtecaaklbhhjcjaaGreatDoorDividesU5
import Derived.Test.YtecaaklbhhjcjaaGreatDoorDividesU46
import Derived.Test.YtecaaklbhhjcjaaGreatDoorDividesU11
import Derived.Test.YtecaaklbhhjcjaaGreatDoorDividesU16
import Derived.Test.YtecaaklbhhjcjaaGreatDoorDividesU24
import Derived.Deep.RegionHeld3
import Derived.Test.YtecaaklbhhjcjaaGreatDoorDividesU42
import Derived.Test.YtecaaklbhhjcjaaGreatDoorDividesU43
import Derived.Test.YtecaaklbhhjcjaaGreatDoorDividesU44
namespace Go.Proofs.YtecaaklbhhjcjaaGreatDoor
open Go.RowKit

/-- seven by two -/
theorem div_7_2 : DivSays 7 2 := fun ao bo n m ca cb w ha hb _ _ => by
  have hm : m = 1 := by rw [← hb.len, limbs_pos (by omega), show 2 / 4294967296 = 0 by omega, limbs_zero]; rfl
  subst hm
  exact divide_limb 7 2 ao bo n ca cb w ha hb (by omega)

theorem boxes_new (w : World) (nb : Bool) (ao : Option Addr) (n ca : Nat) (mb : Bool) (bo : Option Addr) (m cb : Nat) :
    ∃ W, W = (w.alloc (.cells #[.bool nb, .slice ao n ca] 24)).alloc (.cells #[.bool mb, .slice bo m cb] 24) ∧ Ext w W ∧ Box W w.heap.size nb ao n ca ∧ Box W (w.heap.size + 1) mb bo m cb := by
  refine ⟨_, rfl, ((Below.refl _ w).alloc (Nat.le_refl _) _).alloc (by simp) _, ?_, ?_⟩
  · exact (Box.new w nb ao n ca).below ((Below.refl _ _).alloc (Nat.le_refl _) _)
  · have := Box.new (w.alloc (.cells #[.bool nb, .slice ao n ca] 24)) mb bo m cb
    simpa using this

theorem one_limb {w : World} {nb : Bool} {ao : Option Addr} {n ca : Nat} {x : Int} (h : Bn w nb ao n ca x) (hx : x.natAbs < 4294967296) : n ≤ 1 := by
  have := (limbs_len_le x.natAbs 1).2 (by omega)
  rw [h.sl.len] at this
  exact this

set_option maxRecDepth 100000 in
set_option maxHeartbeats 4000000 in
theorem awake_any (w : World) : Calls Tryz.prog 7 #[] w fun e w' => e = .returned (.bool true) ∧ Ext w w' := by
  go_enter Tryz.func7, Tryz.ntmps7
  go_wp2_with fail
  refine (fromInt_any (-7) _ (by omega) (by omega)).mono ?_
  rintro e w1 ⟨n1, a1, k1, c1, rfl, h1, hw1⟩
  go_wp2_with fail
  refine (fromInt_any 2 _ (by omega) (by omega)).mono ?_
  rintro e w2 ⟨n2, a2, k2, c2, rfl, h2, hw2⟩
  go_wp2_with fail
  obtain ⟨W, hW, he, b1, b2⟩ := boxes_new w2 n1 a1 k1 c1 n2 a2 k2 c2
  rw [← hW]
  clear hW
  have heW : Ext w W := (Ext.trans hw1 hw2).trans he
  have x1 := (h1.below hw2).below he
  have x2 := h2.below he
  have l1 := one_limb x1 (by decide)
  have l2 := one_limb x2 (by decide)
  generalize w2.heap.size = B at *
  clear h1 h2 hw1 hw2 he
  refine (divMod_any n1 n2 a1 k1 c1 a2 k2 c2 (-7) 2 W (x1.bg (by omega)) (x2.bg (by omega)) (by omega) (by omega) div_7_2).mono ?_
  rintro e w3 ⟨q1, q2, q3, q4, r1, r2, r3, r4, rfl, hq, hr, hw3⟩
  rw [show (-7 : Int) / 2 = -4 from by decide] at hq
  rw [show (-7 : Int) % 2 = 1 from by decide] at hr
  go_wp2_with fail
  obtain ⟨V, hV, hv, d1, d2⟩ := boxes_new w3 q1 q2 q3 q4 r1 r2 r3 r4
  rw [← hV]
  clear hV
  have heV : Ext w V := (heW.trans hw3).trans hv
  have x1 := (x1.below hw3).below hv
  have x2 := (x2.below hw3).below hv
  have xq := hq.below hv
  have xr := hr.below hv
  have b1 := (b1.below hw3).below hv
  have b2 := (b2.below hw3).below hv
  have l3 := one_limb xq (by decide)
  have l4 := one_limb xr (by decide)
  generalize w3.heap.size = D at *
  clear hq hr hw3 hv heW
  refine (int_small q1 q2 q3 q4 (-4) V (xq.bg (by omega)) (by decide)).mono ?_
  rintro e w4 ⟨rfl, hw4⟩
  have heV4 : Ext w w4 := heV.trans hw4
  have x1 := x1.below hw4
  have x2 := x2.below hw4
  have xr := xr.below hw4
  have b1 := b1.below hw4
  have b2 := b2.below hw4
  have d2 := d2.below hw4
  clear d1 hw4 heV xq
  obtain ⟨e0, e1⟩ := And.intro d2.c0 d2.c1
  go_wp2_with fail
  refine (format_1 r1 r2 r3 r4 w4 xr).mono ?_
  rintro e w5 ⟨rfl, hw5⟩
  have heV5 : Ext w w5 := heV4.trans hw5
  have x1 := x1.below hw5
  have x2 := x2.below hw5
  have b1 := b1.below hw5
  have b2 := b2.below hw5
  clear d2 e0 e1 xr hw5 heV4
  obtain ⟨e0, e1⟩ := And.intro b1.c0 b1.c1
  obtain ⟨e2, e3⟩ := And.intro b2.c0 b2.c1
  go_wp2_with fail
  refine (cmp_any n1 n2 a1 k1 c1 a2 k2 c2 (-7) 2 w5 (x1.bg (by omega)) (x2.bg (by omega))).mono ?_
  rw [show sgn3 (-7) 2 = -1 from by decide]
  rintro e w6 ⟨rfl, hw6⟩
  have heV6 : Ext w w6 := heV5.trans hw6
  have x1 := x1.below hw6
  have x2 := x2.below hw6
  have b1 := b1.below hw6
  have b2 := b2.below hw6
  clear e0 e1 e2 e3 hw6 heV5
  obtain ⟨e0, e1⟩ := And.intro b1.c0 b1.c1
  obtain ⟨e2, e3⟩ := And.intro b2.c0 b2.c1
  go_wp2_with fail
  refine (mul_any n1 n2 a1 k1 c1 a2 k2 c2 (-7) 2 w6 (x1.bg (by omega)) (x2.bg (by omega)) (by omega)).mono ?_
  rw [show (-7 : Int) * 2 = -14 from by decide]
  rintro e w7 ⟨m1, m2, m3, m4, rfl, xm, hw7⟩
  go_wp2_with fail
  refine (format_m14 m1 m2 m3 m4 w7 xm).mono ?_
  rintro e w8 ⟨rfl, hw8⟩
  have heV8 : Ext w w8 := (heV6.trans hw7).trans hw8
  clear e0 e1 e2 e3 hw7 hw8 heV6
  go_wp2
  go_ret
  exact ⟨rfl, heV8⟩
end Go.Proofs.YtecaaklbhhjcjaaGreatDoor

namespace Go.Proofs.YtecaaklbhhjcjaaGreatDoor
open Go Go.RowKit

set_option maxRecDepth 100000 in
set_option maxHeartbeats 4000000 in
theorem divides_no (nb mb : Bool) (ao bo : Option Addr) (n m ca cb : Nat) (w : World) (hno : ¬ (n ≤ 40 ∧ m ≤ 40)) (haw : AwakeSays w) :
    Calls Tryz.prog 3 #[.agg #[.bool nb, .slice ao n ca], .agg #[.bool mb, .slice bo m cb]] w fun e w' => e = .returned (.bool true) ∧ Ext w w' := by
  obtain ⟨W, hW, hB, hx, hy⟩ := box_pair w nb ao n ca mb bo m cb
  have hAW : AwakeSays W := fun w' h => haw w' (hB.trans h)
  generalize hg : w.heap.size = B at *
  have HG := Lib.hid hg; clear hg
  have hcells : ∀ wx, Ext W wx → (wx.cell? ⟨B, 0, none⟩ = some (.bool nb) ∧ wx.cell? ⟨B, 1, none⟩ = some (.slice ao n ca) ∧ wx.cell? ⟨B + 1, 0, none⟩ = some (.bool mb) ∧ wx.cell? ⟨B + 1, 1, none⟩ = some (.slice bo m cb)) := fun wx h =>
    ⟨(hx.below h).c0, (hx.below h).c1, (hy.below h).c0, (hy.below h).c1⟩
  have HC := Lib.hid hcells
  have HB := Lib.hid hB
  clear hcells hx hy hB haw
  have HW := Lib.hid hW; clear hW
  have HNO := Lib.hid hno; clear hno
  by_cases hn : n ≤ 40
  · by_cases hm : m ≤ 40
    · exact absurd ⟨hn, hm⟩ HNO.out
    · go_enter Tryz.func3, Tryz.ntmps3
      go_wp2_with fail
      rw [HG.out, ← HW.out]
      refine (slim_yes nb ao n ca 40 _ hn).mono ?_
      rintro e w1 ⟨rfl, h1⟩
      obtain ⟨d0, d1, d2, d3⟩ := HC.out w1 h1
      go_wp2_with fail
      refine (slim_no mb bo m cb 40 _ hm).mono ?_
      rintro e w2 ⟨rfl, h2⟩
      have h12 := h1.trans h2
      clear d0 d1 d2 d3 h1 h2
      go_wp2_with fail
      refine (hAW _ h12).mono ?_
      rintro e w4 ⟨rfl, h4⟩
      go_wp2
      go_ret
      exact ⟨rfl, HB.out.trans (h12.trans h4)⟩
  · go_enter Tryz.func3, Tryz.ntmps3
    go_wp2_with fail
    rw [HG.out, ← HW.out]
    refine (slim_no nb ao n ca 40 _ hn).mono ?_
    rintro e w1 ⟨rfl, h1⟩
    go_wp2_with fail
    refine (hAW _ h1).mono ?_
    rintro e w4 ⟨rfl, h4⟩
    go_wp2
    go_ret
    exact ⟨rfl, HB.out.trans (h1.trans h4)⟩

theorem pow_big {a n N : Nat} (h : a < 4294967296 ^ n) (hN : n ≤ N) : a < 4294967296 ^ N := Nat.lt_of_lt_of_le h (Nat.pow_le_pow_right (by decide) hN)
theorem raw_small {w : World} {ao : Option Addr} {n ca : Nat} {zs : List Int} (nb : Bool) (h : Sl w ao n ca zs) (hn : n ≤ 40) (N : Nat) (hN : 40 ≤ N) : Bg w nb ao n ca (sgd nb zs) ∧ (sgd nb zs).natAbs < 4294967296 ^ N := by
  refine ⟨⟨⟨zs, h, rfl⟩, by omega⟩, ?_⟩
  rw [sgd_natAbs h.wf]
  have h1 := num_lt h.wf
  rw [h.len] at h1
  have h0 := num_nonneg h.wf
  have h2 : (num zs).toNat < 4294967296 ^ n := by
    have h3 : ((4294967296 ^ n : Nat) : Int) = 4294967296 ^ n := by rw [Int.natCast_pow]; rfl
    omega
  exact pow_big h2 (Nat.le_trans hn hN)

theorem divides_any (an bn : Bool) (ao bo : Option Addr) (ak bk ac bc : Nat) (w : World) (ha : ak ≤ 1099511627776 → ∃ zs, Sl w ao ak ac zs) (hb : bk ≤ 1099511627776 → ∃ zs, Sl w bo bk bc zs) :
    Calls Tryz.prog 3 #[.agg #[.bool an, .slice ao ak ac], .agg #[.bool bn, .slice bo bk bc]] w fun e w' => e = .returned (.bool true) ∧ Ext w w' := by
  have haw : AwakeSays w := fun w' _ => awake_any w'
  by_cases h : ak ≤ 40 ∧ bk ≤ 40
  · obtain ⟨h1, h2⟩ := h
    obtain ⟨xs, hx⟩ := ha (by omega)
    obtain ⟨ys, hy⟩ := hb (by omega)
    obtain ⟨gx, lx⟩ := raw_small an hx h1 100000000 (by decide)
    obtain ⟨gy, ly⟩ := raw_small bn hy h2 100000000 (by decide)
    by_cases h0 : sgd bn ys = 0
    · exact divides_zero an bn ao bo ak ac bk bc _ _ w gx gy h1 h2 lx ly h0 haw
    · by_cases h3 : sgd an xs % sgd bn ys = 0
      · exact divides_exact an bn ao bo ak ac bk bc _ _ w gx gy h1 h2 lx ly h0 h3 haw
      · exact divides_rest an bn ao bo ak ac bk bc _ _ w gx gy h1 h2 lx ly h0 h3 haw
  · exact divides_no an bn ao bo ak bk ac bc w h haw
end Go.Proofs.YtecaaklbhhjcjaaGreatDoor
