/- IntervalMeets returns true, from what its callees do. -/
import Derived.Test.YtjohpdobnedilaaDoorCIMeetC
import Derived.Test.YtjohpdobnedilaaDoorCISub
import Derived.Test.YtjohpdobnedilaaDoorCIPoints
namespace Go.Proofs.YtjohpdobnedilaaDoor
open Go Go.RowKit

set_option maxRecDepth 100000 in
set_option maxHeartbeats 40000000 in
theorem imeets_no (a b c d f : Nat) (ha : a < 18446744073709551616) (hb : b < 18446744073709551616) (hc : c < 18446744073709551616) (hd : d < 18446744073709551616) (hf : f < 18446744073709551616) (h : validF a b = false ∨ validF c d = false) (w : World) (hT : Table w) :
    Calls Tryd.prog 3 #[.agg #[.int .u64 (a : Int), .int .u64 (b : Int)], .agg #[.int .u64 (c : Int), .int .u64 (d : Int)], .int .u64 (f : Int)] w fun e w' => e = .returned (.bool true) ∧ Ext w w' := by
  have hs : subF a b c d = false := by
    unfold subF
    rcases h with h | h <;> rw [h] <;> simp
  have hi : interF a b c d = false := by
    unfold interF
    rcases h with h | h <;> rw [h] <;> simp
  obtain ⟨p, hp⟩ : ∃ p, contF a b f = p := ⟨_, rfl⟩
  obtain ⟨q, hq⟩ : ∃ q, contF c d f = q := ⟨_, rfl⟩
  obtain ⟨v1, h1⟩ : ∃ v, validF a b = v := ⟨_, rfl⟩
  obtain ⟨v2, h2⟩ : ∃ v, validF c d = v := ⟨_, rfl⟩
  have hpv : v1 = false → p = false := fun e => by rw [← hp]; unfold contF; rw [h1, e]; rfl
  have hqv : v2 = false → q = false := fun e => by rw [← hq]; unfold contF; rw [h2, e]; rfl
  rw [h1, h2] at h
  have M := Lib.hid (imeet_no a b c d ha hb hc hd (by rw [h1, h2]; exact h) w 0 0)
  have M := Lib.hid (show ∀ W, Calls Tryd.prog 5 #[.agg #[.int .u64 (a : Int), .int .u64 (b : Int)], .agg #[.int .u64 (c : Int), .int .u64 (d : Int)]] W fun e w' => e = .returned (meetV 0 0 false) ∧ Ext W w' from fun W => imeet_no a b c d ha hb hc hd (by rw [h1, h2]; exact h) W 0 0)
  have MV := Lib.hid (show meetV 0 0 false = .tuple #[.agg #[.int .u64 0, .int .u64 0], .bool false] from rfl)
  have P := Lib.hid (fun W (hE : Ext w W) => within_any a b f ha hb hf p hp W (hT.below hE))
  have Q := Lib.hid (fun W (hE : Ext w W) => within_any c d f hc hd hf q hq W (hT.below hE))
  have V1 := Lib.hid (fun W => refValid_any a b ha hb v1 h1 W)
  have V2 := Lib.hid (fun W => refValid_any c d hc hd v2 h2 W)
  have S := Lib.hid (fun W => isubset_any a b c d ha hb hc hd false hs W)
  have I := Lib.hid (fun W => iinterior_any a b c d ha hb hc hd false hi W)
  clear hs hi hp hq h1 h2 ha hb hc hd hf hT
  cases v1
  · obtain rfl : p = false := hpv rfl
    clear hpv hqv h
    go_enter Tryd.func3, Tryd.ntmps3
    go_upto_region 1 with fail
    obtain ⟨W, hW, hB, hx, hy, hsz⟩ := ibox_two w a b c d
    rw [← hW]
    clear hW
    have HB := Lib.hid hB
    generalize w.heap.size = B at hx hy ⊢
    clear hB hsz
    have c0 := hx.c0
    have c1 := hx.c1
    have c2 := hy.c0
    have c3 := hy.c1
    go_wp2_with fail
    refine (M.out _).mono ?_
    rintro r w1 ⟨rfl, hE⟩
    have hx := hx.below hE
    have hy := hy.below hE
    have HB := Lib.hid (HB.out.trans hE)
    clear c0 c1 c2 c3 hE
    rw [MV.out]
    go_upto_region 2 with fail
    obtain ⟨V, hV, hE, hm, hsz⟩ := ibox_new w1 0 0
    rw [← hV]
    clear hV
    have hx := hx.below hE
    have hy := hy.below hE
    have HB := Lib.hid (HB.out.trans hE)
    generalize w1.heap.size = D at hm ⊢
    clear hE hsz
    have HC := Lib.hid (show ∀ wx, Ext V wx → ((wx.cell? ⟨B, 0, none⟩ = some (.int .u64 (a : Int)) ∧ wx.cell? ⟨B, 1, none⟩ = some (.int .u64 (b : Int))) ∧ (wx.cell? ⟨B + 1, 0, none⟩ = some (.int .u64 (c : Int)) ∧ wx.cell? ⟨B + 1, 1, none⟩ = some (.int .u64 (d : Int)))) ∧ (wx.cell? ⟨D, 0, none⟩ = some (.int .u64 0) ∧ wx.cell? ⟨D, 1, none⟩ = some (.int .u64 0)) from fun wx h => ⟨⟨⟨(hx.below h).c0, (hx.below h).c1⟩, (hy.below h).c0, (hy.below h).c1⟩, (hm.below h).c0, (hm.below h).c1⟩)
    have st : Ext V V := Ext.refl _
    obtain ⟨⟨⟨x0, x1⟩, y0, y1⟩, m0, m1⟩ := HC.out V st
    clear hx hy hm
    go_wp2_with fail
    refine (P.out _ (Ext.trans HB.out st)).mono ?_
    rintro r w2 ⟨rfl, hE⟩
    have st := Ext.trans st hE
    clear x0 x1 y0 y1 m0 m1 hE
    obtain ⟨⟨⟨x0, x1⟩, y0, y1⟩, m0, m1⟩ := HC.out w2 st
    go_wp2_with fail
    refine (V1.out _).mono ?_
    rintro r w3 ⟨rfl, hE⟩
    have st := Ext.trans st hE
    clear x0 x1 y0 y1 m0 m1 hE
    obtain ⟨⟨⟨x0, x1⟩, y0, y1⟩, m0, m1⟩ := HC.out w3 st
    go_wp2_with fail
    refine (S.out _).mono ?_
    rintro r w4 ⟨rfl, hE⟩
    have st := Ext.trans st hE
    clear x0 x1 y0 y1 m0 m1 hE
    obtain ⟨⟨⟨x0, x1⟩, y0, y1⟩, m0, m1⟩ := HC.out w4 st
    go_wp2_with fail
    refine (I.out _).mono ?_
    rintro r w5 ⟨rfl, hE⟩
    have st := Ext.trans st hE
    clear x0 x1 y0 y1 m0 m1 hE
    obtain ⟨⟨⟨x0, x1⟩, y0, y1⟩, m0, m1⟩ := HC.out w5 st
    go_wp2_with fail
    refine (iawake_any _).mono ?_
    rintro r w6 ⟨rfl, hE⟩
    have st := Ext.trans st hE
    clear x0 x1 y0 y1 m0 m1 hE
    obtain ⟨⟨⟨x0, x1⟩, y0, y1⟩, m0, m1⟩ := HC.out w6 st
    have EX := Lib.hid (Ext.trans HB.out st)
    go_wp2
    go_ret
    exact ⟨rfl, EX.out⟩
  · obtain rfl : v2 = false := by rcases h with h | h; cases h; exact h
    obtain rfl : q = false := hqv rfl
    clear hpv hqv h
    cases p
    · skip
      go_enter Tryd.func3, Tryd.ntmps3
      go_upto_region 1 with fail
      obtain ⟨W, hW, hB, hx, hy, hsz⟩ := ibox_two w a b c d
      rw [← hW]
      clear hW
      have HB := Lib.hid hB
      generalize w.heap.size = B at hx hy ⊢
      clear hB hsz
      have c0 := hx.c0
      have c1 := hx.c1
      have c2 := hy.c0
      have c3 := hy.c1
      go_wp2_with fail
      refine (M.out _).mono ?_
      rintro r w1 ⟨rfl, hE⟩
      have hx := hx.below hE
      have hy := hy.below hE
      have HB := Lib.hid (HB.out.trans hE)
      clear c0 c1 c2 c3 hE
      rw [MV.out]
      go_upto_region 2 with fail
      obtain ⟨V, hV, hE, hm, hsz⟩ := ibox_new w1 0 0
      rw [← hV]
      clear hV
      have hx := hx.below hE
      have hy := hy.below hE
      have HB := Lib.hid (HB.out.trans hE)
      generalize w1.heap.size = D at hm ⊢
      clear hE hsz
      have HC := Lib.hid (show ∀ wx, Ext V wx → ((wx.cell? ⟨B, 0, none⟩ = some (.int .u64 (a : Int)) ∧ wx.cell? ⟨B, 1, none⟩ = some (.int .u64 (b : Int))) ∧ (wx.cell? ⟨B + 1, 0, none⟩ = some (.int .u64 (c : Int)) ∧ wx.cell? ⟨B + 1, 1, none⟩ = some (.int .u64 (d : Int)))) ∧ (wx.cell? ⟨D, 0, none⟩ = some (.int .u64 0) ∧ wx.cell? ⟨D, 1, none⟩ = some (.int .u64 0)) from fun wx h => ⟨⟨⟨(hx.below h).c0, (hx.below h).c1⟩, (hy.below h).c0, (hy.below h).c1⟩, (hm.below h).c0, (hm.below h).c1⟩)
      have st : Ext V V := Ext.refl _
      obtain ⟨⟨⟨x0, x1⟩, y0, y1⟩, m0, m1⟩ := HC.out V st
      clear hx hy hm
      go_wp2_with fail
      refine (P.out _ (Ext.trans HB.out st)).mono ?_
      rintro r w2 ⟨rfl, hE⟩
      have st := Ext.trans st hE
      clear x0 x1 y0 y1 m0 m1 hE
      obtain ⟨⟨⟨x0, x1⟩, y0, y1⟩, m0, m1⟩ := HC.out w2 st
      go_wp2_with fail
      refine (V1.out _).mono ?_
      rintro r w3 ⟨rfl, hE⟩
      have st := Ext.trans st hE
      clear x0 x1 y0 y1 m0 m1 hE
      obtain ⟨⟨⟨x0, x1⟩, y0, y1⟩, m0, m1⟩ := HC.out w3 st
      go_wp2_with fail
      refine (V2.out _).mono ?_
      rintro r w4 ⟨rfl, hE⟩
      have st := Ext.trans st hE
      clear x0 x1 y0 y1 m0 m1 hE
      obtain ⟨⟨⟨x0, x1⟩, y0, y1⟩, m0, m1⟩ := HC.out w4 st
      go_wp2_with fail
      refine (S.out _).mono ?_
      rintro r w5 ⟨rfl, hE⟩
      have st := Ext.trans st hE
      clear x0 x1 y0 y1 m0 m1 hE
      obtain ⟨⟨⟨x0, x1⟩, y0, y1⟩, m0, m1⟩ := HC.out w5 st
      go_wp2_with fail
      refine (I.out _).mono ?_
      rintro r w6 ⟨rfl, hE⟩
      have st := Ext.trans st hE
      clear x0 x1 y0 y1 m0 m1 hE
      obtain ⟨⟨⟨x0, x1⟩, y0, y1⟩, m0, m1⟩ := HC.out w6 st
      go_wp2_with fail
      refine (iawake_any _).mono ?_
      rintro r w7 ⟨rfl, hE⟩
      have st := Ext.trans st hE
      clear x0 x1 y0 y1 m0 m1 hE
      obtain ⟨⟨⟨x0, x1⟩, y0, y1⟩, m0, m1⟩ := HC.out w7 st
      have EX := Lib.hid (Ext.trans HB.out st)
      go_wp2
      go_ret
      exact ⟨rfl, EX.out⟩
    · skip
      go_enter Tryd.func3, Tryd.ntmps3
      go_upto_region 1 with fail
      obtain ⟨W, hW, hB, hx, hy, hsz⟩ := ibox_two w a b c d
      rw [← hW]
      clear hW
      have HB := Lib.hid hB
      generalize w.heap.size = B at hx hy ⊢
      clear hB hsz
      have c0 := hx.c0
      have c1 := hx.c1
      have c2 := hy.c0
      have c3 := hy.c1
      go_wp2_with fail
      refine (M.out _).mono ?_
      rintro r w1 ⟨rfl, hE⟩
      have hx := hx.below hE
      have hy := hy.below hE
      have HB := Lib.hid (HB.out.trans hE)
      clear c0 c1 c2 c3 hE
      rw [MV.out]
      go_upto_region 2 with fail
      obtain ⟨V, hV, hE, hm, hsz⟩ := ibox_new w1 0 0
      rw [← hV]
      clear hV
      have hx := hx.below hE
      have hy := hy.below hE
      have HB := Lib.hid (HB.out.trans hE)
      generalize w1.heap.size = D at hm ⊢
      clear hE hsz
      have HC := Lib.hid (show ∀ wx, Ext V wx → ((wx.cell? ⟨B, 0, none⟩ = some (.int .u64 (a : Int)) ∧ wx.cell? ⟨B, 1, none⟩ = some (.int .u64 (b : Int))) ∧ (wx.cell? ⟨B + 1, 0, none⟩ = some (.int .u64 (c : Int)) ∧ wx.cell? ⟨B + 1, 1, none⟩ = some (.int .u64 (d : Int)))) ∧ (wx.cell? ⟨D, 0, none⟩ = some (.int .u64 0) ∧ wx.cell? ⟨D, 1, none⟩ = some (.int .u64 0)) from fun wx h => ⟨⟨⟨(hx.below h).c0, (hx.below h).c1⟩, (hy.below h).c0, (hy.below h).c1⟩, (hm.below h).c0, (hm.below h).c1⟩)
      have st : Ext V V := Ext.refl _
      obtain ⟨⟨⟨x0, x1⟩, y0, y1⟩, m0, m1⟩ := HC.out V st
      clear hx hy hm
      go_wp2_with fail
      refine (P.out _ (Ext.trans HB.out st)).mono ?_
      rintro r w2 ⟨rfl, hE⟩
      have st := Ext.trans st hE
      clear x0 x1 y0 y1 m0 m1 hE
      obtain ⟨⟨⟨x0, x1⟩, y0, y1⟩, m0, m1⟩ := HC.out w2 st
      go_wp2_with fail
      refine (Q.out _ (Ext.trans HB.out st)).mono ?_
      rintro r w3 ⟨rfl, hE⟩
      have st := Ext.trans st hE
      clear x0 x1 y0 y1 m0 m1 hE
      obtain ⟨⟨⟨x0, x1⟩, y0, y1⟩, m0, m1⟩ := HC.out w3 st
      go_wp2_with fail
      refine (V1.out _).mono ?_
      rintro r w4 ⟨rfl, hE⟩
      have st := Ext.trans st hE
      clear x0 x1 y0 y1 m0 m1 hE
      obtain ⟨⟨⟨x0, x1⟩, y0, y1⟩, m0, m1⟩ := HC.out w4 st
      go_wp2_with fail
      refine (V2.out _).mono ?_
      rintro r w5 ⟨rfl, hE⟩
      have st := Ext.trans st hE
      clear x0 x1 y0 y1 m0 m1 hE
      obtain ⟨⟨⟨x0, x1⟩, y0, y1⟩, m0, m1⟩ := HC.out w5 st
      go_wp2_with fail
      refine (S.out _).mono ?_
      rintro r w6 ⟨rfl, hE⟩
      have st := Ext.trans st hE
      clear x0 x1 y0 y1 m0 m1 hE
      obtain ⟨⟨⟨x0, x1⟩, y0, y1⟩, m0, m1⟩ := HC.out w6 st
      go_wp2_with fail
      refine (I.out _).mono ?_
      rintro r w7 ⟨rfl, hE⟩
      have st := Ext.trans st hE
      clear x0 x1 y0 y1 m0 m1 hE
      obtain ⟨⟨⟨x0, x1⟩, y0, y1⟩, m0, m1⟩ := HC.out w7 st
      go_wp2_with fail
      refine (iawake_any _).mono ?_
      rintro r w8 ⟨rfl, hE⟩
      have st := Ext.trans st hE
      clear x0 x1 y0 y1 m0 m1 hE
      obtain ⟨⟨⟨x0, x1⟩, y0, y1⟩, m0, m1⟩ := HC.out w8 st
      have EX := Lib.hid (Ext.trans HB.out st)
      go_wp2
      go_ret
      exact ⟨rfl, EX.out⟩


set_option maxRecDepth 100000 in
set_option maxHeartbeats 40000000 in
theorem imeets_apart (a b c d f : Nat) (ha : a < 18446744073709551616) (hb : b < 18446744073709551616) (hc : c < 18446744073709551616) (hd : d < 18446744073709551616) (hf : f < 18446744073709551616) (h1 : validF a b = true) (h2 : validF c d = true) (hk : validF (meetLo a c) (meetHi b d) = false) (w : World) (hT : Table w) :
    Calls Tryd.prog 3 #[.agg #[.int .u64 (a : Int), .int .u64 (b : Int)], .agg #[.int .u64 (c : Int), .int .u64 (d : Int)], .int .u64 (f : Int)] w fun e w' => e = .returned (.bool true) ∧ Ext w w' := by
  obtain ⟨l1, l2, l3, l4⟩ := meet_lt ha hb hc hd
  obtain ⟨g1, g2⟩ := hull_sub ha hb hc hd h1 h2
  have hin := inter_sub ha hb hc hd
  obtain ⟨p, hp⟩ : ∃ p, contF a b f = p := ⟨_, rfl⟩
  obtain ⟨q, hq⟩ : ∃ q, contF c d f = q := ⟨_, rfl⟩
  obtain ⟨hpq, hs⟩ := meet_no (f := f) ha hb hc hd h1 h2 hk
  rw [hp, hq] at hpq
  have hi : interF a b c d = false := by
    cases hx : interF a b c d with
    | false => rfl
    | true => rw [hin hx] at hs; cases hs
  have M := Lib.hid (fun W => imeet_yes a b c d ha hb hc hd h1 h2 false hk W)
  have S := Lib.hid (fun W => isubset_any a b c d ha hb hc hd false hs W)
  have I := Lib.hid (fun W => iinterior_any a b c d ha hb hc hd false hi W)
  have P := Lib.hid (fun W (hE : Ext w W) => within_any a b f ha hb hf p hp W (hT.below hE))
  have Q := Lib.hid (fun W (hE : Ext w W) => within_any c d f hc hd hf q hq W (hT.below hE))
  have V1 := Lib.hid (fun W => refValid_any a b ha hb true h1 W)
  have V2 := Lib.hid (fun W => refValid_any c d hc hd true h2 W)
  have H := Lib.hid (fun W => ihull_yes a b c d ha hb hc hd h1 h2 W)
  have S1 := Lib.hid (fun W => isubset_any a b (hullLo a c) (hullHi b d) ha hb l3 l4 true g1 W)
  have S2 := Lib.hid (fun W => isubset_any c d (hullLo a c) (hullHi b d) hc hd l3 l4 true g2 W)
  obtain ⟨hlo, e1⟩ : ∃ x : Int, ((hullLo a c : Nat) : Int) = x := ⟨_, rfl⟩
  obtain ⟨hhi, e2⟩ : ∃ x : Int, ((hullHi b d : Nat) : Int) = x := ⟨_, rfl⟩
  rw [e1, e2] at H S1 S2
  have MV := Lib.hid (show meetV ((meetLo a c : Nat) : Int) ((meetHi b d : Nat) : Int) false = .tuple #[.agg #[.int .u64 0, .int .u64 0], .bool false] from rfl)
  clear e1 e2 l1 l2 l3 l4 g1 g2 hin hk hs hi hp hq h1 h2 ha hb hc hd hf hT
  cases p
  · clear hpq
    go_enter Tryd.func3, Tryd.ntmps3
    go_upto_region 1 with fail
    obtain ⟨W, hW, hB, hx, hy, hsz⟩ := ibox_two w a b c d
    rw [← hW]
    clear hW
    have HB := Lib.hid hB
    generalize w.heap.size = B at hx hy ⊢
    clear hB hsz
    have c0 := hx.c0
    have c1 := hx.c1
    have c2 := hy.c0
    have c3 := hy.c1
    go_wp2_with fail
    refine (M.out _).mono ?_
    rintro r w1 ⟨rfl, hE⟩
    have hx := hx.below hE
    have hy := hy.below hE
    have HB := Lib.hid (HB.out.trans hE)
    clear c0 c1 c2 c3 hE
    rw [MV.out]
    go_upto_region 2 with fail
    obtain ⟨V, hV, hE, hm, hsz⟩ := ibox_new w1 0 0
    rw [← hV]
    clear hV
    have hx := hx.below hE
    have hy := hy.below hE
    have HB := Lib.hid (HB.out.trans hE)
    generalize w1.heap.size = D at hm ⊢
    clear hE hsz
    have HC := Lib.hid (show ∀ wx, Ext V wx → ((wx.cell? ⟨B, 0, none⟩ = some (.int .u64 (a : Int)) ∧ wx.cell? ⟨B, 1, none⟩ = some (.int .u64 (b : Int))) ∧ (wx.cell? ⟨B + 1, 0, none⟩ = some (.int .u64 (c : Int)) ∧ wx.cell? ⟨B + 1, 1, none⟩ = some (.int .u64 (d : Int)))) ∧ (wx.cell? ⟨D, 0, none⟩ = some (.int .u64 0) ∧ wx.cell? ⟨D, 1, none⟩ = some (.int .u64 0)) from fun wx h => ⟨⟨⟨(hx.below h).c0, (hx.below h).c1⟩, (hy.below h).c0, (hy.below h).c1⟩, (hm.below h).c0, (hm.below h).c1⟩)
    have st : Ext V V := Ext.refl _
    obtain ⟨⟨⟨x0, x1⟩, y0, y1⟩, m0, m1⟩ := HC.out V st
    clear hx hy hm
    go_wp2_with fail
    refine (P.out _ (Ext.trans HB.out st)).mono ?_
    rintro r w2 ⟨rfl, hE⟩
    have st := Ext.trans st hE
    clear x0 x1 y0 y1 m0 m1 hE
    obtain ⟨⟨⟨x0, x1⟩, y0, y1⟩, m0, m1⟩ := HC.out w2 st
    go_wp2_with fail
    refine (V1.out _).mono ?_
    rintro r w3 ⟨rfl, hE⟩
    have st := Ext.trans st hE
    clear x0 x1 y0 y1 m0 m1 hE
    obtain ⟨⟨⟨x0, x1⟩, y0, y1⟩, m0, m1⟩ := HC.out w3 st
    go_wp2_with fail
    refine (V2.out _).mono ?_
    rintro r w4 ⟨rfl, hE⟩
    have st := Ext.trans st hE
    clear x0 x1 y0 y1 m0 m1 hE
    obtain ⟨⟨⟨x0, x1⟩, y0, y1⟩, m0, m1⟩ := HC.out w4 st
    go_wp2_with fail
    refine (H.out _).mono ?_
    rintro r w5 ⟨rfl, hE⟩
    have st := Ext.trans st hE
    clear x0 x1 y0 y1 m0 m1 hE
    go_upto_region 8 with fail
    obtain ⟨V2, hV2, hE2, hh, hsz⟩ := ibox_new w5 hlo hhi
    rw [← hV2]
    clear hV2
    have HC0 := Lib.hid (fun wx (h : Ext V2 wx) => HC.out wx (Ext.trans (Ext.trans st hE2) h))
    have HB := Lib.hid (HB.out.trans (Ext.trans st hE2))
    have HTT2 := Lib.hid (fun wx (h : Ext V2 wx) => Ext.trans (Ext.trans st hE2) h)
    generalize w5.heap.size = D2 at hh ⊢
    clear hsz HC hE2 st
    have HC := Lib.hid (show ∀ wx, Ext V2 wx → (((wx.cell? ⟨B, 0, none⟩ = some (.int .u64 (a : Int)) ∧ wx.cell? ⟨B, 1, none⟩ = some (.int .u64 (b : Int))) ∧ (wx.cell? ⟨B + 1, 0, none⟩ = some (.int .u64 (c : Int)) ∧ wx.cell? ⟨B + 1, 1, none⟩ = some (.int .u64 (d : Int)))) ∧ (wx.cell? ⟨D, 0, none⟩ = some (.int .u64 0) ∧ wx.cell? ⟨D, 1, none⟩ = some (.int .u64 0))) ∧ (wx.cell? ⟨D2, 0, none⟩ = some (.int .u64 hlo) ∧ wx.cell? ⟨D2, 1, none⟩ = some (.int .u64 hhi)) from fun wx h => ⟨HC0.out wx h, (hh.below h).c0, (hh.below h).c1⟩)
    have st : Ext V2 V2 := Ext.refl _
    obtain ⟨⟨⟨⟨x0, x1⟩, y0, y1⟩, m0, m1⟩, h0, h1⟩ := HC.out V2 st
    clear hh HC0
    go_wp2_with fail
    refine (S1.out _).mono ?_
    rintro r w6 ⟨rfl, hE⟩
    have st := Ext.trans st hE
    clear x0 x1 y0 y1 m0 m1 h0 h1 hE
    obtain ⟨⟨⟨⟨x0, x1⟩, y0, y1⟩, m0, m1⟩, h0, h1⟩ := HC.out w6 st
    go_wp2_with fail
    refine (S2.out _).mono ?_
    rintro r w7 ⟨rfl, hE⟩
    have st := Ext.trans st hE
    clear x0 x1 y0 y1 m0 m1 h0 h1 hE
    obtain ⟨⟨⟨⟨x0, x1⟩, y0, y1⟩, m0, m1⟩, h0, h1⟩ := HC.out w7 st
    go_wp2_with fail
    refine (I.out _).mono ?_
    rintro r w8 ⟨rfl, hE⟩
    have st := Ext.trans st hE
    clear x0 x1 y0 y1 m0 m1 h0 h1 hE
    obtain ⟨⟨⟨⟨x0, x1⟩, y0, y1⟩, m0, m1⟩, h0, h1⟩ := HC.out w8 st
    go_wp2_with fail
    refine (S.out _).mono ?_
    rintro r w9 ⟨rfl, hE⟩
    have st := Ext.trans st hE
    clear x0 x1 y0 y1 m0 m1 h0 h1 hE
    obtain ⟨⟨⟨⟨x0, x1⟩, y0, y1⟩, m0, m1⟩, h0, h1⟩ := HC.out w9 st
    go_wp2_with fail
    refine (iawake_any _).mono ?_
    rintro r w10 ⟨rfl, hE⟩
    have st := Ext.trans st hE
    clear x0 x1 y0 y1 m0 m1 h0 h1 hE
    obtain ⟨⟨⟨⟨x0, x1⟩, y0, y1⟩, m0, m1⟩, h0, h1⟩ := HC.out w10 st
    have EX := Lib.hid (Ext.trans HB.out st)
    go_wp2
    go_ret
    exact ⟨rfl, EX.out⟩
  · obtain rfl : q = false := by simpa using hpq
    clear hpq
    go_enter Tryd.func3, Tryd.ntmps3
    go_upto_region 1 with fail
    obtain ⟨W, hW, hB, hx, hy, hsz⟩ := ibox_two w a b c d
    rw [← hW]
    clear hW
    have HB := Lib.hid hB
    generalize w.heap.size = B at hx hy ⊢
    clear hB hsz
    have c0 := hx.c0
    have c1 := hx.c1
    have c2 := hy.c0
    have c3 := hy.c1
    go_wp2_with fail
    refine (M.out _).mono ?_
    rintro r w1 ⟨rfl, hE⟩
    have hx := hx.below hE
    have hy := hy.below hE
    have HB := Lib.hid (HB.out.trans hE)
    clear c0 c1 c2 c3 hE
    rw [MV.out]
    go_upto_region 2 with fail
    obtain ⟨V, hV, hE, hm, hsz⟩ := ibox_new w1 0 0
    rw [← hV]
    clear hV
    have hx := hx.below hE
    have hy := hy.below hE
    have HB := Lib.hid (HB.out.trans hE)
    generalize w1.heap.size = D at hm ⊢
    clear hE hsz
    have HC := Lib.hid (show ∀ wx, Ext V wx → ((wx.cell? ⟨B, 0, none⟩ = some (.int .u64 (a : Int)) ∧ wx.cell? ⟨B, 1, none⟩ = some (.int .u64 (b : Int))) ∧ (wx.cell? ⟨B + 1, 0, none⟩ = some (.int .u64 (c : Int)) ∧ wx.cell? ⟨B + 1, 1, none⟩ = some (.int .u64 (d : Int)))) ∧ (wx.cell? ⟨D, 0, none⟩ = some (.int .u64 0) ∧ wx.cell? ⟨D, 1, none⟩ = some (.int .u64 0)) from fun wx h => ⟨⟨⟨(hx.below h).c0, (hx.below h).c1⟩, (hy.below h).c0, (hy.below h).c1⟩, (hm.below h).c0, (hm.below h).c1⟩)
    have st : Ext V V := Ext.refl _
    obtain ⟨⟨⟨x0, x1⟩, y0, y1⟩, m0, m1⟩ := HC.out V st
    clear hx hy hm
    go_wp2_with fail
    refine (P.out _ (Ext.trans HB.out st)).mono ?_
    rintro r w2 ⟨rfl, hE⟩
    have st := Ext.trans st hE
    clear x0 x1 y0 y1 m0 m1 hE
    obtain ⟨⟨⟨x0, x1⟩, y0, y1⟩, m0, m1⟩ := HC.out w2 st
    go_wp2_with fail
    refine (Q.out _ (Ext.trans HB.out st)).mono ?_
    rintro r w3 ⟨rfl, hE⟩
    have st := Ext.trans st hE
    clear x0 x1 y0 y1 m0 m1 hE
    obtain ⟨⟨⟨x0, x1⟩, y0, y1⟩, m0, m1⟩ := HC.out w3 st
    go_wp2_with fail
    refine (V1.out _).mono ?_
    rintro r w4 ⟨rfl, hE⟩
    have st := Ext.trans st hE
    clear x0 x1 y0 y1 m0 m1 hE
    obtain ⟨⟨⟨x0, x1⟩, y0, y1⟩, m0, m1⟩ := HC.out w4 st
    go_wp2_with fail
    refine (V2.out _).mono ?_
    rintro r w5 ⟨rfl, hE⟩
    have st := Ext.trans st hE
    clear x0 x1 y0 y1 m0 m1 hE
    obtain ⟨⟨⟨x0, x1⟩, y0, y1⟩, m0, m1⟩ := HC.out w5 st
    go_wp2_with fail
    refine (H.out _).mono ?_
    rintro r w6 ⟨rfl, hE⟩
    have st := Ext.trans st hE
    clear x0 x1 y0 y1 m0 m1 hE
    go_upto_region 8 with fail
    obtain ⟨V2, hV2, hE2, hh, hsz⟩ := ibox_new w6 hlo hhi
    rw [← hV2]
    clear hV2
    have HC0 := Lib.hid (fun wx (h : Ext V2 wx) => HC.out wx (Ext.trans (Ext.trans st hE2) h))
    have HB := Lib.hid (HB.out.trans (Ext.trans st hE2))
    have HTT2 := Lib.hid (fun wx (h : Ext V2 wx) => Ext.trans (Ext.trans st hE2) h)
    generalize w6.heap.size = D2 at hh ⊢
    clear hsz HC hE2 st
    have HC := Lib.hid (show ∀ wx, Ext V2 wx → (((wx.cell? ⟨B, 0, none⟩ = some (.int .u64 (a : Int)) ∧ wx.cell? ⟨B, 1, none⟩ = some (.int .u64 (b : Int))) ∧ (wx.cell? ⟨B + 1, 0, none⟩ = some (.int .u64 (c : Int)) ∧ wx.cell? ⟨B + 1, 1, none⟩ = some (.int .u64 (d : Int)))) ∧ (wx.cell? ⟨D, 0, none⟩ = some (.int .u64 0) ∧ wx.cell? ⟨D, 1, none⟩ = some (.int .u64 0))) ∧ (wx.cell? ⟨D2, 0, none⟩ = some (.int .u64 hlo) ∧ wx.cell? ⟨D2, 1, none⟩ = some (.int .u64 hhi)) from fun wx h => ⟨HC0.out wx h, (hh.below h).c0, (hh.below h).c1⟩)
    have st : Ext V2 V2 := Ext.refl _
    obtain ⟨⟨⟨⟨x0, x1⟩, y0, y1⟩, m0, m1⟩, h0, h1⟩ := HC.out V2 st
    clear hh HC0
    go_wp2_with fail
    refine (S1.out _).mono ?_
    rintro r w7 ⟨rfl, hE⟩
    have st := Ext.trans st hE
    clear x0 x1 y0 y1 m0 m1 h0 h1 hE
    obtain ⟨⟨⟨⟨x0, x1⟩, y0, y1⟩, m0, m1⟩, h0, h1⟩ := HC.out w7 st
    go_wp2_with fail
    refine (S2.out _).mono ?_
    rintro r w8 ⟨rfl, hE⟩
    have st := Ext.trans st hE
    clear x0 x1 y0 y1 m0 m1 h0 h1 hE
    obtain ⟨⟨⟨⟨x0, x1⟩, y0, y1⟩, m0, m1⟩, h0, h1⟩ := HC.out w8 st
    go_wp2_with fail
    refine (I.out _).mono ?_
    rintro r w9 ⟨rfl, hE⟩
    have st := Ext.trans st hE
    clear x0 x1 y0 y1 m0 m1 h0 h1 hE
    obtain ⟨⟨⟨⟨x0, x1⟩, y0, y1⟩, m0, m1⟩, h0, h1⟩ := HC.out w9 st
    go_wp2_with fail
    refine (S.out _).mono ?_
    rintro r w10 ⟨rfl, hE⟩
    have st := Ext.trans st hE
    clear x0 x1 y0 y1 m0 m1 h0 h1 hE
    obtain ⟨⟨⟨⟨x0, x1⟩, y0, y1⟩, m0, m1⟩, h0, h1⟩ := HC.out w10 st
    go_wp2_with fail
    refine (iawake_any _).mono ?_
    rintro r w11 ⟨rfl, hE⟩
    have st := Ext.trans st hE
    clear x0 x1 y0 y1 m0 m1 h0 h1 hE
    obtain ⟨⟨⟨⟨x0, x1⟩, y0, y1⟩, m0, m1⟩, h0, h1⟩ := HC.out w11 st
    have EX := Lib.hid (Ext.trans HB.out st)
    go_wp2
    go_ret
    exact ⟨rfl, EX.out⟩

set_option maxRecDepth 100000 in
set_option maxHeartbeats 40000000 in
theorem imeets_out (a b c d f : Nat) (ha : a < 18446744073709551616) (hb : b < 18446744073709551616) (hc : c < 18446744073709551616) (hd : d < 18446744073709551616) (hf : f < 18446744073709551616) (h1 : validF a b = true) (h2 : validF c d = true) (hk : validF (meetLo a c) (meetHi b d) = true) (hp : contF a b f = false) (w : World) (hT : Table w) :
    Calls Tryd.prog 3 #[.agg #[.int .u64 (a : Int), .int .u64 (b : Int)], .agg #[.int .u64 (c : Int), .int .u64 (d : Int)], .int .u64 (f : Int)] w fun e w' => e = .returned (.bool true) ∧ Ext w w' := by
  obtain ⟨l1, l2, l3, l4⟩ := meet_lt ha hb hc hd
  obtain ⟨g1, g2⟩ := hull_sub ha hb hc hd h1 h2
  have hin := inter_sub ha hb hc hd
  obtain ⟨q, hq⟩ : ∃ q, contF c d f = q := ⟨_, rfl⟩
  obtain ⟨hr, hsm⟩ := meet_yes (f := f) ha hb hc hd h1 h2 hk
  rw [hp, hq] at hr
  obtain ⟨s, hs⟩ : ∃ s, subF a b c d = s := ⟨_, rfl⟩
  obtain ⟨i, hi⟩ : ∃ i, interF a b c d = i := ⟨_, rfl⟩
  rw [hs] at hsm hin
  rw [hi] at hin
  have M := Lib.hid (fun W => imeet_yes a b c d ha hb hc hd h1 h2 true hk W)
  have S := Lib.hid (fun W => isubset_any a b c d ha hb hc hd s hs W)
  have I := Lib.hid (fun W => iinterior_any a b c d ha hb hc hd i hi W)
  have R := Lib.hid (fun W (hE : Ext w W) => within_any (meetLo a c) (meetHi b d) f l1 l2 hf _ hr W (hT.below hE))
  have SM := Lib.hid (fun W => isubset_any a b (meetLo a c) (meetHi b d) ha hb l1 l2 s hsm W)
  have P := Lib.hid (fun W (hE : Ext w W) => within_any a b f ha hb hf false hp W (hT.below hE))
  have Q := Lib.hid (fun W (hE : Ext w W) => within_any c d f hc hd hf q hq W (hT.below hE))
  have V1 := Lib.hid (fun W => refValid_any a b ha hb true h1 W)
  have V2 := Lib.hid (fun W => refValid_any c d hc hd true h2 W)
  have H := Lib.hid (fun W => ihull_yes a b c d ha hb hc hd h1 h2 W)
  have S1 := Lib.hid (fun W => isubset_any a b (hullLo a c) (hullHi b d) ha hb l3 l4 true g1 W)
  have S2 := Lib.hid (fun W => isubset_any c d (hullLo a c) (hullHi b d) hc hd l3 l4 true g2 W)
  obtain ⟨hlo, e1⟩ : ∃ x : Int, ((hullLo a c : Nat) : Int) = x := ⟨_, rfl⟩
  obtain ⟨hhi, e2⟩ : ∃ x : Int, ((hullHi b d : Nat) : Int) = x := ⟨_, rfl⟩
  rw [e1, e2] at H S1 S2
  obtain ⟨mlo, e3⟩ : ∃ x : Int, ((meetLo a c : Nat) : Int) = x := ⟨_, rfl⟩
  obtain ⟨mhi, e4⟩ : ∃ x : Int, ((meetHi b d : Nat) : Int) = x := ⟨_, rfl⟩
  rw [e3, e4] at M R SM
  have MV := Lib.hid (show meetV mlo mhi true = .tuple #[.agg #[.int .u64 mlo, .int .u64 mhi], .bool true] from rfl)
  clear e1 e2 e3 e4 l1 l2 l3 l4 g1 g2 hr hsm hk hs hi hp hq h1 h2 ha hb hc hd hf hT
  cases i
  · clear hin
    cases s
    · skip
      go_enter Tryd.func3, Tryd.ntmps3
      go_upto_region 1 with fail
      obtain ⟨W, hW, hB, hx, hy, hsz⟩ := ibox_two w a b c d
      rw [← hW]
      clear hW
      have HB := Lib.hid hB
      generalize w.heap.size = B at hx hy ⊢
      clear hB hsz
      have c0 := hx.c0
      have c1 := hx.c1
      have c2 := hy.c0
      have c3 := hy.c1
      go_wp2_with fail
      refine (M.out _).mono ?_
      rintro r w1 ⟨rfl, hE⟩
      have hx := hx.below hE
      have hy := hy.below hE
      have HB := Lib.hid (HB.out.trans hE)
      clear c0 c1 c2 c3 hE
      rw [MV.out]
      go_upto_region 2 with fail
      obtain ⟨V, hV, hE, hm, hsz⟩ := ibox_new w1 mlo mhi
      rw [← hV]
      clear hV
      have hx := hx.below hE
      have hy := hy.below hE
      have HB := Lib.hid (HB.out.trans hE)
      generalize w1.heap.size = D at hm ⊢
      clear hE hsz
      have HC := Lib.hid (show ∀ wx, Ext V wx → ((wx.cell? ⟨B, 0, none⟩ = some (.int .u64 (a : Int)) ∧ wx.cell? ⟨B, 1, none⟩ = some (.int .u64 (b : Int))) ∧ (wx.cell? ⟨B + 1, 0, none⟩ = some (.int .u64 (c : Int)) ∧ wx.cell? ⟨B + 1, 1, none⟩ = some (.int .u64 (d : Int)))) ∧ (wx.cell? ⟨D, 0, none⟩ = some (.int .u64 mlo) ∧ wx.cell? ⟨D, 1, none⟩ = some (.int .u64 mhi)) from fun wx h => ⟨⟨⟨(hx.below h).c0, (hx.below h).c1⟩, (hy.below h).c0, (hy.below h).c1⟩, (hm.below h).c0, (hm.below h).c1⟩)
      have st : Ext V V := Ext.refl _
      obtain ⟨⟨⟨x0, x1⟩, y0, y1⟩, m0, m1⟩ := HC.out V st
      clear hx hy hm
      go_wp2_with fail
      refine (P.out _ (Ext.trans HB.out st)).mono ?_
      rintro r w2 ⟨rfl, hE⟩
      have st := Ext.trans st hE
      clear x0 x1 y0 y1 m0 m1 hE
      obtain ⟨⟨⟨x0, x1⟩, y0, y1⟩, m0, m1⟩ := HC.out w2 st
      go_wp2_with fail
      refine (R.out _ (Ext.trans HB.out st)).mono ?_
      rintro r w3 ⟨rfl, hE⟩
      have st := Ext.trans st hE
      clear x0 x1 y0 y1 m0 m1 hE
      obtain ⟨⟨⟨x0, x1⟩, y0, y1⟩, m0, m1⟩ := HC.out w3 st
      go_wp2_with fail
      refine (V1.out _).mono ?_
      rintro r w4 ⟨rfl, hE⟩
      have st := Ext.trans st hE
      clear x0 x1 y0 y1 m0 m1 hE
      obtain ⟨⟨⟨x0, x1⟩, y0, y1⟩, m0, m1⟩ := HC.out w4 st
      go_wp2_with fail
      refine (V2.out _).mono ?_
      rintro r w5 ⟨rfl, hE⟩
      have st := Ext.trans st hE
      clear x0 x1 y0 y1 m0 m1 hE
      obtain ⟨⟨⟨x0, x1⟩, y0, y1⟩, m0, m1⟩ := HC.out w5 st
      go_wp2_with fail
      refine (H.out _).mono ?_
      rintro r w6 ⟨rfl, hE⟩
      have st := Ext.trans st hE
      clear x0 x1 y0 y1 m0 m1 hE
      go_upto_region 8 with fail
      obtain ⟨V2, hV2, hE2, hh, hsz⟩ := ibox_new w6 hlo hhi
      rw [← hV2]
      clear hV2
      have HC0 := Lib.hid (fun wx (h : Ext V2 wx) => HC.out wx (Ext.trans (Ext.trans st hE2) h))
      have HB := Lib.hid (HB.out.trans (Ext.trans st hE2))
      have HTT2 := Lib.hid (fun wx (h : Ext V2 wx) => Ext.trans (Ext.trans st hE2) h)
      generalize w6.heap.size = D2 at hh ⊢
      clear hsz HC hE2 st
      have HC := Lib.hid (show ∀ wx, Ext V2 wx → (((wx.cell? ⟨B, 0, none⟩ = some (.int .u64 (a : Int)) ∧ wx.cell? ⟨B, 1, none⟩ = some (.int .u64 (b : Int))) ∧ (wx.cell? ⟨B + 1, 0, none⟩ = some (.int .u64 (c : Int)) ∧ wx.cell? ⟨B + 1, 1, none⟩ = some (.int .u64 (d : Int)))) ∧ (wx.cell? ⟨D, 0, none⟩ = some (.int .u64 mlo) ∧ wx.cell? ⟨D, 1, none⟩ = some (.int .u64 mhi))) ∧ (wx.cell? ⟨D2, 0, none⟩ = some (.int .u64 hlo) ∧ wx.cell? ⟨D2, 1, none⟩ = some (.int .u64 hhi)) from fun wx h => ⟨HC0.out wx h, (hh.below h).c0, (hh.below h).c1⟩)
      have st : Ext V2 V2 := Ext.refl _
      obtain ⟨⟨⟨⟨x0, x1⟩, y0, y1⟩, m0, m1⟩, h0, h1⟩ := HC.out V2 st
      clear hh HC0
      go_wp2_with fail
      refine (S1.out _).mono ?_
      rintro r w7 ⟨rfl, hE⟩
      have st := Ext.trans st hE
      clear x0 x1 y0 y1 m0 m1 h0 h1 hE
      obtain ⟨⟨⟨⟨x0, x1⟩, y0, y1⟩, m0, m1⟩, h0, h1⟩ := HC.out w7 st
      go_wp2_with fail
      refine (S2.out _).mono ?_
      rintro r w8 ⟨rfl, hE⟩
      have st := Ext.trans st hE
      clear x0 x1 y0 y1 m0 m1 h0 h1 hE
      obtain ⟨⟨⟨⟨x0, x1⟩, y0, y1⟩, m0, m1⟩, h0, h1⟩ := HC.out w8 st
      go_wp2_with fail
      refine (I.out _).mono ?_
      rintro r w9 ⟨rfl, hE⟩
      have st := Ext.trans st hE
      clear x0 x1 y0 y1 m0 m1 h0 h1 hE
      obtain ⟨⟨⟨⟨x0, x1⟩, y0, y1⟩, m0, m1⟩, h0, h1⟩ := HC.out w9 st
      go_wp2_with fail
      refine (S.out _).mono ?_
      rintro r w10 ⟨rfl, hE⟩
      have st := Ext.trans st hE
      clear x0 x1 y0 y1 m0 m1 h0 h1 hE
      obtain ⟨⟨⟨⟨x0, x1⟩, y0, y1⟩, m0, m1⟩, h0, h1⟩ := HC.out w10 st
      go_wp2_with fail
      refine (SM.out _).mono ?_
      rintro r w11 ⟨rfl, hE⟩
      have st := Ext.trans st hE
      clear x0 x1 y0 y1 m0 m1 h0 h1 hE
      obtain ⟨⟨⟨⟨x0, x1⟩, y0, y1⟩, m0, m1⟩, h0, h1⟩ := HC.out w11 st
      go_wp2_with fail
      refine (iawake_any _).mono ?_
      rintro r w12 ⟨rfl, hE⟩
      have st := Ext.trans st hE
      clear x0 x1 y0 y1 m0 m1 h0 h1 hE
      obtain ⟨⟨⟨⟨x0, x1⟩, y0, y1⟩, m0, m1⟩, h0, h1⟩ := HC.out w12 st
      have EX := Lib.hid (Ext.trans HB.out st)
      go_wp2
      go_ret
      exact ⟨rfl, EX.out⟩
    · skip
      go_enter Tryd.func3, Tryd.ntmps3
      go_upto_region 1 with fail
      obtain ⟨W, hW, hB, hx, hy, hsz⟩ := ibox_two w a b c d
      rw [← hW]
      clear hW
      have HB := Lib.hid hB
      generalize w.heap.size = B at hx hy ⊢
      clear hB hsz
      have c0 := hx.c0
      have c1 := hx.c1
      have c2 := hy.c0
      have c3 := hy.c1
      go_wp2_with fail
      refine (M.out _).mono ?_
      rintro r w1 ⟨rfl, hE⟩
      have hx := hx.below hE
      have hy := hy.below hE
      have HB := Lib.hid (HB.out.trans hE)
      clear c0 c1 c2 c3 hE
      rw [MV.out]
      go_upto_region 2 with fail
      obtain ⟨V, hV, hE, hm, hsz⟩ := ibox_new w1 mlo mhi
      rw [← hV]
      clear hV
      have hx := hx.below hE
      have hy := hy.below hE
      have HB := Lib.hid (HB.out.trans hE)
      generalize w1.heap.size = D at hm ⊢
      clear hE hsz
      have HC := Lib.hid (show ∀ wx, Ext V wx → ((wx.cell? ⟨B, 0, none⟩ = some (.int .u64 (a : Int)) ∧ wx.cell? ⟨B, 1, none⟩ = some (.int .u64 (b : Int))) ∧ (wx.cell? ⟨B + 1, 0, none⟩ = some (.int .u64 (c : Int)) ∧ wx.cell? ⟨B + 1, 1, none⟩ = some (.int .u64 (d : Int)))) ∧ (wx.cell? ⟨D, 0, none⟩ = some (.int .u64 mlo) ∧ wx.cell? ⟨D, 1, none⟩ = some (.int .u64 mhi)) from fun wx h => ⟨⟨⟨(hx.below h).c0, (hx.below h).c1⟩, (hy.below h).c0, (hy.below h).c1⟩, (hm.below h).c0, (hm.below h).c1⟩)
      have st : Ext V V := Ext.refl _
      obtain ⟨⟨⟨x0, x1⟩, y0, y1⟩, m0, m1⟩ := HC.out V st
      clear hx hy hm
      go_wp2_with fail
      refine (P.out _ (Ext.trans HB.out st)).mono ?_
      rintro r w2 ⟨rfl, hE⟩
      have st := Ext.trans st hE
      clear x0 x1 y0 y1 m0 m1 hE
      obtain ⟨⟨⟨x0, x1⟩, y0, y1⟩, m0, m1⟩ := HC.out w2 st
      go_wp2_with fail
      refine (R.out _ (Ext.trans HB.out st)).mono ?_
      rintro r w3 ⟨rfl, hE⟩
      have st := Ext.trans st hE
      clear x0 x1 y0 y1 m0 m1 hE
      obtain ⟨⟨⟨x0, x1⟩, y0, y1⟩, m0, m1⟩ := HC.out w3 st
      go_wp2_with fail
      refine (V1.out _).mono ?_
      rintro r w4 ⟨rfl, hE⟩
      have st := Ext.trans st hE
      clear x0 x1 y0 y1 m0 m1 hE
      obtain ⟨⟨⟨x0, x1⟩, y0, y1⟩, m0, m1⟩ := HC.out w4 st
      go_wp2_with fail
      refine (V2.out _).mono ?_
      rintro r w5 ⟨rfl, hE⟩
      have st := Ext.trans st hE
      clear x0 x1 y0 y1 m0 m1 hE
      obtain ⟨⟨⟨x0, x1⟩, y0, y1⟩, m0, m1⟩ := HC.out w5 st
      go_wp2_with fail
      refine (H.out _).mono ?_
      rintro r w6 ⟨rfl, hE⟩
      have st := Ext.trans st hE
      clear x0 x1 y0 y1 m0 m1 hE
      go_upto_region 8 with fail
      obtain ⟨V2, hV2, hE2, hh, hsz⟩ := ibox_new w6 hlo hhi
      rw [← hV2]
      clear hV2
      have HC0 := Lib.hid (fun wx (h : Ext V2 wx) => HC.out wx (Ext.trans (Ext.trans st hE2) h))
      have HB := Lib.hid (HB.out.trans (Ext.trans st hE2))
      have HTT2 := Lib.hid (fun wx (h : Ext V2 wx) => Ext.trans (Ext.trans st hE2) h)
      generalize w6.heap.size = D2 at hh ⊢
      clear hsz HC hE2 st
      have HC := Lib.hid (show ∀ wx, Ext V2 wx → (((wx.cell? ⟨B, 0, none⟩ = some (.int .u64 (a : Int)) ∧ wx.cell? ⟨B, 1, none⟩ = some (.int .u64 (b : Int))) ∧ (wx.cell? ⟨B + 1, 0, none⟩ = some (.int .u64 (c : Int)) ∧ wx.cell? ⟨B + 1, 1, none⟩ = some (.int .u64 (d : Int)))) ∧ (wx.cell? ⟨D, 0, none⟩ = some (.int .u64 mlo) ∧ wx.cell? ⟨D, 1, none⟩ = some (.int .u64 mhi))) ∧ (wx.cell? ⟨D2, 0, none⟩ = some (.int .u64 hlo) ∧ wx.cell? ⟨D2, 1, none⟩ = some (.int .u64 hhi)) from fun wx h => ⟨HC0.out wx h, (hh.below h).c0, (hh.below h).c1⟩)
      have st : Ext V2 V2 := Ext.refl _
      obtain ⟨⟨⟨⟨x0, x1⟩, y0, y1⟩, m0, m1⟩, h0, h1⟩ := HC.out V2 st
      clear hh HC0
      go_wp2_with fail
      refine (S1.out _).mono ?_
      rintro r w7 ⟨rfl, hE⟩
      have st := Ext.trans st hE
      clear x0 x1 y0 y1 m0 m1 h0 h1 hE
      obtain ⟨⟨⟨⟨x0, x1⟩, y0, y1⟩, m0, m1⟩, h0, h1⟩ := HC.out w7 st
      go_wp2_with fail
      refine (S2.out _).mono ?_
      rintro r w8 ⟨rfl, hE⟩
      have st := Ext.trans st hE
      clear x0 x1 y0 y1 m0 m1 h0 h1 hE
      obtain ⟨⟨⟨⟨x0, x1⟩, y0, y1⟩, m0, m1⟩, h0, h1⟩ := HC.out w8 st
      go_wp2_with fail
      refine (I.out _).mono ?_
      rintro r w9 ⟨rfl, hE⟩
      have st := Ext.trans st hE
      clear x0 x1 y0 y1 m0 m1 h0 h1 hE
      obtain ⟨⟨⟨⟨x0, x1⟩, y0, y1⟩, m0, m1⟩, h0, h1⟩ := HC.out w9 st
      go_wp2_with fail
      refine (S.out _).mono ?_
      rintro r w10 ⟨rfl, hE⟩
      have st := Ext.trans st hE
      clear x0 x1 y0 y1 m0 m1 h0 h1 hE
      obtain ⟨⟨⟨⟨x0, x1⟩, y0, y1⟩, m0, m1⟩, h0, h1⟩ := HC.out w10 st
      go_wp2_with fail
      refine (SM.out _).mono ?_
      rintro r w11 ⟨rfl, hE⟩
      have st := Ext.trans st hE
      clear x0 x1 y0 y1 m0 m1 h0 h1 hE
      obtain ⟨⟨⟨⟨x0, x1⟩, y0, y1⟩, m0, m1⟩, h0, h1⟩ := HC.out w11 st
      go_wp2_with fail
      refine (iawake_any _).mono ?_
      rintro r w12 ⟨rfl, hE⟩
      have st := Ext.trans st hE
      clear x0 x1 y0 y1 m0 m1 h0 h1 hE
      obtain ⟨⟨⟨⟨x0, x1⟩, y0, y1⟩, m0, m1⟩, h0, h1⟩ := HC.out w12 st
      have EX := Lib.hid (Ext.trans HB.out st)
      go_wp2
      go_ret
      exact ⟨rfl, EX.out⟩
  · obtain rfl : s = true := hin rfl
    clear hin
    go_enter Tryd.func3, Tryd.ntmps3
    go_upto_region 1 with fail
    obtain ⟨W, hW, hB, hx, hy, hsz⟩ := ibox_two w a b c d
    rw [← hW]
    clear hW
    have HB := Lib.hid hB
    generalize w.heap.size = B at hx hy ⊢
    clear hB hsz
    have c0 := hx.c0
    have c1 := hx.c1
    have c2 := hy.c0
    have c3 := hy.c1
    go_wp2_with fail
    refine (M.out _).mono ?_
    rintro r w1 ⟨rfl, hE⟩
    have hx := hx.below hE
    have hy := hy.below hE
    have HB := Lib.hid (HB.out.trans hE)
    clear c0 c1 c2 c3 hE
    rw [MV.out]
    go_upto_region 2 with fail
    obtain ⟨V, hV, hE, hm, hsz⟩ := ibox_new w1 mlo mhi
    rw [← hV]
    clear hV
    have hx := hx.below hE
    have hy := hy.below hE
    have HB := Lib.hid (HB.out.trans hE)
    generalize w1.heap.size = D at hm ⊢
    clear hE hsz
    have HC := Lib.hid (show ∀ wx, Ext V wx → ((wx.cell? ⟨B, 0, none⟩ = some (.int .u64 (a : Int)) ∧ wx.cell? ⟨B, 1, none⟩ = some (.int .u64 (b : Int))) ∧ (wx.cell? ⟨B + 1, 0, none⟩ = some (.int .u64 (c : Int)) ∧ wx.cell? ⟨B + 1, 1, none⟩ = some (.int .u64 (d : Int)))) ∧ (wx.cell? ⟨D, 0, none⟩ = some (.int .u64 mlo) ∧ wx.cell? ⟨D, 1, none⟩ = some (.int .u64 mhi)) from fun wx h => ⟨⟨⟨(hx.below h).c0, (hx.below h).c1⟩, (hy.below h).c0, (hy.below h).c1⟩, (hm.below h).c0, (hm.below h).c1⟩)
    have st : Ext V V := Ext.refl _
    obtain ⟨⟨⟨x0, x1⟩, y0, y1⟩, m0, m1⟩ := HC.out V st
    clear hx hy hm
    go_wp2_with fail
    refine (P.out _ (Ext.trans HB.out st)).mono ?_
    rintro r w2 ⟨rfl, hE⟩
    have st := Ext.trans st hE
    clear x0 x1 y0 y1 m0 m1 hE
    obtain ⟨⟨⟨x0, x1⟩, y0, y1⟩, m0, m1⟩ := HC.out w2 st
    go_wp2_with fail
    refine (R.out _ (Ext.trans HB.out st)).mono ?_
    rintro r w3 ⟨rfl, hE⟩
    have st := Ext.trans st hE
    clear x0 x1 y0 y1 m0 m1 hE
    obtain ⟨⟨⟨x0, x1⟩, y0, y1⟩, m0, m1⟩ := HC.out w3 st
    go_wp2_with fail
    refine (V1.out _).mono ?_
    rintro r w4 ⟨rfl, hE⟩
    have st := Ext.trans st hE
    clear x0 x1 y0 y1 m0 m1 hE
    obtain ⟨⟨⟨x0, x1⟩, y0, y1⟩, m0, m1⟩ := HC.out w4 st
    go_wp2_with fail
    refine (V2.out _).mono ?_
    rintro r w5 ⟨rfl, hE⟩
    have st := Ext.trans st hE
    clear x0 x1 y0 y1 m0 m1 hE
    obtain ⟨⟨⟨x0, x1⟩, y0, y1⟩, m0, m1⟩ := HC.out w5 st
    go_wp2_with fail
    refine (H.out _).mono ?_
    rintro r w6 ⟨rfl, hE⟩
    have st := Ext.trans st hE
    clear x0 x1 y0 y1 m0 m1 hE
    go_upto_region 8 with fail
    obtain ⟨V2, hV2, hE2, hh, hsz⟩ := ibox_new w6 hlo hhi
    rw [← hV2]
    clear hV2
    have HC0 := Lib.hid (fun wx (h : Ext V2 wx) => HC.out wx (Ext.trans (Ext.trans st hE2) h))
    have HB := Lib.hid (HB.out.trans (Ext.trans st hE2))
    have HTT2 := Lib.hid (fun wx (h : Ext V2 wx) => Ext.trans (Ext.trans st hE2) h)
    generalize w6.heap.size = D2 at hh ⊢
    clear hsz HC hE2 st
    have HC := Lib.hid (show ∀ wx, Ext V2 wx → (((wx.cell? ⟨B, 0, none⟩ = some (.int .u64 (a : Int)) ∧ wx.cell? ⟨B, 1, none⟩ = some (.int .u64 (b : Int))) ∧ (wx.cell? ⟨B + 1, 0, none⟩ = some (.int .u64 (c : Int)) ∧ wx.cell? ⟨B + 1, 1, none⟩ = some (.int .u64 (d : Int)))) ∧ (wx.cell? ⟨D, 0, none⟩ = some (.int .u64 mlo) ∧ wx.cell? ⟨D, 1, none⟩ = some (.int .u64 mhi))) ∧ (wx.cell? ⟨D2, 0, none⟩ = some (.int .u64 hlo) ∧ wx.cell? ⟨D2, 1, none⟩ = some (.int .u64 hhi)) from fun wx h => ⟨HC0.out wx h, (hh.below h).c0, (hh.below h).c1⟩)
    have st : Ext V2 V2 := Ext.refl _
    obtain ⟨⟨⟨⟨x0, x1⟩, y0, y1⟩, m0, m1⟩, h0, h1⟩ := HC.out V2 st
    clear hh HC0
    go_wp2_with fail
    refine (S1.out _).mono ?_
    rintro r w7 ⟨rfl, hE⟩
    have st := Ext.trans st hE
    clear x0 x1 y0 y1 m0 m1 h0 h1 hE
    obtain ⟨⟨⟨⟨x0, x1⟩, y0, y1⟩, m0, m1⟩, h0, h1⟩ := HC.out w7 st
    go_wp2_with fail
    refine (S2.out _).mono ?_
    rintro r w8 ⟨rfl, hE⟩
    have st := Ext.trans st hE
    clear x0 x1 y0 y1 m0 m1 h0 h1 hE
    obtain ⟨⟨⟨⟨x0, x1⟩, y0, y1⟩, m0, m1⟩, h0, h1⟩ := HC.out w8 st
    go_wp2_with fail
    refine (I.out _).mono ?_
    rintro r w9 ⟨rfl, hE⟩
    have st := Ext.trans st hE
    clear x0 x1 y0 y1 m0 m1 h0 h1 hE
    obtain ⟨⟨⟨⟨x0, x1⟩, y0, y1⟩, m0, m1⟩, h0, h1⟩ := HC.out w9 st
    go_wp2_with fail
    refine (S.out _).mono ?_
    rintro r w10 ⟨rfl, hE⟩
    have st := Ext.trans st hE
    clear x0 x1 y0 y1 m0 m1 h0 h1 hE
    obtain ⟨⟨⟨⟨x0, x1⟩, y0, y1⟩, m0, m1⟩, h0, h1⟩ := HC.out w10 st
    go_wp2_with fail
    refine (S.out _).mono ?_
    rintro r w11 ⟨rfl, hE⟩
    have st := Ext.trans st hE
    clear x0 x1 y0 y1 m0 m1 h0 h1 hE
    obtain ⟨⟨⟨⟨x0, x1⟩, y0, y1⟩, m0, m1⟩, h0, h1⟩ := HC.out w11 st
    go_wp2_with fail
    refine (SM.out _).mono ?_
    rintro r w12 ⟨rfl, hE⟩
    have st := Ext.trans st hE
    clear x0 x1 y0 y1 m0 m1 h0 h1 hE
    obtain ⟨⟨⟨⟨x0, x1⟩, y0, y1⟩, m0, m1⟩, h0, h1⟩ := HC.out w12 st
    go_wp2_with fail
    refine (iawake_any _).mono ?_
    rintro r w13 ⟨rfl, hE⟩
    have st := Ext.trans st hE
    clear x0 x1 y0 y1 m0 m1 h0 h1 hE
    obtain ⟨⟨⟨⟨x0, x1⟩, y0, y1⟩, m0, m1⟩, h0, h1⟩ := HC.out w13 st
    have EX := Lib.hid (Ext.trans HB.out st)
    go_wp2
    go_ret
    exact ⟨rfl, EX.out⟩

set_option maxRecDepth 100000 in
set_option maxHeartbeats 40000000 in
theorem imeets_in (a b c d f : Nat) (ha : a < 18446744073709551616) (hb : b < 18446744073709551616) (hc : c < 18446744073709551616) (hd : d < 18446744073709551616) (hf : f < 18446744073709551616) (h1 : validF a b = true) (h2 : validF c d = true) (hk : validF (meetLo a c) (meetHi b d) = true) (hp : contF a b f = true) (w : World) (hT : Table w) :
    Calls Tryd.prog 3 #[.agg #[.int .u64 (a : Int), .int .u64 (b : Int)], .agg #[.int .u64 (c : Int), .int .u64 (d : Int)], .int .u64 (f : Int)] w fun e w' => e = .returned (.bool true) ∧ Ext w w' := by
  obtain ⟨l1, l2, l3, l4⟩ := meet_lt ha hb hc hd
  obtain ⟨g1, g2⟩ := hull_sub ha hb hc hd h1 h2
  have hin := inter_sub ha hb hc hd
  obtain ⟨q, hq⟩ : ∃ q, contF c d f = q := ⟨_, rfl⟩
  obtain ⟨hr, hsm⟩ := meet_yes (f := f) ha hb hc hd h1 h2 hk
  rw [hp, hq] at hr
  obtain ⟨s, hs⟩ : ∃ s, subF a b c d = s := ⟨_, rfl⟩
  obtain ⟨i, hi⟩ : ∃ i, interF a b c d = i := ⟨_, rfl⟩
  rw [hs] at hsm hin
  rw [hi] at hin
  have M := Lib.hid (fun W => imeet_yes a b c d ha hb hc hd h1 h2 true hk W)
  have S := Lib.hid (fun W => isubset_any a b c d ha hb hc hd s hs W)
  have I := Lib.hid (fun W => iinterior_any a b c d ha hb hc hd i hi W)
  have R := Lib.hid (fun W (hE : Ext w W) => within_any (meetLo a c) (meetHi b d) f l1 l2 hf _ hr W (hT.below hE))
  have SM := Lib.hid (fun W => isubset_any a b (meetLo a c) (meetHi b d) ha hb l1 l2 s hsm W)
  have P := Lib.hid (fun W (hE : Ext w W) => within_any a b f ha hb hf true hp W (hT.below hE))
  have Q := Lib.hid (fun W (hE : Ext w W) => within_any c d f hc hd hf q hq W (hT.below hE))
  have V1 := Lib.hid (fun W => refValid_any a b ha hb true h1 W)
  have V2 := Lib.hid (fun W => refValid_any c d hc hd true h2 W)
  have H := Lib.hid (fun W => ihull_yes a b c d ha hb hc hd h1 h2 W)
  have S1 := Lib.hid (fun W => isubset_any a b (hullLo a c) (hullHi b d) ha hb l3 l4 true g1 W)
  have S2 := Lib.hid (fun W => isubset_any c d (hullLo a c) (hullHi b d) hc hd l3 l4 true g2 W)
  obtain ⟨hlo, e1⟩ : ∃ x : Int, ((hullLo a c : Nat) : Int) = x := ⟨_, rfl⟩
  obtain ⟨hhi, e2⟩ : ∃ x : Int, ((hullHi b d : Nat) : Int) = x := ⟨_, rfl⟩
  rw [e1, e2] at H S1 S2
  obtain ⟨mlo, e3⟩ : ∃ x : Int, ((meetLo a c : Nat) : Int) = x := ⟨_, rfl⟩
  obtain ⟨mhi, e4⟩ : ∃ x : Int, ((meetHi b d : Nat) : Int) = x := ⟨_, rfl⟩
  rw [e3, e4] at M R SM
  have MV := Lib.hid (show meetV mlo mhi true = .tuple #[.agg #[.int .u64 mlo, .int .u64 mhi], .bool true] from rfl)
  clear e1 e2 e3 e4 l1 l2 l3 l4 g1 g2 hr hsm hk hs hi hp hq h1 h2 ha hb hc hd hf hT
  cases q
  · skip
    cases i
    · clear hin
      cases s
      · skip
        go_enter Tryd.func3, Tryd.ntmps3
        go_upto_region 1 with fail
        obtain ⟨W, hW, hB, hx, hy, hsz⟩ := ibox_two w a b c d
        rw [← hW]
        clear hW
        have HB := Lib.hid hB
        generalize w.heap.size = B at hx hy ⊢
        clear hB hsz
        have c0 := hx.c0
        have c1 := hx.c1
        have c2 := hy.c0
        have c3 := hy.c1
        go_wp2_with fail
        refine (M.out _).mono ?_
        rintro r w1 ⟨rfl, hE⟩
        have hx := hx.below hE
        have hy := hy.below hE
        have HB := Lib.hid (HB.out.trans hE)
        clear c0 c1 c2 c3 hE
        rw [MV.out]
        go_upto_region 2 with fail
        obtain ⟨V, hV, hE, hm, hsz⟩ := ibox_new w1 mlo mhi
        rw [← hV]
        clear hV
        have hx := hx.below hE
        have hy := hy.below hE
        have HB := Lib.hid (HB.out.trans hE)
        generalize w1.heap.size = D at hm ⊢
        clear hE hsz
        have HC := Lib.hid (show ∀ wx, Ext V wx → ((wx.cell? ⟨B, 0, none⟩ = some (.int .u64 (a : Int)) ∧ wx.cell? ⟨B, 1, none⟩ = some (.int .u64 (b : Int))) ∧ (wx.cell? ⟨B + 1, 0, none⟩ = some (.int .u64 (c : Int)) ∧ wx.cell? ⟨B + 1, 1, none⟩ = some (.int .u64 (d : Int)))) ∧ (wx.cell? ⟨D, 0, none⟩ = some (.int .u64 mlo) ∧ wx.cell? ⟨D, 1, none⟩ = some (.int .u64 mhi)) from fun wx h => ⟨⟨⟨(hx.below h).c0, (hx.below h).c1⟩, (hy.below h).c0, (hy.below h).c1⟩, (hm.below h).c0, (hm.below h).c1⟩)
        have st : Ext V V := Ext.refl _
        obtain ⟨⟨⟨x0, x1⟩, y0, y1⟩, m0, m1⟩ := HC.out V st
        clear hx hy hm
        go_wp2_with fail
        refine (P.out _ (Ext.trans HB.out st)).mono ?_
        rintro r w2 ⟨rfl, hE⟩
        have st := Ext.trans st hE
        clear x0 x1 y0 y1 m0 m1 hE
        obtain ⟨⟨⟨x0, x1⟩, y0, y1⟩, m0, m1⟩ := HC.out w2 st
        go_wp2_with fail
        refine (Q.out _ (Ext.trans HB.out st)).mono ?_
        rintro r w3 ⟨rfl, hE⟩
        have st := Ext.trans st hE
        clear x0 x1 y0 y1 m0 m1 hE
        obtain ⟨⟨⟨x0, x1⟩, y0, y1⟩, m0, m1⟩ := HC.out w3 st
        go_wp2_with fail
        refine (R.out _ (Ext.trans HB.out st)).mono ?_
        rintro r w4 ⟨rfl, hE⟩
        have st := Ext.trans st hE
        clear x0 x1 y0 y1 m0 m1 hE
        obtain ⟨⟨⟨x0, x1⟩, y0, y1⟩, m0, m1⟩ := HC.out w4 st
        go_wp2_with fail
        refine (V1.out _).mono ?_
        rintro r w5 ⟨rfl, hE⟩
        have st := Ext.trans st hE
        clear x0 x1 y0 y1 m0 m1 hE
        obtain ⟨⟨⟨x0, x1⟩, y0, y1⟩, m0, m1⟩ := HC.out w5 st
        go_wp2_with fail
        refine (V2.out _).mono ?_
        rintro r w6 ⟨rfl, hE⟩
        have st := Ext.trans st hE
        clear x0 x1 y0 y1 m0 m1 hE
        obtain ⟨⟨⟨x0, x1⟩, y0, y1⟩, m0, m1⟩ := HC.out w6 st
        go_wp2_with fail
        refine (H.out _).mono ?_
        rintro r w7 ⟨rfl, hE⟩
        have st := Ext.trans st hE
        clear x0 x1 y0 y1 m0 m1 hE
        go_upto_region 8 with fail
        obtain ⟨V2, hV2, hE2, hh, hsz⟩ := ibox_new w7 hlo hhi
        rw [← hV2]
        clear hV2
        have HC0 := Lib.hid (fun wx (h : Ext V2 wx) => HC.out wx (Ext.trans (Ext.trans st hE2) h))
        have HB := Lib.hid (HB.out.trans (Ext.trans st hE2))
        have HTT2 := Lib.hid (fun wx (h : Ext V2 wx) => Ext.trans (Ext.trans st hE2) h)
        generalize w7.heap.size = D2 at hh ⊢
        clear hsz HC hE2 st
        have HC := Lib.hid (show ∀ wx, Ext V2 wx → (((wx.cell? ⟨B, 0, none⟩ = some (.int .u64 (a : Int)) ∧ wx.cell? ⟨B, 1, none⟩ = some (.int .u64 (b : Int))) ∧ (wx.cell? ⟨B + 1, 0, none⟩ = some (.int .u64 (c : Int)) ∧ wx.cell? ⟨B + 1, 1, none⟩ = some (.int .u64 (d : Int)))) ∧ (wx.cell? ⟨D, 0, none⟩ = some (.int .u64 mlo) ∧ wx.cell? ⟨D, 1, none⟩ = some (.int .u64 mhi))) ∧ (wx.cell? ⟨D2, 0, none⟩ = some (.int .u64 hlo) ∧ wx.cell? ⟨D2, 1, none⟩ = some (.int .u64 hhi)) from fun wx h => ⟨HC0.out wx h, (hh.below h).c0, (hh.below h).c1⟩)
        have st : Ext V2 V2 := Ext.refl _
        obtain ⟨⟨⟨⟨x0, x1⟩, y0, y1⟩, m0, m1⟩, h0, h1⟩ := HC.out V2 st
        clear hh HC0
        go_wp2_with fail
        refine (S1.out _).mono ?_
        rintro r w8 ⟨rfl, hE⟩
        have st := Ext.trans st hE
        clear x0 x1 y0 y1 m0 m1 h0 h1 hE
        obtain ⟨⟨⟨⟨x0, x1⟩, y0, y1⟩, m0, m1⟩, h0, h1⟩ := HC.out w8 st
        go_wp2_with fail
        refine (S2.out _).mono ?_
        rintro r w9 ⟨rfl, hE⟩
        have st := Ext.trans st hE
        clear x0 x1 y0 y1 m0 m1 h0 h1 hE
        obtain ⟨⟨⟨⟨x0, x1⟩, y0, y1⟩, m0, m1⟩, h0, h1⟩ := HC.out w9 st
        go_wp2_with fail
        refine (I.out _).mono ?_
        rintro r w10 ⟨rfl, hE⟩
        have st := Ext.trans st hE
        clear x0 x1 y0 y1 m0 m1 h0 h1 hE
        obtain ⟨⟨⟨⟨x0, x1⟩, y0, y1⟩, m0, m1⟩, h0, h1⟩ := HC.out w10 st
        go_wp2_with fail
        refine (S.out _).mono ?_
        rintro r w11 ⟨rfl, hE⟩
        have st := Ext.trans st hE
        clear x0 x1 y0 y1 m0 m1 h0 h1 hE
        obtain ⟨⟨⟨⟨x0, x1⟩, y0, y1⟩, m0, m1⟩, h0, h1⟩ := HC.out w11 st
        go_wp2_with fail
        refine (SM.out _).mono ?_
        rintro r w12 ⟨rfl, hE⟩
        have st := Ext.trans st hE
        clear x0 x1 y0 y1 m0 m1 h0 h1 hE
        obtain ⟨⟨⟨⟨x0, x1⟩, y0, y1⟩, m0, m1⟩, h0, h1⟩ := HC.out w12 st
        go_wp2_with fail
        refine (iawake_any _).mono ?_
        rintro r w13 ⟨rfl, hE⟩
        have st := Ext.trans st hE
        clear x0 x1 y0 y1 m0 m1 h0 h1 hE
        obtain ⟨⟨⟨⟨x0, x1⟩, y0, y1⟩, m0, m1⟩, h0, h1⟩ := HC.out w13 st
        have EX := Lib.hid (Ext.trans HB.out st)
        go_wp2
        go_ret
        exact ⟨rfl, EX.out⟩
      · skip
        go_enter Tryd.func3, Tryd.ntmps3
        go_upto_region 1 with fail
        obtain ⟨W, hW, hB, hx, hy, hsz⟩ := ibox_two w a b c d
        rw [← hW]
        clear hW
        have HB := Lib.hid hB
        generalize w.heap.size = B at hx hy ⊢
        clear hB hsz
        have c0 := hx.c0
        have c1 := hx.c1
        have c2 := hy.c0
        have c3 := hy.c1
        go_wp2_with fail
        refine (M.out _).mono ?_
        rintro r w1 ⟨rfl, hE⟩
        have hx := hx.below hE
        have hy := hy.below hE
        have HB := Lib.hid (HB.out.trans hE)
        clear c0 c1 c2 c3 hE
        rw [MV.out]
        go_upto_region 2 with fail
        obtain ⟨V, hV, hE, hm, hsz⟩ := ibox_new w1 mlo mhi
        rw [← hV]
        clear hV
        have hx := hx.below hE
        have hy := hy.below hE
        have HB := Lib.hid (HB.out.trans hE)
        generalize w1.heap.size = D at hm ⊢
        clear hE hsz
        have HC := Lib.hid (show ∀ wx, Ext V wx → ((wx.cell? ⟨B, 0, none⟩ = some (.int .u64 (a : Int)) ∧ wx.cell? ⟨B, 1, none⟩ = some (.int .u64 (b : Int))) ∧ (wx.cell? ⟨B + 1, 0, none⟩ = some (.int .u64 (c : Int)) ∧ wx.cell? ⟨B + 1, 1, none⟩ = some (.int .u64 (d : Int)))) ∧ (wx.cell? ⟨D, 0, none⟩ = some (.int .u64 mlo) ∧ wx.cell? ⟨D, 1, none⟩ = some (.int .u64 mhi)) from fun wx h => ⟨⟨⟨(hx.below h).c0, (hx.below h).c1⟩, (hy.below h).c0, (hy.below h).c1⟩, (hm.below h).c0, (hm.below h).c1⟩)
        have st : Ext V V := Ext.refl _
        obtain ⟨⟨⟨x0, x1⟩, y0, y1⟩, m0, m1⟩ := HC.out V st
        clear hx hy hm
        go_wp2_with fail
        refine (P.out _ (Ext.trans HB.out st)).mono ?_
        rintro r w2 ⟨rfl, hE⟩
        have st := Ext.trans st hE
        clear x0 x1 y0 y1 m0 m1 hE
        obtain ⟨⟨⟨x0, x1⟩, y0, y1⟩, m0, m1⟩ := HC.out w2 st
        go_wp2_with fail
        refine (Q.out _ (Ext.trans HB.out st)).mono ?_
        rintro r w3 ⟨rfl, hE⟩
        have st := Ext.trans st hE
        clear x0 x1 y0 y1 m0 m1 hE
        obtain ⟨⟨⟨x0, x1⟩, y0, y1⟩, m0, m1⟩ := HC.out w3 st
        go_wp2_with fail
        refine (R.out _ (Ext.trans HB.out st)).mono ?_
        rintro r w4 ⟨rfl, hE⟩
        have st := Ext.trans st hE
        clear x0 x1 y0 y1 m0 m1 hE
        obtain ⟨⟨⟨x0, x1⟩, y0, y1⟩, m0, m1⟩ := HC.out w4 st
        go_wp2_with fail
        refine (V1.out _).mono ?_
        rintro r w5 ⟨rfl, hE⟩
        have st := Ext.trans st hE
        clear x0 x1 y0 y1 m0 m1 hE
        obtain ⟨⟨⟨x0, x1⟩, y0, y1⟩, m0, m1⟩ := HC.out w5 st
        go_wp2_with fail
        refine (V2.out _).mono ?_
        rintro r w6 ⟨rfl, hE⟩
        have st := Ext.trans st hE
        clear x0 x1 y0 y1 m0 m1 hE
        obtain ⟨⟨⟨x0, x1⟩, y0, y1⟩, m0, m1⟩ := HC.out w6 st
        go_wp2_with fail
        refine (H.out _).mono ?_
        rintro r w7 ⟨rfl, hE⟩
        have st := Ext.trans st hE
        clear x0 x1 y0 y1 m0 m1 hE
        go_upto_region 8 with fail
        obtain ⟨V2, hV2, hE2, hh, hsz⟩ := ibox_new w7 hlo hhi
        rw [← hV2]
        clear hV2
        have HC0 := Lib.hid (fun wx (h : Ext V2 wx) => HC.out wx (Ext.trans (Ext.trans st hE2) h))
        have HB := Lib.hid (HB.out.trans (Ext.trans st hE2))
        have HTT2 := Lib.hid (fun wx (h : Ext V2 wx) => Ext.trans (Ext.trans st hE2) h)
        generalize w7.heap.size = D2 at hh ⊢
        clear hsz HC hE2 st
        have HC := Lib.hid (show ∀ wx, Ext V2 wx → (((wx.cell? ⟨B, 0, none⟩ = some (.int .u64 (a : Int)) ∧ wx.cell? ⟨B, 1, none⟩ = some (.int .u64 (b : Int))) ∧ (wx.cell? ⟨B + 1, 0, none⟩ = some (.int .u64 (c : Int)) ∧ wx.cell? ⟨B + 1, 1, none⟩ = some (.int .u64 (d : Int)))) ∧ (wx.cell? ⟨D, 0, none⟩ = some (.int .u64 mlo) ∧ wx.cell? ⟨D, 1, none⟩ = some (.int .u64 mhi))) ∧ (wx.cell? ⟨D2, 0, none⟩ = some (.int .u64 hlo) ∧ wx.cell? ⟨D2, 1, none⟩ = some (.int .u64 hhi)) from fun wx h => ⟨HC0.out wx h, (hh.below h).c0, (hh.below h).c1⟩)
        have st : Ext V2 V2 := Ext.refl _
        obtain ⟨⟨⟨⟨x0, x1⟩, y0, y1⟩, m0, m1⟩, h0, h1⟩ := HC.out V2 st
        clear hh HC0
        go_wp2_with fail
        refine (S1.out _).mono ?_
        rintro r w8 ⟨rfl, hE⟩
        have st := Ext.trans st hE
        clear x0 x1 y0 y1 m0 m1 h0 h1 hE
        obtain ⟨⟨⟨⟨x0, x1⟩, y0, y1⟩, m0, m1⟩, h0, h1⟩ := HC.out w8 st
        go_wp2_with fail
        refine (S2.out _).mono ?_
        rintro r w9 ⟨rfl, hE⟩
        have st := Ext.trans st hE
        clear x0 x1 y0 y1 m0 m1 h0 h1 hE
        obtain ⟨⟨⟨⟨x0, x1⟩, y0, y1⟩, m0, m1⟩, h0, h1⟩ := HC.out w9 st
        go_wp2_with fail
        refine (I.out _).mono ?_
        rintro r w10 ⟨rfl, hE⟩
        have st := Ext.trans st hE
        clear x0 x1 y0 y1 m0 m1 h0 h1 hE
        obtain ⟨⟨⟨⟨x0, x1⟩, y0, y1⟩, m0, m1⟩, h0, h1⟩ := HC.out w10 st
        go_wp2_with fail
        refine (S.out _).mono ?_
        rintro r w11 ⟨rfl, hE⟩
        have st := Ext.trans st hE
        clear x0 x1 y0 y1 m0 m1 h0 h1 hE
        obtain ⟨⟨⟨⟨x0, x1⟩, y0, y1⟩, m0, m1⟩, h0, h1⟩ := HC.out w11 st
        go_wp2_with fail
        refine (SM.out _).mono ?_
        rintro r w12 ⟨rfl, hE⟩
        have st := Ext.trans st hE
        clear x0 x1 y0 y1 m0 m1 h0 h1 hE
        obtain ⟨⟨⟨⟨x0, x1⟩, y0, y1⟩, m0, m1⟩, h0, h1⟩ := HC.out w12 st
        go_wp2_with fail
        refine (iawake_any _).mono ?_
        rintro r w13 ⟨rfl, hE⟩
        have st := Ext.trans st hE
        clear x0 x1 y0 y1 m0 m1 h0 h1 hE
        obtain ⟨⟨⟨⟨x0, x1⟩, y0, y1⟩, m0, m1⟩, h0, h1⟩ := HC.out w13 st
        have EX := Lib.hid (Ext.trans HB.out st)
        go_wp2
        go_ret
        exact ⟨rfl, EX.out⟩
    · obtain rfl : s = true := hin rfl
      clear hin
      go_enter Tryd.func3, Tryd.ntmps3
      go_upto_region 1 with fail
      obtain ⟨W, hW, hB, hx, hy, hsz⟩ := ibox_two w a b c d
      rw [← hW]
      clear hW
      have HB := Lib.hid hB
      generalize w.heap.size = B at hx hy ⊢
      clear hB hsz
      have c0 := hx.c0
      have c1 := hx.c1
      have c2 := hy.c0
      have c3 := hy.c1
      go_wp2_with fail
      refine (M.out _).mono ?_
      rintro r w1 ⟨rfl, hE⟩
      have hx := hx.below hE
      have hy := hy.below hE
      have HB := Lib.hid (HB.out.trans hE)
      clear c0 c1 c2 c3 hE
      rw [MV.out]
      go_upto_region 2 with fail
      obtain ⟨V, hV, hE, hm, hsz⟩ := ibox_new w1 mlo mhi
      rw [← hV]
      clear hV
      have hx := hx.below hE
      have hy := hy.below hE
      have HB := Lib.hid (HB.out.trans hE)
      generalize w1.heap.size = D at hm ⊢
      clear hE hsz
      have HC := Lib.hid (show ∀ wx, Ext V wx → ((wx.cell? ⟨B, 0, none⟩ = some (.int .u64 (a : Int)) ∧ wx.cell? ⟨B, 1, none⟩ = some (.int .u64 (b : Int))) ∧ (wx.cell? ⟨B + 1, 0, none⟩ = some (.int .u64 (c : Int)) ∧ wx.cell? ⟨B + 1, 1, none⟩ = some (.int .u64 (d : Int)))) ∧ (wx.cell? ⟨D, 0, none⟩ = some (.int .u64 mlo) ∧ wx.cell? ⟨D, 1, none⟩ = some (.int .u64 mhi)) from fun wx h => ⟨⟨⟨(hx.below h).c0, (hx.below h).c1⟩, (hy.below h).c0, (hy.below h).c1⟩, (hm.below h).c0, (hm.below h).c1⟩)
      have st : Ext V V := Ext.refl _
      obtain ⟨⟨⟨x0, x1⟩, y0, y1⟩, m0, m1⟩ := HC.out V st
      clear hx hy hm
      go_wp2_with fail
      refine (P.out _ (Ext.trans HB.out st)).mono ?_
      rintro r w2 ⟨rfl, hE⟩
      have st := Ext.trans st hE
      clear x0 x1 y0 y1 m0 m1 hE
      obtain ⟨⟨⟨x0, x1⟩, y0, y1⟩, m0, m1⟩ := HC.out w2 st
      go_wp2_with fail
      refine (Q.out _ (Ext.trans HB.out st)).mono ?_
      rintro r w3 ⟨rfl, hE⟩
      have st := Ext.trans st hE
      clear x0 x1 y0 y1 m0 m1 hE
      obtain ⟨⟨⟨x0, x1⟩, y0, y1⟩, m0, m1⟩ := HC.out w3 st
      go_wp2_with fail
      refine (R.out _ (Ext.trans HB.out st)).mono ?_
      rintro r w4 ⟨rfl, hE⟩
      have st := Ext.trans st hE
      clear x0 x1 y0 y1 m0 m1 hE
      obtain ⟨⟨⟨x0, x1⟩, y0, y1⟩, m0, m1⟩ := HC.out w4 st
      go_wp2_with fail
      refine (V1.out _).mono ?_
      rintro r w5 ⟨rfl, hE⟩
      have st := Ext.trans st hE
      clear x0 x1 y0 y1 m0 m1 hE
      obtain ⟨⟨⟨x0, x1⟩, y0, y1⟩, m0, m1⟩ := HC.out w5 st
      go_wp2_with fail
      refine (V2.out _).mono ?_
      rintro r w6 ⟨rfl, hE⟩
      have st := Ext.trans st hE
      clear x0 x1 y0 y1 m0 m1 hE
      obtain ⟨⟨⟨x0, x1⟩, y0, y1⟩, m0, m1⟩ := HC.out w6 st
      go_wp2_with fail
      refine (H.out _).mono ?_
      rintro r w7 ⟨rfl, hE⟩
      have st := Ext.trans st hE
      clear x0 x1 y0 y1 m0 m1 hE
      go_upto_region 8 with fail
      obtain ⟨V2, hV2, hE2, hh, hsz⟩ := ibox_new w7 hlo hhi
      rw [← hV2]
      clear hV2
      have HC0 := Lib.hid (fun wx (h : Ext V2 wx) => HC.out wx (Ext.trans (Ext.trans st hE2) h))
      have HB := Lib.hid (HB.out.trans (Ext.trans st hE2))
      have HTT2 := Lib.hid (fun wx (h : Ext V2 wx) => Ext.trans (Ext.trans st hE2) h)
      generalize w7.heap.size = D2 at hh ⊢
      clear hsz HC hE2 st
      have HC := Lib.hid (show ∀ wx, Ext V2 wx → (((wx.cell? ⟨B, 0, none⟩ = some (.int .u64 (a : Int)) ∧ wx.cell? ⟨B, 1, none⟩ = some (.int .u64 (b : Int))) ∧ (wx.cell? ⟨B + 1, 0, none⟩ = some (.int .u64 (c : Int)) ∧ wx.cell? ⟨B + 1, 1, none⟩ = some (.int .u64 (d : Int)))) ∧ (wx.cell? ⟨D, 0, none⟩ = some (.int .u64 mlo) ∧ wx.cell? ⟨D, 1, none⟩ = some (.int .u64 mhi))) ∧ (wx.cell? ⟨D2, 0, none⟩ = some (.int .u64 hlo) ∧ wx.cell? ⟨D2, 1, none⟩ = some (.int .u64 hhi)) from fun wx h => ⟨HC0.out wx h, (hh.below h).c0, (hh.below h).c1⟩)
      have st : Ext V2 V2 := Ext.refl _
      obtain ⟨⟨⟨⟨x0, x1⟩, y0, y1⟩, m0, m1⟩, h0, h1⟩ := HC.out V2 st
      clear hh HC0
      go_wp2_with fail
      refine (S1.out _).mono ?_
      rintro r w8 ⟨rfl, hE⟩
      have st := Ext.trans st hE
      clear x0 x1 y0 y1 m0 m1 h0 h1 hE
      obtain ⟨⟨⟨⟨x0, x1⟩, y0, y1⟩, m0, m1⟩, h0, h1⟩ := HC.out w8 st
      go_wp2_with fail
      refine (S2.out _).mono ?_
      rintro r w9 ⟨rfl, hE⟩
      have st := Ext.trans st hE
      clear x0 x1 y0 y1 m0 m1 h0 h1 hE
      obtain ⟨⟨⟨⟨x0, x1⟩, y0, y1⟩, m0, m1⟩, h0, h1⟩ := HC.out w9 st
      go_wp2_with fail
      refine (I.out _).mono ?_
      rintro r w10 ⟨rfl, hE⟩
      have st := Ext.trans st hE
      clear x0 x1 y0 y1 m0 m1 h0 h1 hE
      obtain ⟨⟨⟨⟨x0, x1⟩, y0, y1⟩, m0, m1⟩, h0, h1⟩ := HC.out w10 st
      go_wp2_with fail
      refine (S.out _).mono ?_
      rintro r w11 ⟨rfl, hE⟩
      have st := Ext.trans st hE
      clear x0 x1 y0 y1 m0 m1 h0 h1 hE
      obtain ⟨⟨⟨⟨x0, x1⟩, y0, y1⟩, m0, m1⟩, h0, h1⟩ := HC.out w11 st
      go_wp2_with fail
      refine (S.out _).mono ?_
      rintro r w12 ⟨rfl, hE⟩
      have st := Ext.trans st hE
      clear x0 x1 y0 y1 m0 m1 h0 h1 hE
      obtain ⟨⟨⟨⟨x0, x1⟩, y0, y1⟩, m0, m1⟩, h0, h1⟩ := HC.out w12 st
      go_wp2_with fail
      refine (SM.out _).mono ?_
      rintro r w13 ⟨rfl, hE⟩
      have st := Ext.trans st hE
      clear x0 x1 y0 y1 m0 m1 h0 h1 hE
      obtain ⟨⟨⟨⟨x0, x1⟩, y0, y1⟩, m0, m1⟩, h0, h1⟩ := HC.out w13 st
      go_wp2_with fail
      refine (iawake_any _).mono ?_
      rintro r w14 ⟨rfl, hE⟩
      have st := Ext.trans st hE
      clear x0 x1 y0 y1 m0 m1 h0 h1 hE
      obtain ⟨⟨⟨⟨x0, x1⟩, y0, y1⟩, m0, m1⟩, h0, h1⟩ := HC.out w14 st
      have EX := Lib.hid (Ext.trans HB.out st)
      go_wp2
      go_ret
      exact ⟨rfl, EX.out⟩
  · skip
    cases i
    · clear hin
      cases s
      · skip
        go_enter Tryd.func3, Tryd.ntmps3
        go_upto_region 1 with fail
        obtain ⟨W, hW, hB, hx, hy, hsz⟩ := ibox_two w a b c d
        rw [← hW]
        clear hW
        have HB := Lib.hid hB
        generalize w.heap.size = B at hx hy ⊢
        clear hB hsz
        have c0 := hx.c0
        have c1 := hx.c1
        have c2 := hy.c0
        have c3 := hy.c1
        go_wp2_with fail
        refine (M.out _).mono ?_
        rintro r w1 ⟨rfl, hE⟩
        have hx := hx.below hE
        have hy := hy.below hE
        have HB := Lib.hid (HB.out.trans hE)
        clear c0 c1 c2 c3 hE
        rw [MV.out]
        go_upto_region 2 with fail
        obtain ⟨V, hV, hE, hm, hsz⟩ := ibox_new w1 mlo mhi
        rw [← hV]
        clear hV
        have hx := hx.below hE
        have hy := hy.below hE
        have HB := Lib.hid (HB.out.trans hE)
        generalize w1.heap.size = D at hm ⊢
        clear hE hsz
        have HC := Lib.hid (show ∀ wx, Ext V wx → ((wx.cell? ⟨B, 0, none⟩ = some (.int .u64 (a : Int)) ∧ wx.cell? ⟨B, 1, none⟩ = some (.int .u64 (b : Int))) ∧ (wx.cell? ⟨B + 1, 0, none⟩ = some (.int .u64 (c : Int)) ∧ wx.cell? ⟨B + 1, 1, none⟩ = some (.int .u64 (d : Int)))) ∧ (wx.cell? ⟨D, 0, none⟩ = some (.int .u64 mlo) ∧ wx.cell? ⟨D, 1, none⟩ = some (.int .u64 mhi)) from fun wx h => ⟨⟨⟨(hx.below h).c0, (hx.below h).c1⟩, (hy.below h).c0, (hy.below h).c1⟩, (hm.below h).c0, (hm.below h).c1⟩)
        have st : Ext V V := Ext.refl _
        obtain ⟨⟨⟨x0, x1⟩, y0, y1⟩, m0, m1⟩ := HC.out V st
        clear hx hy hm
        go_wp2_with fail
        refine (P.out _ (Ext.trans HB.out st)).mono ?_
        rintro r w2 ⟨rfl, hE⟩
        have st := Ext.trans st hE
        clear x0 x1 y0 y1 m0 m1 hE
        obtain ⟨⟨⟨x0, x1⟩, y0, y1⟩, m0, m1⟩ := HC.out w2 st
        go_wp2_with fail
        refine (Q.out _ (Ext.trans HB.out st)).mono ?_
        rintro r w3 ⟨rfl, hE⟩
        have st := Ext.trans st hE
        clear x0 x1 y0 y1 m0 m1 hE
        obtain ⟨⟨⟨x0, x1⟩, y0, y1⟩, m0, m1⟩ := HC.out w3 st
        go_wp2_with fail
        refine (R.out _ (Ext.trans HB.out st)).mono ?_
        rintro r w4 ⟨rfl, hE⟩
        have st := Ext.trans st hE
        clear x0 x1 y0 y1 m0 m1 hE
        obtain ⟨⟨⟨x0, x1⟩, y0, y1⟩, m0, m1⟩ := HC.out w4 st
        go_wp2_with fail
        refine (V1.out _).mono ?_
        rintro r w5 ⟨rfl, hE⟩
        have st := Ext.trans st hE
        clear x0 x1 y0 y1 m0 m1 hE
        obtain ⟨⟨⟨x0, x1⟩, y0, y1⟩, m0, m1⟩ := HC.out w5 st
        go_wp2_with fail
        refine (V2.out _).mono ?_
        rintro r w6 ⟨rfl, hE⟩
        have st := Ext.trans st hE
        clear x0 x1 y0 y1 m0 m1 hE
        obtain ⟨⟨⟨x0, x1⟩, y0, y1⟩, m0, m1⟩ := HC.out w6 st
        go_wp2_with fail
        refine (H.out _).mono ?_
        rintro r w7 ⟨rfl, hE⟩
        have st := Ext.trans st hE
        clear x0 x1 y0 y1 m0 m1 hE
        go_upto_region 8 with fail
        obtain ⟨V2, hV2, hE2, hh, hsz⟩ := ibox_new w7 hlo hhi
        rw [← hV2]
        clear hV2
        have HC0 := Lib.hid (fun wx (h : Ext V2 wx) => HC.out wx (Ext.trans (Ext.trans st hE2) h))
        have HB := Lib.hid (HB.out.trans (Ext.trans st hE2))
        have HTT2 := Lib.hid (fun wx (h : Ext V2 wx) => Ext.trans (Ext.trans st hE2) h)
        generalize w7.heap.size = D2 at hh ⊢
        clear hsz HC hE2 st
        have HC := Lib.hid (show ∀ wx, Ext V2 wx → (((wx.cell? ⟨B, 0, none⟩ = some (.int .u64 (a : Int)) ∧ wx.cell? ⟨B, 1, none⟩ = some (.int .u64 (b : Int))) ∧ (wx.cell? ⟨B + 1, 0, none⟩ = some (.int .u64 (c : Int)) ∧ wx.cell? ⟨B + 1, 1, none⟩ = some (.int .u64 (d : Int)))) ∧ (wx.cell? ⟨D, 0, none⟩ = some (.int .u64 mlo) ∧ wx.cell? ⟨D, 1, none⟩ = some (.int .u64 mhi))) ∧ (wx.cell? ⟨D2, 0, none⟩ = some (.int .u64 hlo) ∧ wx.cell? ⟨D2, 1, none⟩ = some (.int .u64 hhi)) from fun wx h => ⟨HC0.out wx h, (hh.below h).c0, (hh.below h).c1⟩)
        have st : Ext V2 V2 := Ext.refl _
        obtain ⟨⟨⟨⟨x0, x1⟩, y0, y1⟩, m0, m1⟩, h0, h1⟩ := HC.out V2 st
        clear hh HC0
        go_wp2_with fail
        refine (S1.out _).mono ?_
        rintro r w8 ⟨rfl, hE⟩
        have st := Ext.trans st hE
        clear x0 x1 y0 y1 m0 m1 h0 h1 hE
        obtain ⟨⟨⟨⟨x0, x1⟩, y0, y1⟩, m0, m1⟩, h0, h1⟩ := HC.out w8 st
        go_wp2_with fail
        refine (S2.out _).mono ?_
        rintro r w9 ⟨rfl, hE⟩
        have st := Ext.trans st hE
        clear x0 x1 y0 y1 m0 m1 h0 h1 hE
        obtain ⟨⟨⟨⟨x0, x1⟩, y0, y1⟩, m0, m1⟩, h0, h1⟩ := HC.out w9 st
        go_wp2_with fail
        refine (I.out _).mono ?_
        rintro r w10 ⟨rfl, hE⟩
        have st := Ext.trans st hE
        clear x0 x1 y0 y1 m0 m1 h0 h1 hE
        obtain ⟨⟨⟨⟨x0, x1⟩, y0, y1⟩, m0, m1⟩, h0, h1⟩ := HC.out w10 st
        go_wp2_with fail
        refine (S.out _).mono ?_
        rintro r w11 ⟨rfl, hE⟩
        have st := Ext.trans st hE
        clear x0 x1 y0 y1 m0 m1 h0 h1 hE
        obtain ⟨⟨⟨⟨x0, x1⟩, y0, y1⟩, m0, m1⟩, h0, h1⟩ := HC.out w11 st
        go_wp2_with fail
        refine (SM.out _).mono ?_
        rintro r w12 ⟨rfl, hE⟩
        have st := Ext.trans st hE
        clear x0 x1 y0 y1 m0 m1 h0 h1 hE
        obtain ⟨⟨⟨⟨x0, x1⟩, y0, y1⟩, m0, m1⟩, h0, h1⟩ := HC.out w12 st
        go_wp2_with fail
        refine (iawake_any _).mono ?_
        rintro r w13 ⟨rfl, hE⟩
        have st := Ext.trans st hE
        clear x0 x1 y0 y1 m0 m1 h0 h1 hE
        obtain ⟨⟨⟨⟨x0, x1⟩, y0, y1⟩, m0, m1⟩, h0, h1⟩ := HC.out w13 st
        have EX := Lib.hid (Ext.trans HB.out st)
        go_wp2
        go_ret
        exact ⟨rfl, EX.out⟩
      · skip
        go_enter Tryd.func3, Tryd.ntmps3
        go_upto_region 1 with fail
        obtain ⟨W, hW, hB, hx, hy, hsz⟩ := ibox_two w a b c d
        rw [← hW]
        clear hW
        have HB := Lib.hid hB
        generalize w.heap.size = B at hx hy ⊢
        clear hB hsz
        have c0 := hx.c0
        have c1 := hx.c1
        have c2 := hy.c0
        have c3 := hy.c1
        go_wp2_with fail
        refine (M.out _).mono ?_
        rintro r w1 ⟨rfl, hE⟩
        have hx := hx.below hE
        have hy := hy.below hE
        have HB := Lib.hid (HB.out.trans hE)
        clear c0 c1 c2 c3 hE
        rw [MV.out]
        go_upto_region 2 with fail
        obtain ⟨V, hV, hE, hm, hsz⟩ := ibox_new w1 mlo mhi
        rw [← hV]
        clear hV
        have hx := hx.below hE
        have hy := hy.below hE
        have HB := Lib.hid (HB.out.trans hE)
        generalize w1.heap.size = D at hm ⊢
        clear hE hsz
        have HC := Lib.hid (show ∀ wx, Ext V wx → ((wx.cell? ⟨B, 0, none⟩ = some (.int .u64 (a : Int)) ∧ wx.cell? ⟨B, 1, none⟩ = some (.int .u64 (b : Int))) ∧ (wx.cell? ⟨B + 1, 0, none⟩ = some (.int .u64 (c : Int)) ∧ wx.cell? ⟨B + 1, 1, none⟩ = some (.int .u64 (d : Int)))) ∧ (wx.cell? ⟨D, 0, none⟩ = some (.int .u64 mlo) ∧ wx.cell? ⟨D, 1, none⟩ = some (.int .u64 mhi)) from fun wx h => ⟨⟨⟨(hx.below h).c0, (hx.below h).c1⟩, (hy.below h).c0, (hy.below h).c1⟩, (hm.below h).c0, (hm.below h).c1⟩)
        have st : Ext V V := Ext.refl _
        obtain ⟨⟨⟨x0, x1⟩, y0, y1⟩, m0, m1⟩ := HC.out V st
        clear hx hy hm
        go_wp2_with fail
        refine (P.out _ (Ext.trans HB.out st)).mono ?_
        rintro r w2 ⟨rfl, hE⟩
        have st := Ext.trans st hE
        clear x0 x1 y0 y1 m0 m1 hE
        obtain ⟨⟨⟨x0, x1⟩, y0, y1⟩, m0, m1⟩ := HC.out w2 st
        go_wp2_with fail
        refine (Q.out _ (Ext.trans HB.out st)).mono ?_
        rintro r w3 ⟨rfl, hE⟩
        have st := Ext.trans st hE
        clear x0 x1 y0 y1 m0 m1 hE
        obtain ⟨⟨⟨x0, x1⟩, y0, y1⟩, m0, m1⟩ := HC.out w3 st
        go_wp2_with fail
        refine (R.out _ (Ext.trans HB.out st)).mono ?_
        rintro r w4 ⟨rfl, hE⟩
        have st := Ext.trans st hE
        clear x0 x1 y0 y1 m0 m1 hE
        obtain ⟨⟨⟨x0, x1⟩, y0, y1⟩, m0, m1⟩ := HC.out w4 st
        go_wp2_with fail
        refine (V1.out _).mono ?_
        rintro r w5 ⟨rfl, hE⟩
        have st := Ext.trans st hE
        clear x0 x1 y0 y1 m0 m1 hE
        obtain ⟨⟨⟨x0, x1⟩, y0, y1⟩, m0, m1⟩ := HC.out w5 st
        go_wp2_with fail
        refine (V2.out _).mono ?_
        rintro r w6 ⟨rfl, hE⟩
        have st := Ext.trans st hE
        clear x0 x1 y0 y1 m0 m1 hE
        obtain ⟨⟨⟨x0, x1⟩, y0, y1⟩, m0, m1⟩ := HC.out w6 st
        go_wp2_with fail
        refine (H.out _).mono ?_
        rintro r w7 ⟨rfl, hE⟩
        have st := Ext.trans st hE
        clear x0 x1 y0 y1 m0 m1 hE
        go_upto_region 8 with fail
        obtain ⟨V2, hV2, hE2, hh, hsz⟩ := ibox_new w7 hlo hhi
        rw [← hV2]
        clear hV2
        have HC0 := Lib.hid (fun wx (h : Ext V2 wx) => HC.out wx (Ext.trans (Ext.trans st hE2) h))
        have HB := Lib.hid (HB.out.trans (Ext.trans st hE2))
        have HTT2 := Lib.hid (fun wx (h : Ext V2 wx) => Ext.trans (Ext.trans st hE2) h)
        generalize w7.heap.size = D2 at hh ⊢
        clear hsz HC hE2 st
        have HC := Lib.hid (show ∀ wx, Ext V2 wx → (((wx.cell? ⟨B, 0, none⟩ = some (.int .u64 (a : Int)) ∧ wx.cell? ⟨B, 1, none⟩ = some (.int .u64 (b : Int))) ∧ (wx.cell? ⟨B + 1, 0, none⟩ = some (.int .u64 (c : Int)) ∧ wx.cell? ⟨B + 1, 1, none⟩ = some (.int .u64 (d : Int)))) ∧ (wx.cell? ⟨D, 0, none⟩ = some (.int .u64 mlo) ∧ wx.cell? ⟨D, 1, none⟩ = some (.int .u64 mhi))) ∧ (wx.cell? ⟨D2, 0, none⟩ = some (.int .u64 hlo) ∧ wx.cell? ⟨D2, 1, none⟩ = some (.int .u64 hhi)) from fun wx h => ⟨HC0.out wx h, (hh.below h).c0, (hh.below h).c1⟩)
        have st : Ext V2 V2 := Ext.refl _
        obtain ⟨⟨⟨⟨x0, x1⟩, y0, y1⟩, m0, m1⟩, h0, h1⟩ := HC.out V2 st
        clear hh HC0
        go_wp2_with fail
        refine (S1.out _).mono ?_
        rintro r w8 ⟨rfl, hE⟩
        have st := Ext.trans st hE
        clear x0 x1 y0 y1 m0 m1 h0 h1 hE
        obtain ⟨⟨⟨⟨x0, x1⟩, y0, y1⟩, m0, m1⟩, h0, h1⟩ := HC.out w8 st
        go_wp2_with fail
        refine (S2.out _).mono ?_
        rintro r w9 ⟨rfl, hE⟩
        have st := Ext.trans st hE
        clear x0 x1 y0 y1 m0 m1 h0 h1 hE
        obtain ⟨⟨⟨⟨x0, x1⟩, y0, y1⟩, m0, m1⟩, h0, h1⟩ := HC.out w9 st
        go_wp2_with fail
        refine (I.out _).mono ?_
        rintro r w10 ⟨rfl, hE⟩
        have st := Ext.trans st hE
        clear x0 x1 y0 y1 m0 m1 h0 h1 hE
        obtain ⟨⟨⟨⟨x0, x1⟩, y0, y1⟩, m0, m1⟩, h0, h1⟩ := HC.out w10 st
        go_wp2_with fail
        refine (S.out _).mono ?_
        rintro r w11 ⟨rfl, hE⟩
        have st := Ext.trans st hE
        clear x0 x1 y0 y1 m0 m1 h0 h1 hE
        obtain ⟨⟨⟨⟨x0, x1⟩, y0, y1⟩, m0, m1⟩, h0, h1⟩ := HC.out w11 st
        go_wp2_with fail
        refine (SM.out _).mono ?_
        rintro r w12 ⟨rfl, hE⟩
        have st := Ext.trans st hE
        clear x0 x1 y0 y1 m0 m1 h0 h1 hE
        obtain ⟨⟨⟨⟨x0, x1⟩, y0, y1⟩, m0, m1⟩, h0, h1⟩ := HC.out w12 st
        go_wp2_with fail
        refine (iawake_any _).mono ?_
        rintro r w13 ⟨rfl, hE⟩
        have st := Ext.trans st hE
        clear x0 x1 y0 y1 m0 m1 h0 h1 hE
        obtain ⟨⟨⟨⟨x0, x1⟩, y0, y1⟩, m0, m1⟩, h0, h1⟩ := HC.out w13 st
        have EX := Lib.hid (Ext.trans HB.out st)
        go_wp2
        go_ret
        exact ⟨rfl, EX.out⟩
    · obtain rfl : s = true := hin rfl
      clear hin
      go_enter Tryd.func3, Tryd.ntmps3
      go_upto_region 1 with fail
      obtain ⟨W, hW, hB, hx, hy, hsz⟩ := ibox_two w a b c d
      rw [← hW]
      clear hW
      have HB := Lib.hid hB
      generalize w.heap.size = B at hx hy ⊢
      clear hB hsz
      have c0 := hx.c0
      have c1 := hx.c1
      have c2 := hy.c0
      have c3 := hy.c1
      go_wp2_with fail
      refine (M.out _).mono ?_
      rintro r w1 ⟨rfl, hE⟩
      have hx := hx.below hE
      have hy := hy.below hE
      have HB := Lib.hid (HB.out.trans hE)
      clear c0 c1 c2 c3 hE
      rw [MV.out]
      go_upto_region 2 with fail
      obtain ⟨V, hV, hE, hm, hsz⟩ := ibox_new w1 mlo mhi
      rw [← hV]
      clear hV
      have hx := hx.below hE
      have hy := hy.below hE
      have HB := Lib.hid (HB.out.trans hE)
      generalize w1.heap.size = D at hm ⊢
      clear hE hsz
      have HC := Lib.hid (show ∀ wx, Ext V wx → ((wx.cell? ⟨B, 0, none⟩ = some (.int .u64 (a : Int)) ∧ wx.cell? ⟨B, 1, none⟩ = some (.int .u64 (b : Int))) ∧ (wx.cell? ⟨B + 1, 0, none⟩ = some (.int .u64 (c : Int)) ∧ wx.cell? ⟨B + 1, 1, none⟩ = some (.int .u64 (d : Int)))) ∧ (wx.cell? ⟨D, 0, none⟩ = some (.int .u64 mlo) ∧ wx.cell? ⟨D, 1, none⟩ = some (.int .u64 mhi)) from fun wx h => ⟨⟨⟨(hx.below h).c0, (hx.below h).c1⟩, (hy.below h).c0, (hy.below h).c1⟩, (hm.below h).c0, (hm.below h).c1⟩)
      have st : Ext V V := Ext.refl _
      obtain ⟨⟨⟨x0, x1⟩, y0, y1⟩, m0, m1⟩ := HC.out V st
      clear hx hy hm
      go_wp2_with fail
      refine (P.out _ (Ext.trans HB.out st)).mono ?_
      rintro r w2 ⟨rfl, hE⟩
      have st := Ext.trans st hE
      clear x0 x1 y0 y1 m0 m1 hE
      obtain ⟨⟨⟨x0, x1⟩, y0, y1⟩, m0, m1⟩ := HC.out w2 st
      go_wp2_with fail
      refine (Q.out _ (Ext.trans HB.out st)).mono ?_
      rintro r w3 ⟨rfl, hE⟩
      have st := Ext.trans st hE
      clear x0 x1 y0 y1 m0 m1 hE
      obtain ⟨⟨⟨x0, x1⟩, y0, y1⟩, m0, m1⟩ := HC.out w3 st
      go_wp2_with fail
      refine (R.out _ (Ext.trans HB.out st)).mono ?_
      rintro r w4 ⟨rfl, hE⟩
      have st := Ext.trans st hE
      clear x0 x1 y0 y1 m0 m1 hE
      obtain ⟨⟨⟨x0, x1⟩, y0, y1⟩, m0, m1⟩ := HC.out w4 st
      go_wp2_with fail
      refine (V1.out _).mono ?_
      rintro r w5 ⟨rfl, hE⟩
      have st := Ext.trans st hE
      clear x0 x1 y0 y1 m0 m1 hE
      obtain ⟨⟨⟨x0, x1⟩, y0, y1⟩, m0, m1⟩ := HC.out w5 st
      go_wp2_with fail
      refine (V2.out _).mono ?_
      rintro r w6 ⟨rfl, hE⟩
      have st := Ext.trans st hE
      clear x0 x1 y0 y1 m0 m1 hE
      obtain ⟨⟨⟨x0, x1⟩, y0, y1⟩, m0, m1⟩ := HC.out w6 st
      go_wp2_with fail
      refine (H.out _).mono ?_
      rintro r w7 ⟨rfl, hE⟩
      have st := Ext.trans st hE
      clear x0 x1 y0 y1 m0 m1 hE
      go_upto_region 8 with fail
      obtain ⟨V2, hV2, hE2, hh, hsz⟩ := ibox_new w7 hlo hhi
      rw [← hV2]
      clear hV2
      have HC0 := Lib.hid (fun wx (h : Ext V2 wx) => HC.out wx (Ext.trans (Ext.trans st hE2) h))
      have HB := Lib.hid (HB.out.trans (Ext.trans st hE2))
      have HTT2 := Lib.hid (fun wx (h : Ext V2 wx) => Ext.trans (Ext.trans st hE2) h)
      generalize w7.heap.size = D2 at hh ⊢
      clear hsz HC hE2 st
      have HC := Lib.hid (show ∀ wx, Ext V2 wx → (((wx.cell? ⟨B, 0, none⟩ = some (.int .u64 (a : Int)) ∧ wx.cell? ⟨B, 1, none⟩ = some (.int .u64 (b : Int))) ∧ (wx.cell? ⟨B + 1, 0, none⟩ = some (.int .u64 (c : Int)) ∧ wx.cell? ⟨B + 1, 1, none⟩ = some (.int .u64 (d : Int)))) ∧ (wx.cell? ⟨D, 0, none⟩ = some (.int .u64 mlo) ∧ wx.cell? ⟨D, 1, none⟩ = some (.int .u64 mhi))) ∧ (wx.cell? ⟨D2, 0, none⟩ = some (.int .u64 hlo) ∧ wx.cell? ⟨D2, 1, none⟩ = some (.int .u64 hhi)) from fun wx h => ⟨HC0.out wx h, (hh.below h).c0, (hh.below h).c1⟩)
      have st : Ext V2 V2 := Ext.refl _
      obtain ⟨⟨⟨⟨x0, x1⟩, y0, y1⟩, m0, m1⟩, h0, h1⟩ := HC.out V2 st
      clear hh HC0
      go_wp2_with fail
      refine (S1.out _).mono ?_
      rintro r w8 ⟨rfl, hE⟩
      have st := Ext.trans st hE
      clear x0 x1 y0 y1 m0 m1 h0 h1 hE
      obtain ⟨⟨⟨⟨x0, x1⟩, y0, y1⟩, m0, m1⟩, h0, h1⟩ := HC.out w8 st
      go_wp2_with fail
      refine (S2.out _).mono ?_
      rintro r w9 ⟨rfl, hE⟩
      have st := Ext.trans st hE
      clear x0 x1 y0 y1 m0 m1 h0 h1 hE
      obtain ⟨⟨⟨⟨x0, x1⟩, y0, y1⟩, m0, m1⟩, h0, h1⟩ := HC.out w9 st
      go_wp2_with fail
      refine (I.out _).mono ?_
      rintro r w10 ⟨rfl, hE⟩
      have st := Ext.trans st hE
      clear x0 x1 y0 y1 m0 m1 h0 h1 hE
      obtain ⟨⟨⟨⟨x0, x1⟩, y0, y1⟩, m0, m1⟩, h0, h1⟩ := HC.out w10 st
      go_wp2_with fail
      refine (S.out _).mono ?_
      rintro r w11 ⟨rfl, hE⟩
      have st := Ext.trans st hE
      clear x0 x1 y0 y1 m0 m1 h0 h1 hE
      obtain ⟨⟨⟨⟨x0, x1⟩, y0, y1⟩, m0, m1⟩, h0, h1⟩ := HC.out w11 st
      go_wp2_with fail
      refine (S.out _).mono ?_
      rintro r w12 ⟨rfl, hE⟩
      have st := Ext.trans st hE
      clear x0 x1 y0 y1 m0 m1 h0 h1 hE
      obtain ⟨⟨⟨⟨x0, x1⟩, y0, y1⟩, m0, m1⟩, h0, h1⟩ := HC.out w12 st
      go_wp2_with fail
      refine (SM.out _).mono ?_
      rintro r w13 ⟨rfl, hE⟩
      have st := Ext.trans st hE
      clear x0 x1 y0 y1 m0 m1 h0 h1 hE
      obtain ⟨⟨⟨⟨x0, x1⟩, y0, y1⟩, m0, m1⟩, h0, h1⟩ := HC.out w13 st
      go_wp2_with fail
      refine (iawake_any _).mono ?_
      rintro r w14 ⟨rfl, hE⟩
      have st := Ext.trans st hE
      clear x0 x1 y0 y1 m0 m1 h0 h1 hE
      obtain ⟨⟨⟨⟨x0, x1⟩, y0, y1⟩, m0, m1⟩, h0, h1⟩ := HC.out w14 st
      have EX := Lib.hid (Ext.trans HB.out st)
      go_wp2
      go_ret
      exact ⟨rfl, EX.out⟩

theorem imeets_any (a b c d f : Nat) (ha : a < 18446744073709551616) (hb : b < 18446744073709551616) (hc : c < 18446744073709551616) (hd : d < 18446744073709551616) (hf : f < 18446744073709551616) (w : World) (hT : Table w) :
    Calls Tryd.prog 3 #[.agg #[.int .u64 (a : Int), .int .u64 (b : Int)], .agg #[.int .u64 (c : Int), .int .u64 (d : Int)], .int .u64 (f : Int)] w fun e w' => e = .returned (.bool true) ∧ Ext w w' := by
  cases h1 : validF a b with
  | false => exact imeets_no a b c d f ha hb hc hd hf (Or.inl h1) w hT
  | true =>
    cases h2 : validF c d with
    | false => exact imeets_no a b c d f ha hb hc hd hf (Or.inr h2) w hT
    | true =>
      cases hk : validF (meetLo a c) (meetHi b d) with
      | false => exact imeets_apart a b c d f ha hb hc hd hf h1 h2 hk w hT
      | true =>
        cases hp : contF a b f with
        | false => exact imeets_out a b c d f ha hb hc hd hf h1 h2 hk hp w hT
        | true => exact imeets_in a b c d f ha hb hc hd hf h1 h2 hk hp w hT
theorem imeets_int (a b c d f : Int) (W : World) (ha : 0 ≤ a ∧ a < 18446744073709551616) (hb : 0 ≤ b ∧ b < 18446744073709551616) (hc : 0 ≤ c ∧ c < 18446744073709551616) (hd : 0 ≤ d ∧ d < 18446744073709551616) (hf : 0 ≤ f ∧ f < 18446744073709551616) (hT : Table W) :
    Calls Tryd.prog 3 #[.agg #[.int .u64 a, .int .u64 b], .agg #[.int .u64 c, .int .u64 d], .int .u64 f] W fun e w' => e = .returned (.bool true) ∧ Ext W w' := by
  have h := imeets_any a.toNat b.toNat c.toNat d.toNat f.toNat (by omega) (by omega) (by omega) (by omega) (by omega) W hT
  rw [Int.toNat_of_nonneg ha.1, Int.toNat_of_nonneg hb.1, Int.toNat_of_nonneg hc.1, Int.toNat_of_nonneg hd.1, Int.toNat_of_nonneg hf.1] at h
  exact h
end Go.Proofs.YtjohpdobnedilaaDoor
