import Derived.Test.YtekocoklfnojmaaGreatDoorIMiddleU45
import Derived.Test.YtekocoklfnojmaaGreatDoorIMiddleU43
import Derived.Test.YtekocoklfnojmaaGreatDoorIMiddleU40
import Derived.Test.YtekocoklfnojmaaGreatDoorIMiddleU28
import Derived.Test.YtekocoklfnojmaaGreatDoorIMiddleU22
import Derived.Test.YtekocoklfnojmaaGreatDoorIMiddleU44
import Derived.Test.YtekocoklfnojmaaGreatDoorIMiddleU35
namespace Go.Proofs.YtekocoklfnojmaaGreatDoor
open Go.RowKit

set_option maxRecDepth 100000 in
theorem fsubR_at {a b r : Nat} {mode : Int} (ha : a < 18446744073709551616) (hb : b < 18446744073709551616) (h : faddF a (fnegF b) mode = r) (w : World) : Calls Tryz.prog 94 #[.int .u64 (a : Int), .int .u64 (b : Int), .int .i64 mode] w fun e w' => e = .returned (.int .u64 (r : Int)) ∧ Ext w w' := by
  obtain ⟨n, hn⟩ : ∃ n, fnegF b = n := ⟨_, rfl⟩
  have ln : n < 18446744073709551616 := by rw [← hn]; exact fnegF_lt
  rw [hn] at h
  have CN := Lib.hid (fun w => negF_at hb hn w)
  have CA := Lib.hid (fun w => addF_at ha ln h w)
  clear hn ln h
  go_enter Tryz.func94, Tryz.ntmps94
  go_wp2_with fail
  refine (CN.out _).mono ?_
  rintro e w1 ⟨rfl, rfl⟩
  go_wp2_with fail
  refine (CA.out _).mono ?_
  rintro e w2 ⟨rfl, hE⟩
  go_wp2
  go_ret
  exact ⟨rfl, hE⟩

set_option maxRecDepth 100000 in
set_option maxHeartbeats 4000000 in
theorem irad_no (a b : Nat) (ha : a < 18446744073709551616) (hb : b < 18446744073709551616) (h1 : validF a b = false) (w : World) :
    Calls Tryz.prog 40 #[.agg #[.int .u64 (a : Int), .int .u64 (b : Int)]] w fun e w' => e = .returned (.int .u64 9221120237041090560) ∧ Ext w w' := by
  have C1 := Lib.hid (ivalid_at a b ha hb rfl rfl false h1)
  clear h1 ha hb
  go_enter Tryz.func40, Tryz.ntmps40
  go_upto_region 1 with fail
  obtain ⟨W, hW, hB, hx, hsz⟩ := ibox_new w a b
  rw [← hW]
  clear hW
  have HB := Lib.hid hB
  generalize w.heap.size = B at hx ⊢
  clear hB hsz
  have HC := Lib.hid (show ∀ wx, Ext W wx → wx.cell? ⟨B, 0, none⟩ = some (.int .u64 (a : Int)) ∧ wx.cell? ⟨B, 1, none⟩ = some (.int .u64 (b : Int)) from fun wx h => ⟨(hx.below h).c0, (hx.below h).c1⟩)
  clear hx
  have st : Ext W W := Ext.refl _
  obtain ⟨a0, a1⟩ := HC.out _ st
  go_wp2_with fail
  refine (C1.out _).mono ?_
  rintro r w1 ⟨rfl, hE⟩
  have st : Ext W w1 := Ext.trans st hE
  clear hE a0 a1
  obtain ⟨a0, a1⟩ := HC.out _ st
  have HF := Lib.hid (HB.out.trans st)
  go_wp2
  go_ret
  exact ⟨rfl, HF.out⟩

set_option maxRecDepth 100000 in
set_option maxHeartbeats 8000000 in
theorem irad_yes (a b : Nat) (g : Good a b) (w : World) (hT : Table w) (hT6 : Table64 w) :
    Calls Tryz.prog 40 #[.agg #[.int .u64 (a : Int), .int .u64 (b : Int)]] w fun e w' => e = .returned (.int .u64 ((radF a b : Nat) : Int)) ∧ Ext w w' := by
  have C1 := Lib.hid (ivalid_at a b g.l1 g.l2 rfl rfl true g.valid)
  have CM := Lib.hid (fun wx (h : Ext w wx) => imid_yes a b g wx (hT.below h) (hT6.below h))
  have ha := g.l1
  have hb := g.l2
  have lm := (mid_in g).l
  unfold radF
  generalize midF a b = m at *
  obtain ⟨s1, h1⟩ : ∃ s, faddF m (fnegF a) 2 = s := ⟨_, rfl⟩
  obtain ⟨s2, h2⟩ : ∃ s, faddF b (fnegF m) 2 = s := ⟨_, rfl⟩
  have S1 := Lib.hid (fun w => fsubR_at lm ha h1 w)
  have S2 := Lib.hid (fun w => fsubR_at hb lm h2 w)
  have l1 : s1 < 18446744073709551616 := by rw [← h1]; exact fadd_lt _ fnegF_lt
  have l2 : s2 < 18446744073709551616 := by rw [← h2]; exact fadd_lt _ fnegF_lt
  rw [h1, h2]
  have HL := Lib.hid (two_lt l1 l2)
  have GR := Lib.hid (fun g w (h : FB w g [s1, s2]) => greatest_any g [s1, s2] 2 rfl (by omega) HL.out w h)
  generalize greatF [s1, s2] = q at *
  have CP := Lib.hid (fun w => plain_any q w)
  obtain ⟨R, hR⟩ : ∃ R : Int, ((plainF q : Nat) : Int) = R := ⟨_, rfl⟩
  rw [hR] at CP ⊢
  clear g ha hb lm h1 h2 l1 l2 hT hT6 hR
  go_enter Tryz.func40, Tryz.ntmps40
  go_upto_region 1 with fail
  obtain ⟨W, hW, hB, hx, hsz⟩ := ibox_new w a b
  rw [← hW]
  clear hW
  have HB := Lib.hid hB
  generalize w.heap.size = B at hx ⊢
  clear hB hsz
  have HC := Lib.hid (show ∀ wx, Ext W wx → wx.cell? ⟨B, 0, none⟩ = some (.int .u64 (a : Int)) ∧ wx.cell? ⟨B, 1, none⟩ = some (.int .u64 (b : Int)) from fun wx h => ⟨(hx.below h).c0, (hx.below h).c1⟩)
  clear hx
  have st : Ext W W := Ext.refl _
  obtain ⟨a0, a1⟩ := HC.out _ st
  go_wp2_with fail
  refine (C1.out _).mono ?_
  rintro r w1 ⟨rfl, hE⟩
  have st : Ext W w1 := Ext.trans st hE
  clear hE a0 a1
  obtain ⟨a0, a1⟩ := HC.out _ st
  go_wp2_with fail
  refine (CM.out _ (Ext.trans HB.out st)).mono ?_
  rintro r V ⟨rfl, hE⟩
  have hWV := Lib.hid (Ext.trans st hE)
  clear a0 a1 hE st
  have HCV := Lib.hid (show ∀ wx, Ext V wx → wx.cell? ⟨B, 0, none⟩ = some (.int .u64 (a : Int)) ∧ wx.cell? ⟨B, 1, none⟩ = some (.int .u64 (b : Int)) from fun wx h => HC.out wx (Ext.trans hWV.out h))
  obtain ⟨a0, a1⟩ := HCV.out V (Ext.refl _)
  go_upto_region 4 with fail
  have st : Ext V V.drew := (Below.refl _ _).drew
  go_region_held3 (fun wx => wx.cell? ⟨B, 0, none⟩ = some (.int .u64 (a : Int)) ∧ wx.cell? ⟨B, 1, none⟩ = some (.int .u64 (b : Int)))
    (first | exact HCV.out _ (by first | assumption | exact eA (by assumption) _ | exact eAd _ _ | exact eAAd _ _ _ | exact eA (eA (by assumption) _) _) | (refine ⟨?_, ?_⟩ <;> go_simp))
    (first
      | (go_at_call 94; (with_reducible refine (S1.out _).mono ?_); rintro r wn ⟨rfl, hE⟩; have st : Ext V wn := Ext.trans (by first | assumption | exact eA (by assumption) _ | exact eAd _ _ | exact eAAd _ _ _ | exact eA (eA (by assumption) _) _) hE; clear hE)
      | (go_at_call 94; (with_reducible refine (S2.out _).mono ?_); rintro r wn ⟨rfl, hE⟩; have st : Ext V wn := Ext.trans (by first | assumption | exact eA (by assumption) _ | exact eAd _ _ | exact eAAd _ _ _ | exact eA (eA (by assumption) _) _) hE; clear hE)
      | (go_at_call 81; refine (GR.out _ _ (by first | exact fbAd _ _ _ | exact fbA _ _ _ | exact fbBd _ _ _ _ | exact fbB _ _ _ _)).mono ?_; rintro r wd ⟨rfl, hE⟩; have std : Ext V wd := Ext.trans (by first | assumption | exact eA (by assumption) _ | exact eAd _ _ | exact eAAd _ _ _ | exact eA (eA (by assumption) _) _) hE; clear hE)
      | (go_at_call 88; (with_reducible refine (CP.out _).mono ?_); rintro r wk ⟨rfl, rfl⟩))
  all_goals
    have HF := Lib.hid (Ext.trans (Ext.trans HB.out hWV.out) std)
    go_wp2
    go_ret
    exact ⟨rfl, HF.out⟩
end Go.Proofs.YtekocoklfnojmaaGreatDoor

namespace Go.Proofs.YtekocoklfnojmaaGreatDoor
open Go.RowKit

set_option maxRecDepth 100000 in
set_option maxHeartbeats 8000000 in
theorem isubset_any (a b c d : Nat) (ha : a < 18446744073709551616) (hb : b < 18446744073709551616) (hc : c < 18446744073709551616) (hd : d < 18446744073709551616) (z : Bool) (hz : subF a b c d = z) (w : World) :
    Calls Tryz.prog 34 #[.agg #[.int .u64 (a : Int), .int .u64 (b : Int)], .agg #[.int .u64 (c : Int), .int .u64 (d : Int)]] w fun e w' => e = .returned (.bool z) ∧ Ext w w' := by
  unfold subF at hz
  obtain ⟨v1, h1⟩ : ∃ v, validF a b = v := ⟨_, rfl⟩
  obtain ⟨v2, h2⟩ : ∃ v, validF c d = v := ⟨_, rfl⟩
  obtain ⟨l3, h3⟩ : ∃ v, lessF a c = v := ⟨_, rfl⟩
  obtain ⟨l4, h4⟩ : ∃ v, lessF d b = v := ⟨_, rfl⟩
  have C1 := Lib.hid (ivalid_at a b ha hb rfl rfl v1 h1)
  have C2 := Lib.hid (ivalid_at c d hc hd rfl rfl v2 h2)
  have C3 := Lib.hid (isLess_at a c ha hc rfl rfl l3 h3)
  have C4 := Lib.hid (isLess_at d b hd hb rfl rfl l4 h4)
  rw [h1, h2, h3, h4] at hz
  clear h1 h2 h3 h4 ha hb hc hd
  cases v1
  · obtain rfl : false = z := hz
    go_enter Tryz.func34, Tryz.ntmps34
    go_wp2_with fail
    obtain ⟨W, hW, hB, hx, hy, hsz⟩ := ibox_two w a b c d
    rw [← hW]
    clear hW
    have HB := Lib.hid hB
    generalize w.heap.size = B at hx hy ⊢
    clear hB hsz
    have c0 := hx.c0
    have c1 := hx.c1
    have c2 := hy.c0
    have c3 := hy.c1
    go_wp2_with fail
    refine (C1.out _).mono ?_
    rintro r w1 ⟨rfl, hE⟩
    have hx := hx.below hE
    have hy := hy.below hE
    have HB := Lib.hid (HB.out.trans hE)
    clear c0 c1 c2 c3 hE
    have c0 := hx.c0
    have c1 := hx.c1
    have c2 := hy.c0
    have c3 := hy.c1
    go_wp2
    go_ret
    exact ⟨rfl, HB.out⟩
  · cases v2
    · obtain rfl : false = z := hz
      go_enter Tryz.func34, Tryz.ntmps34
      go_wp2_with fail
      obtain ⟨W, hW, hB, hx, hy, hsz⟩ := ibox_two w a b c d
      rw [← hW]
      clear hW
      have HB := Lib.hid hB
      generalize w.heap.size = B at hx hy ⊢
      clear hB hsz
      have c0 := hx.c0
      have c1 := hx.c1
      have c2 := hy.c0
      have c3 := hy.c1
      go_wp2_with fail
      refine (C1.out _).mono ?_
      rintro r w1 ⟨rfl, hE⟩
      have hx := hx.below hE
      have hy := hy.below hE
      have HB := Lib.hid (HB.out.trans hE)
      clear c0 c1 c2 c3 hE
      have c0 := hx.c0
      have c1 := hx.c1
      have c2 := hy.c0
      have c3 := hy.c1
      go_wp2_with fail
      refine (C2.out _).mono ?_
      rintro r w2 ⟨rfl, hE⟩
      have hx := hx.below hE
      have hy := hy.below hE
      have HB := Lib.hid (HB.out.trans hE)
      clear c0 c1 c2 c3 hE
      have c0 := hx.c0
      have c1 := hx.c1
      have c2 := hy.c0
      have c3 := hy.c1
      go_wp2
      go_ret
      exact ⟨rfl, HB.out⟩
    · cases l3
      · cases l4
        · obtain rfl : true = z := hz
          go_enter Tryz.func34, Tryz.ntmps34
          go_wp2_with fail
          obtain ⟨W, hW, hB, hx, hy, hsz⟩ := ibox_two w a b c d
          rw [← hW]
          clear hW
          have HB := Lib.hid hB
          generalize w.heap.size = B at hx hy ⊢
          clear hB hsz
          have c0 := hx.c0
          have c1 := hx.c1
          have c2 := hy.c0
          have c3 := hy.c1
          go_wp2_with fail
          refine (C1.out _).mono ?_
          rintro r w1 ⟨rfl, hE⟩
          have hx := hx.below hE
          have hy := hy.below hE
          have HB := Lib.hid (HB.out.trans hE)
          clear c0 c1 c2 c3 hE
          have c0 := hx.c0
          have c1 := hx.c1
          have c2 := hy.c0
          have c3 := hy.c1
          go_wp2_with fail
          refine (C2.out _).mono ?_
          rintro r w2 ⟨rfl, hE⟩
          have hx := hx.below hE
          have hy := hy.below hE
          have HB := Lib.hid (HB.out.trans hE)
          clear c0 c1 c2 c3 hE
          have c0 := hx.c0
          have c1 := hx.c1
          have c2 := hy.c0
          have c3 := hy.c1
          go_wp2_with fail
          refine (C3.out _).mono ?_
          rintro r w3 ⟨rfl, hE⟩
          have hx := hx.below hE
          have hy := hy.below hE
          have HB := Lib.hid (HB.out.trans hE)
          clear c0 c1 c2 c3 hE
          have c0 := hx.c0
          have c1 := hx.c1
          have c2 := hy.c0
          have c3 := hy.c1
          go_wp2_with fail
          refine (C4.out _).mono ?_
          rintro r w4 ⟨rfl, hE⟩
          have hx := hx.below hE
          have hy := hy.below hE
          have HB := Lib.hid (HB.out.trans hE)
          clear c0 c1 c2 c3 hE
          have c0 := hx.c0
          have c1 := hx.c1
          have c2 := hy.c0
          have c3 := hy.c1
          go_wp2
          go_ret
          exact ⟨rfl, HB.out⟩
        · obtain rfl : false = z := hz
          go_enter Tryz.func34, Tryz.ntmps34
          go_wp2_with fail
          obtain ⟨W, hW, hB, hx, hy, hsz⟩ := ibox_two w a b c d
          rw [← hW]
          clear hW
          have HB := Lib.hid hB
          generalize w.heap.size = B at hx hy ⊢
          clear hB hsz
          have c0 := hx.c0
          have c1 := hx.c1
          have c2 := hy.c0
          have c3 := hy.c1
          go_wp2_with fail
          refine (C1.out _).mono ?_
          rintro r w1 ⟨rfl, hE⟩
          have hx := hx.below hE
          have hy := hy.below hE
          have HB := Lib.hid (HB.out.trans hE)
          clear c0 c1 c2 c3 hE
          have c0 := hx.c0
          have c1 := hx.c1
          have c2 := hy.c0
          have c3 := hy.c1
          go_wp2_with fail
          refine (C2.out _).mono ?_
          rintro r w2 ⟨rfl, hE⟩
          have hx := hx.below hE
          have hy := hy.below hE
          have HB := Lib.hid (HB.out.trans hE)
          clear c0 c1 c2 c3 hE
          have c0 := hx.c0
          have c1 := hx.c1
          have c2 := hy.c0
          have c3 := hy.c1
          go_wp2_with fail
          refine (C3.out _).mono ?_
          rintro r w3 ⟨rfl, hE⟩
          have hx := hx.below hE
          have hy := hy.below hE
          have HB := Lib.hid (HB.out.trans hE)
          clear c0 c1 c2 c3 hE
          have c0 := hx.c0
          have c1 := hx.c1
          have c2 := hy.c0
          have c3 := hy.c1
          go_wp2_with fail
          refine (C4.out _).mono ?_
          rintro r w4 ⟨rfl, hE⟩
          have hx := hx.below hE
          have hy := hy.below hE
          have HB := Lib.hid (HB.out.trans hE)
          clear c0 c1 c2 c3 hE
          have c0 := hx.c0
          have c1 := hx.c1
          have c2 := hy.c0
          have c3 := hy.c1
          go_wp2
          go_ret
          exact ⟨rfl, HB.out⟩
      · obtain rfl : false = z := by rw [← hz]; cases l4 <;> rfl
        go_enter Tryz.func34, Tryz.ntmps34
        go_wp2_with fail
        obtain ⟨W, hW, hB, hx, hy, hsz⟩ := ibox_two w a b c d
        rw [← hW]
        clear hW
        have HB := Lib.hid hB
        generalize w.heap.size = B at hx hy ⊢
        clear hB hsz
        have c0 := hx.c0
        have c1 := hx.c1
        have c2 := hy.c0
        have c3 := hy.c1
        go_wp2_with fail
        refine (C1.out _).mono ?_
        rintro r w1 ⟨rfl, hE⟩
        have hx := hx.below hE
        have hy := hy.below hE
        have HB := Lib.hid (HB.out.trans hE)
        clear c0 c1 c2 c3 hE
        have c0 := hx.c0
        have c1 := hx.c1
        have c2 := hy.c0
        have c3 := hy.c1
        go_wp2_with fail
        refine (C2.out _).mono ?_
        rintro r w2 ⟨rfl, hE⟩
        have hx := hx.below hE
        have hy := hy.below hE
        have HB := Lib.hid (HB.out.trans hE)
        clear c0 c1 c2 c3 hE
        have c0 := hx.c0
        have c1 := hx.c1
        have c2 := hy.c0
        have c3 := hy.c1
        go_wp2_with fail
        refine (C3.out _).mono ?_
        rintro r w3 ⟨rfl, hE⟩
        have hx := hx.below hE
        have hy := hy.below hE
        have HB := Lib.hid (HB.out.trans hE)
        clear c0 c1 c2 c3 hE
        have c0 := hx.c0
        have c1 := hx.c1
        have c2 := hy.c0
        have c3 := hy.c1
        go_wp2
        go_ret
        exact ⟨rfl, HB.out⟩

set_option maxRecDepth 100000 in
set_option maxHeartbeats 4000000 in
theorem within_any (a b f : Nat) (ha : a < 18446744073709551616) (hb : b < 18446744073709551616) (hf : f < 18446744073709551616) (z : Bool) (hz : contF a b f = z) (w : World) (hT : Table w) :
    Calls Tryz.prog 46 #[.int .u64 (f : Int), .agg #[.int .u64 (a : Int), .int .u64 (b : Int)]] w fun e w' => e = .returned (.bool z) ∧ Ext w w' := by
  have CO := Lib.hid (fun W (hE : Ext w W) => refOf_any f hf W (hT.below hE))
  have CC := Lib.hid (fun W v (hE : Ext w W) (hv : Dl W v (fdy f)) => refContains_any a b ha hb v (fdy f) z ((cont_fl a b f ha hb).trans hz) W hv (hT.below hE))
  generalize fdy f = df at *
  clear ha hb hf hz hT
  go_enter Tryz.func46, Tryz.ntmps46
  go_upto_region 1 with fail
  obtain ⟨W, hW, hB, hx, hz⟩ := ibox_new w a b
  rw [← hW]
  clear hW
  have HB := Lib.hid (show Ext w W from hB)
  generalize w.heap.size = B at *
  have c0 := hx.c0
  have c1 := hx.c1
  have HC := Lib.hid (show ∀ wx, Ext W wx → wx.cell? ⟨B, 0, none⟩ = some (.int .u64 (a : Int)) ∧ wx.cell? ⟨B, 1, none⟩ = some (.int .u64 (b : Int)) from fun wx h => ⟨(hx.below h).c0, (hx.below h).c1⟩)
  have st : Ext W W.drew := (Below.refl _ _).drew
  clear hB hx hz
  go_region_held3 (fun wx => wx.cell? ⟨B, 0, none⟩ = some (.int .u64 (a : Int)) ∧ wx.cell? ⟨B, 1, none⟩ = some (.int .u64 (b : Int)))
    (first | exact HC.out _ (by assumption))
    (first
      | (go_at_call 93; (with_reducible refine (CO.out _ (Ext.trans HB.out st)).mono ?_); rintro e w1 ⟨v, rfl, hv, hE1⟩; have st1 : Ext W w1 := Ext.trans st hE1)
      | (go_at_call 33; refine (CC.out _ _ (Ext.trans HB.out st1) hv.dl).mono ?_; rintro e w2 ⟨rfl, hE2⟩; have st2 : Ext W w2 := Ext.trans st1 hE2))
  have HF := Lib.hid (Ext.trans HB.out st2)
  go_wp2
  go_ret
  exact ⟨rfl, HF.out⟩
end Go.Proofs.YtekocoklfnojmaaGreatDoor

namespace Go.Proofs.YtekocoklfnojmaaGreatDoor
open Go.RowKit
theorem box_id2 (w : World) (lo hi : Int) (bb nb : Bool) (ao : Option Addr) (n ca : Nat) (e : Int) :
    ∃ W, W = (w.alloc (.cells #[.int .u64 lo, .int .u64 hi] 25)).alloc (.cells #[.bool bb, .bool nb, .slice ao n ca, .int .i64 e] 36) ∧ Ext w W ∧ IBox W w.heap.size lo hi ∧ DBox W (w.heap.size + 1) bb nb ao n ca e := by
  refine ⟨_, rfl, ((Below.refl _ w).alloc (Nat.le_refl _) _).alloc (by simp) _, ?_, ?_⟩
  · exact (IBox.new w lo hi).below ((Below.refl _ _).alloc (Nat.le_refl _) _)
  · have := DBox.new (w.alloc (.cells #[.int .u64 lo, .int .u64 hi] 25)) bb nb ao n ca e
    simpa using this
end Go.Proofs.YtekocoklfnojmaaGreatDoor

namespace Go.Proofs.YtekocoklfnojmaaGreatDoor
open Go.RowKit

set_option maxRecDepth 100000 in
set_option maxHeartbeats 8000000 in
theorem icontains_any (lo hi : Nat) (hl : lo < 18446744073709551616) (hh : hi < 18446744073709551616) (v : Value) (d : Dy) (b : Bool) (hb : contD lo hi d = b) (w : World) (hv : Dg w v d) (hT : Table w) :
    Calls Tryz.prog 32 #[.agg #[.int .u64 (lo : Int), .int .u64 (hi : Int)], v] w fun e w' => e = .returned (.bool b) ∧ Ext w w' := by
  obtain ⟨vb, vn, vo, vk, vc, ve, rfl⟩ := hv.parts
  obtain ⟨r1, h1⟩ : ∃ r, frdF d 1 = r := ⟨_, rfl⟩
  obtain ⟨r2, h2⟩ : ∃ r, frdF d 2 = r := ⟨_, rfl⟩
  have l1 := frdF_lt d 1
  have l2 := frdF_lt d 2
  unfold contD at hb
  rw [h1] at l1 hb
  rw [h2] at l2 hb
  have CS := Lib.hid (isubset_any r1 r2 lo hi l1 l2 hl hh b hb)
  have CD := Lib.hid (fun wx (h : Ext w wx) => frd_at (mode := 1) (hv.ext h) (hT.below h) h1)
  have CU := Lib.hid (fun wx (h : Ext w wx) => frd_at (mode := 2) (hv.ext h) (hT.below h) h2)
  clear hb h1 h2 l1 l2 hl hh hv hT
  go_enter Tryz.func32, Tryz.ntmps32
  go_upto_region 1 with fail
  obtain ⟨W, hW, hB, hx, hy⟩ := box_id2 w lo hi vb vn vo vk vc ve
  rw [← hW]
  clear hW
  have HB := Lib.hid hB
  generalize w.heap.size = B at hx hy ⊢
  clear hB
  have HC := Lib.hid (show ∀ wx, Ext W wx → (wx.cell? ⟨B, 0, none⟩ = some (.int .u64 (lo : Int)) ∧ wx.cell? ⟨B, 1, none⟩ = some (.int .u64 (hi : Int))) ∧ (wx.cell? ⟨B + 1, 0, none⟩ = some (.bool vb) ∧ wx.cell? ⟨B + 1, 1, none⟩ = some (.bool vn) ∧ wx.cell? ⟨B + 1, 2, none⟩ = some (.slice vo vk vc) ∧ wx.cell? ⟨B + 1, 3, none⟩ = some (.int .i64 ve)) from fun wx h => ⟨⟨(hx.below h).c0, (hx.below h).c1⟩, (hy.below h).c0, (hy.below h).c1, (hy.below h).c2, (hy.below h).c3⟩)
  clear hx hy
  obtain ⟨⟨a0, a1⟩, a2, a3, a4, a5⟩ := HC.out W (Ext.refl _)
  have st : Ext W W.drew := (Below.refl _ _).drew
  go_region_held3 (fun wx => (wx.cell? ⟨B, 0, none⟩ = some (.int .u64 (lo : Int)) ∧ wx.cell? ⟨B, 1, none⟩ = some (.int .u64 (hi : Int))) ∧ (wx.cell? ⟨B + 1, 0, none⟩ = some (.bool vb) ∧ wx.cell? ⟨B + 1, 1, none⟩ = some (.bool vn) ∧ wx.cell? ⟨B + 1, 2, none⟩ = some (.slice vo vk vc) ∧ wx.cell? ⟨B + 1, 3, none⟩ = some (.int .i64 ve)))
    (first | exact HC.out _ (by assumption))
    (first
      | (go_at_call 86; (with_reducible refine (CD.out _ (Ext.trans HB.out (by assumption))).mono ?_); rintro r wa ⟨rfl, hE⟩; have st : Ext W wa := Ext.trans (by assumption) hE; clear hE)
      | (go_at_call 86; (with_reducible refine (CU.out _ (Ext.trans HB.out (by assumption))).mono ?_); rintro r wa ⟨rfl, hE⟩; have st : Ext W wa := Ext.trans (by assumption) hE; clear hE)
      | (go_at_call 34; (with_reducible refine (CS.out _).mono ?_); rintro r wa ⟨rfl, hE⟩; have st : Ext W wa := Ext.trans (by assumption) hE; clear hE))
  have HF := Lib.hid (Ext.trans HB.out st)
  go_wp2
  go_ret
  exact ⟨rfl, HF.out⟩
end Go.Proofs.YtekocoklfnojmaaGreatDoor

namespace Go.Proofs.YtekocoklfnojmaaGreatDoor
open Go.RowKit

theorem ext_drewB' (w : World) : Ext w w.drew := (Below.refl _ _).drew
end Go.Proofs.YtekocoklfnojmaaGreatDoor

namespace Go.Proofs.YtekocoklfnojmaaGreatDoor
open Go.RowKit

theorem lit_facts : finB 4607182418800017408 = true ∧ plainF 4607182418800017408 = 4607182418800017408 ∧ finB 4611686018427387904 = true ∧ plainF 4611686018427387904 = 4611686018427387904 ∧ validF 4607182418800017408 4607182418800017408 = true ∧ validF 4607182418800017408 4611686018427387904 = true ∧ validF 4611686018427387904 4607182418800017408 = false ∧ subF 4607182418800017408 4607182418800017408 4607182418800017408 4611686018427387904 = true ∧ plainF (faddF 4607182418800017408 4607182418800017408 1) = 4611686018427387904 ∧ plainF (faddF 4607182418800017408 4607182418800017408 2) = 4611686018427387904 := by decide +kernel
theorem lit_mul : MulF 4607182418800017408 4607182418800017408 4607182418800017408 4611686018427387904 4607182418800017408 4611686018427387904 [4607182418800017408, 4611686018427387904, 4607182418800017408, 4611686018427387904] [4607182418800017408, 4611686018427387904, 4607182418800017408, 4611686018427387904] :=
  ⟨by decide +kernel, by decide +kernel, by decide +kernel, by decide +kernel, by decide +kernel, by decide +kernel⟩

set_option maxRecDepth 100000 in
set_option maxHeartbeats 8000000 in
theorem iawake_any (w : World) : Calls Tryz.prog 28 #[] w fun e w' => e = .returned (.bool true) ∧ Ext w w' := by
  obtain ⟨f1, f2, f3, f4, f5, f6, f7, f8, f9, f10⟩ := lit_facts
  have P1 : ∀ w, Calls Tryz.prog 10 #[.int .u64 4607182418800017408] w fun e w' => e = .returned (.agg #[.int .u64 4607182418800017408, .int .u64 4607182418800017408]) ∧ Ext w w' := point_any 4607182418800017408 (by decide) _ (by rw [f1, f2]; rfl)
  have P2 : ∀ w, Calls Tryz.prog 10 #[.int .u64 4611686018427387904] w fun e w' => e = .returned (.agg #[.int .u64 4611686018427387904, .int .u64 4611686018427387904]) ∧ Ext w w' := point_any 4611686018427387904 (by decide) _ (by rw [f3, f4]; rfl)
  have CA : ∀ w, Calls Tryz.prog 14 #[.agg #[.int .u64 4607182418800017408, .int .u64 4607182418800017408], .agg #[.int .u64 4607182418800017408, .int .u64 4607182418800017408]] w fun e w' => e = .returned (.agg #[.int .u64 4611686018427387904, .int .u64 4611686018427387904]) ∧ Ext w w' := by
    intro w
    have := iadd_yes 4607182418800017408 4607182418800017408 4607182418800017408 4607182418800017408 (by decide) (by decide) (by decide) (by decide) f5 f5 w
    rw [f9, f10] at this
    exact this
  have CM : ∀ w, Calls Tryz.prog 18 #[.agg #[.int .u64 4607182418800017408, .int .u64 4607182418800017408], .agg #[.int .u64 4607182418800017408, .int .u64 4611686018427387904]] w fun e w' => e = .returned (.agg #[.int .u64 4607182418800017408, .int .u64 4611686018427387904]) ∧ Ext w w' := imul_yes 4607182418800017408 4607182418800017408 4607182418800017408 4611686018427387904 4607182418800017408 4611686018427387904 _ _ (by decide) (by decide) (by decide) (by decide) f5 f6 lit_mul
  have V1 : ∀ w, Calls Tryz.prog 8 #[.agg #[.int .u64 4607182418800017408, .int .u64 4611686018427387904]] w fun e w' => e = .returned (.bool true) ∧ Ext w w' := ivalid_at 4607182418800017408 4611686018427387904 (by decide) (by decide) rfl rfl true f6
  have V2 : ∀ w, Calls Tryz.prog 8 #[.agg #[.int .u64 4611686018427387904, .int .u64 4607182418800017408]] w fun e w' => e = .returned (.bool false) ∧ Ext w w' := ivalid_at 4611686018427387904 4607182418800017408 (by decide) (by decide) rfl rfl false f7
  have CS : ∀ w, Calls Tryz.prog 34 #[.agg #[.int .u64 4607182418800017408, .int .u64 4607182418800017408], .agg #[.int .u64 4607182418800017408, .int .u64 4611686018427387904]] w fun e w' => e = .returned (.bool true) ∧ Ext w w' := subset_yes 4607182418800017408 4607182418800017408 4607182418800017408 4611686018427387904 (by decide) (by decide) (by decide) (by decide) f8
  have P1 := Lib.hid P1; have P2 := Lib.hid P2; have CA := Lib.hid CA; have CM := Lib.hid CM; have V1 := Lib.hid V1; have V2 := Lib.hid V2; have CS := Lib.hid CS
  clear f1 f2 f3 f4 f5 f6 f7 f8 f9 f10
  go_enter Tryz.func28, Tryz.ntmps28
  go_wp2_with fail
  refine (P1.out _).mono ?_
  rintro r w1 ⟨rfl, hE1⟩
  go_upto_region 3 with fail
  obtain ⟨W, hW, hB, hx, hy, hsz⟩ := ibox_two w1 4607182418800017408 4607182418800017408 4607182418800017408 4611686018427387904
  rw [← hW]
  clear hW
  have HB := Lib.hid (Ext.trans hE1 hB)
  generalize w1.heap.size = B at hx hy ⊢
  clear hB hsz hE1
  have HC := Lib.hid (show ∀ wx, Ext W wx → (wx.cell? ⟨B, 0, none⟩ = some (.int .u64 4607182418800017408) ∧ wx.cell? ⟨B, 1, none⟩ = some (.int .u64 4607182418800017408)) ∧ (wx.cell? ⟨B + 1, 0, none⟩ = some (.int .u64 4607182418800017408) ∧ wx.cell? ⟨B + 1, 1, none⟩ = some (.int .u64 4611686018427387904)) from fun wx h => ⟨⟨(hx.below h).c0, (hx.below h).c1⟩, (hy.below h).c0, (hy.below h).c1⟩)
  obtain ⟨⟨c0, c1⟩, c2, c3⟩ := HC.out W (Ext.refl _)
  have st : Ext W W.drew := ext_drewB' _
  go_region_held3 (fun wx => (wx.cell? ⟨B, 0, none⟩ = some (.int .u64 4607182418800017408) ∧ wx.cell? ⟨B, 1, none⟩ = some (.int .u64 4607182418800017408)) ∧ (wx.cell? ⟨B + 1, 0, none⟩ = some (.int .u64 4607182418800017408) ∧ wx.cell? ⟨B + 1, 1, none⟩ = some (.int .u64 4611686018427387904)))
    (first | exact HC.out _ (by assumption))
    (first
      | (go_at_call 14; (with_reducible refine (CA.out _).mono ?_); rintro r wn ⟨rfl, hE⟩; have st : Ext W wn := Ext.trans (by assumption) hE; clear hE)
      | (go_at_call 10; (with_reducible refine (P2.out _).mono ?_); rintro r wn ⟨rfl, hE⟩; have st : Ext W wn := Ext.trans (by assumption) hE; clear hE)
      | (go_at_call 18; (with_reducible refine (CM.out _).mono ?_); rintro r wn ⟨rfl, hE⟩; have st : Ext W wn := Ext.trans (by assumption) hE; clear hE)
      | (go_at_call 8; (with_reducible refine (V1.out _).mono ?_); rintro r wn ⟨rfl, hE⟩; have st : Ext W wn := Ext.trans (by assumption) hE; clear hE)
      | (go_at_call 8; (with_reducible refine (V2.out _).mono ?_); rintro r wn ⟨rfl, hE⟩; have st : Ext W wn := Ext.trans (by assumption) hE; clear hE)
      | (go_at_call 34; (with_reducible refine (CS.out _).mono ?_); rintro r wn ⟨rfl, hE⟩; have st : Ext W wn := Ext.trans (by assumption) hE; clear hE))
  go_wp2
  go_ret
  exact ⟨rfl, Ext.trans HB.out (by assumption)⟩

end Go.Proofs.YtekocoklfnojmaaGreatDoor
