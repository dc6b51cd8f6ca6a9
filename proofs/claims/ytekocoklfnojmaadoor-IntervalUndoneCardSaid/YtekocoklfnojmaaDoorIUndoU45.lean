import Derived.Test.YtekocoklfnojmaaDoorIUndoU18
import Derived.Test.YtekocoklfnojmaaDoorIUndoU23
import Derived.Test.YtekocoklfnojmaaDoorIUndoU44
import Derived.Test.YtekocoklfnojmaaDoorIUndoU42
import Derived.Test.YtekocoklfnojmaaDoorIUndoU43
import Derived.Test.YtekocoklfnojmaaDoorIUndoU39
namespace Go.Proofs.YtekocoklfnojmaaDoor
open Go.RowKit
theorem box_id2 (w : World) (lo hi : Int) (bb nb : Bool) (ao : Option Addr) (n ca : Nat) (e : Int) :
    ∃ W, W = (w.alloc (.cells #[.int .u64 lo, .int .u64 hi] 25)).alloc (.cells #[.bool bb, .bool nb, .slice ao n ca, .int .i64 e] 36) ∧ Ext w W ∧ IBox W w.heap.size lo hi ∧ DBox W (w.heap.size + 1) bb nb ao n ca e := by
  refine ⟨_, rfl, ((Below.refl _ w).alloc (Nat.le_refl _) _).alloc (by simp) _, ?_, ?_⟩
  · exact (IBox.new w lo hi).below ((Below.refl _ _).alloc (Nat.le_refl _) _)
  · have := DBox.new (w.alloc (.cells #[.int .u64 lo, .int .u64 hi] 25)) bb nb ao n ca e
    simpa using this
end Go.Proofs.YtekocoklfnojmaaDoor

namespace Go.Proofs.YtekocoklfnojmaaDoor
open Go.RowKit

theorem cont_zeroD {c d : Nat} (h : Good c d) : contD c d (some (0, 0)) = containsF c d := by
  have e : ∀ mode, frdF (some (0, 0)) mode = 0 := fun mode => rfl
  unfold contD
  rw [e, e]
  unfold subF containsF
  rw [h.valid, show validF 0 0 = true from valid_point (by decide)]
  rfl
set_option maxRecDepth 100000 in
set_option maxHeartbeats 8000000 in
theorem icontains_any (lo hi : Nat) (hl : lo < 18446744073709551616) (hh : hi < 18446744073709551616) (v : Value) (d : Dy) (b : Bool) (hb : contD lo hi d = b) (w : World) (hv : Dg w v d) (hT : Table w) :
    Calls Tryd.prog 11 #[.agg #[.int .u64 (lo : Int), .int .u64 (hi : Int)], v] w fun e w' => e = .returned (.bool b) ∧ Ext w w' := by
  obtain ⟨vb, vn, vo, vk, vc, ve, rfl⟩ := hv.parts
  obtain ⟨r1, h1⟩ : ∃ r, frdF d 1 = r := ⟨_, rfl⟩
  obtain ⟨r2, h2⟩ : ∃ r, frdF d 2 = r := ⟨_, rfl⟩
  have l1 := frdF_lt d 1
  have l2 := frdF_lt d 2
  unfold contD at hb
  rw [h1] at l1 hb
  rw [h2] at l2 hb
  have CS := Lib.hid (isubset_any r1 r2 lo hi l1 l2 hl hh b hb)
  have CD := Lib.hid (fun wx (h : Ext w wx) => frd_at (mode := 1) (hv.ext h) (hT.below h) h1)
  have CU := Lib.hid (fun wx (h : Ext w wx) => frd_at (mode := 2) (hv.ext h) (hT.below h) h2)
  clear hb h1 h2 l1 l2 hl hh hv hT
  go_enter Tryd.func11, Tryd.ntmps11
  go_upto_region 1 with fail
  obtain ⟨W, hW, hB, hx, hy⟩ := box_id2 w lo hi vb vn vo vk vc ve
  rw [← hW]
  clear hW
  have HB := Lib.hid hB
  generalize w.heap.size = B at hx hy ⊢
  clear hB
  have HC := Lib.hid (show ∀ wx, Ext W wx → (wx.cell? ⟨B, 0, none⟩ = some (.int .u64 (lo : Int)) ∧ wx.cell? ⟨B, 1, none⟩ = some (.int .u64 (hi : Int))) ∧ (wx.cell? ⟨B + 1, 0, none⟩ = some (.bool vb) ∧ wx.cell? ⟨B + 1, 1, none⟩ = some (.bool vn) ∧ wx.cell? ⟨B + 1, 2, none⟩ = some (.slice vo vk vc) ∧ wx.cell? ⟨B + 1, 3, none⟩ = some (.int .i64 ve)) from fun wx h => ⟨⟨(hx.below h).c0, (hx.below h).c1⟩, (hy.below h).c0, (hy.below h).c1, (hy.below h).c2, (hy.below h).c3⟩)
  clear hx hy
  obtain ⟨⟨a0, a1⟩, a2, a3, a4, a5⟩ := HC.out W (Ext.refl _)
  have st : Ext W W.drew := (Below.refl _ _).drew
  go_region_held3 (fun wx => (wx.cell? ⟨B, 0, none⟩ = some (.int .u64 (lo : Int)) ∧ wx.cell? ⟨B, 1, none⟩ = some (.int .u64 (hi : Int))) ∧ (wx.cell? ⟨B + 1, 0, none⟩ = some (.bool vb) ∧ wx.cell? ⟨B + 1, 1, none⟩ = some (.bool vn) ∧ wx.cell? ⟨B + 1, 2, none⟩ = some (.slice vo vk vc) ∧ wx.cell? ⟨B + 1, 3, none⟩ = some (.int .i64 ve)))
    (first | exact HC.out _ (by assumption))
    (first
      | (go_at_call 28; (with_reducible refine (CD.out _ (Ext.trans HB.out (by assumption))).mono ?_); rintro r wa ⟨rfl, hE⟩; have st : Ext W wa := Ext.trans (by assumption) hE; clear hE)
      | (go_at_call 28; (with_reducible refine (CU.out _ (Ext.trans HB.out (by assumption))).mono ?_); rintro r wa ⟨rfl, hE⟩; have st : Ext W wa := Ext.trans (by assumption) hE; clear hE)
      | (go_at_call 6; (with_reducible refine (CS.out _).mono ?_); rintro r wa ⟨rfl, hE⟩; have st : Ext W wa := Ext.trans (by assumption) hE; clear hE))
  have HF := Lib.hid (Ext.trans HB.out st)
  go_wp2
  go_ret
  exact ⟨rfl, HF.out⟩
end Go.Proofs.YtekocoklfnojmaaDoor

namespace Go.Proofs.YtekocoklfnojmaaDoor
open Go.RowKit

set_option maxRecDepth 100000 in
set_option maxHeartbeats 2000000 in
theorem fsqrt_val {f : Nat} (hf : f < 18446744073709551616) (hfin : finB f = true) (hz : zeroB f = false) (hn : fneg f = false) (mode : Int) (w : World) :
    Calls Tryd.prog 37 #[.int .u64 (f : Int), .int .i64 mode] w fun x w' => x = .returned (.int .u64 ((rootV (fdy f) mode : Nat) : Int)) ∧ Ext w w' := by
  have CZ := Lib.hid (fun w => isZero_any f hf w)
  have CN := Lib.hid (fun w => isNaN_any f hf w)
  have CG := Lib.hid (fun w => isNegative_any f hf w)
  have CS := Lib.hid (fun w => fsplit_any f hf w)
  rw [hz] at CZ
  rw [(fin_not hfin).1] at CN
  rw [hn] at CG
  have hi : ((f : Int) == 9218868437227405312) = false := by
    rw [beq_eq_false_iff_ne]
    intro h
    have h2 : f = 9218868437227405312 := by omega
    rw [h2] at hfin
    revert hfin
    decide
  have hs0 : sig f ≠ 0 := fun h => by have h1 := (sig_zero f).1 h; unfold zeroB at hz; rw [h1] at hz; simp at hz
  have hsl := sig_lt f
  have hsh := fsh_lt f
  have CR := Lib.hid (fun w => frootF_any (N := sig f) (e := -1074 + (fsh f : Int)) hs0 hsl (by omega) (by omega) w)
  have CO := Lib.hid (fun (r : Nat) (E : Int) (t : Bool) (h0 : 4611686018427387904 ≤ r) (h1 : r < 9223372036854775808) (hE0 : -100000 ≤ E) (hE1 : E ≤ 100000) w => fround_lo (t := t) h0 h1 hE0 hE1 mode w)
  have SI := Lib.hid (fun (r s hi lo : Nat) (E : Int) (R : RootOf (sig f) (-1074 + (fsh f : Int)) (sig f * 2 ^ s) hi lo r E s) (_ : 64 ≤ s) (_ : s ≤ 127) => frounded_root (mode := mode) hfin hz hn R)
  clear hs0 hsl hn hz hfin hf
  generalize rootV (fdy f) mode = R0 at *
  go_enter Tryd.func37, Tryd.ntmps37
  go_wp2_with fail
  refine (CZ.out _).mono ?_
  rintro x w1 ⟨rfl, rfl⟩
  go_wp2_with fail
  refine (CN.out _).mono ?_
  rintro x w2 ⟨rfl, rfl⟩
  go_wp2_with fail
  refine (CG.out _).mono ?_
  rintro x w3 ⟨rfl, rfl⟩
  go_wp2_with fail
  refine (CS.out _).mono ?_
  rintro x w4 ⟨rfl, hE1⟩
  have E1 := Lib.hid hE1
  clear hE1
  go_wp2_with fail
  refine (CR.out _).mono ?_
  rintro x w5 ⟨r, E, s, hi, lo, rfl, RO, k0, k1, hE2⟩
  have SI1 := Lib.hid (SI.out r s hi lo E RO k0 k1)
  have hexp := RO.exp
  have q0 := RO.r2
  have q1 := RO.r3
  have E2 := Lib.hid (Ext.trans E1.out hE2)
  have CO1 := Lib.hid (CO.out r E (!decide (r * r = sig f * 2 ^ s)) q0 q1 (by omega) (by omega))
  clear hE2 RO hexp k0 k1 q0 q1
  obtain ⟨t, ht⟩ : ∃ t, (!decide (r * r = sig f * 2 ^ s)) = t := ⟨_, rfl⟩
  rw [ht] at CO1 SI1
  rw [SI1.out] at CO1
  go_wp2_with fail
  refine (CO1.out _).mono ?_
  rintro x w6 ⟨rfl, hE3⟩
  go_wp2
  go_ret
  exact ⟨rfl, Ext.trans E2.out hE3⟩

set_option maxRecDepth 100000 in
theorem fsqrt_zero {f : Nat} (hf : f < 18446744073709551616) (hz : zeroB f = true) (mode : Int) (w : World) :
    Calls Tryd.prog 37 #[.int .u64 (f : Int), .int .i64 mode] w fun x w' => x = .returned (.int .u64 ((f : Nat) : Int)) ∧ Ext w w' := by
  have CZ := Lib.hid (fun w => isZero_any f hf w)
  rw [hz] at CZ
  clear hz hf
  go_enter Tryd.func37, Tryd.ntmps37
  go_wp2_with (first | (go_at_call 60; (with_reducible refine (CZ.out _).mono ?_); rintro e w' ⟨rfl, rfl⟩))
  go_ret
  exact ⟨rfl, Below.refl _ _⟩

set_option maxRecDepth 100000 in
theorem fsqrt_inf {f : Nat} (hf : f < 18446744073709551616) (hz : zeroB f = false) (h : f = 9218868437227405312) (mode : Int) (w : World) :
    Calls Tryd.prog 37 #[.int .u64 (f : Int), .int .i64 mode] w fun x w' => x = .returned (.int .u64 ((f : Nat) : Int)) ∧ Ext w w' := by
  have CZ := Lib.hid (fun w => isZero_any f hf w)
  rw [hz] at CZ
  have hi : ((f : Int) == 9218868437227405312) = true := by rw [h]; rfl
  clear hz hf h
  go_enter Tryd.func37, Tryd.ntmps37
  go_wp2_with (first | (go_at_call 60; (with_reducible refine (CZ.out _).mono ?_); rintro e w' ⟨rfl, rfl⟩))
  go_ret
  exact ⟨rfl, Below.refl _ _⟩

set_option maxRecDepth 100000 in
theorem fsqrt_nan {f : Nat} (hf : f < 18446744073709551616) (hz : zeroB f = false) (h : f ≠ 9218868437227405312) (hn : nanB f = true) (mode : Int) (w : World) :
    Calls Tryd.prog 37 #[.int .u64 (f : Int), .int .i64 mode] w fun x w' => x = .returned (.int .u64 ((9221120237041090560 : Nat) : Int)) ∧ Ext w w' := by
  have CZ := Lib.hid (fun w => isZero_any f hf w)
  rw [hz] at CZ
  have CN := Lib.hid (fun w => isNaN_any f hf w)
  rw [hn] at CN
  have hi : ((f : Int) == 9218868437227405312) = false := by rw [beq_eq_false_iff_ne]; omega
  clear hz hn hf h
  go_enter Tryd.func37, Tryd.ntmps37
  go_wp2_with (first | (go_at_call 60; (with_reducible refine (CZ.out _).mono ?_); rintro e w' ⟨rfl, rfl⟩) | (go_at_call 33; (with_reducible refine (CN.out _).mono ?_); rintro e w' ⟨rfl, rfl⟩))
  go_ret
  exact ⟨rfl, Below.refl _ _⟩

set_option maxRecDepth 100000 in
theorem fsqrt_neg {f : Nat} (hf : f < 18446744073709551616) (hz : zeroB f = false) (h : f ≠ 9218868437227405312) (hn : nanB f = false) (hg : fneg f = true) (mode : Int) (w : World) :
    Calls Tryd.prog 37 #[.int .u64 (f : Int), .int .i64 mode] w fun x w' => x = .returned (.int .u64 ((9221120237041090560 : Nat) : Int)) ∧ Ext w w' := by
  have CZ := Lib.hid (fun w => isZero_any f hf w)
  rw [hz] at CZ
  have CN := Lib.hid (fun w => isNaN_any f hf w)
  rw [hn] at CN
  have CG := Lib.hid (fun w => isNegative_any f hf w)
  rw [hg] at CG
  have hi : ((f : Int) == 9218868437227405312) = false := by rw [beq_eq_false_iff_ne]; omega
  clear hz hn hg hf h
  go_enter Tryd.func37, Tryd.ntmps37
  go_wp2_with (first | (go_at_call 60; (with_reducible refine (CZ.out _).mono ?_); rintro e w' ⟨rfl, rfl⟩) | (go_at_call 33; (with_reducible refine (CN.out _).mono ?_); rintro e w' ⟨rfl, rfl⟩) | (go_at_call 64; (with_reducible refine (CG.out _).mono ?_); rintro e w' ⟨rfl, rfl⟩))
  go_ret
  exact ⟨rfl, Below.refl _ _⟩

theorem fsqrt_any (f : Nat) (mode : Int) (hf : f < 18446744073709551616) (w : World) :
    Calls Tryd.prog 37 #[.int .u64 (f : Int), .int .i64 mode] w fun x w' => x = .returned (.int .u64 ((fsqrtF f mode : Nat) : Int)) ∧ Ext w w' := by
  unfold fsqrtF
  cases hz : zeroB f with
  | true => simp only [Bool.true_or, if_true]; exact fsqrt_zero hf hz mode w
  | false =>
    by_cases h : f = 9218868437227405312
    · rw [decide_eq_true h]; simp only [Bool.or_true, if_true]; exact fsqrt_inf hf hz h mode w
    · rw [decide_eq_false h]
      cases hn : nanB f with
      | true => simp only [Bool.or_false, Bool.true_or, if_true, Bool.false_eq_true, if_false]; exact fsqrt_nan hf hz h hn mode w
      | false =>
        cases hg : fneg f with
        | true => simp only [Bool.or_false, Bool.or_true, if_true, Bool.false_eq_true, if_false]; exact fsqrt_neg hf hz h hn hg mode w
        | false =>
          simp only [Bool.or_false, Bool.false_eq_true, if_false]
          refine fsqrt_val hf ?_ hz hg mode w
          have e := f_parts hf
          rw [hg] at e
          have h1 : ¬ 9218868437227405312 < fmag f := of_decide_eq_false hn
          have e2 : sgz false = 0 := rfl
          exact decide_eq_true (by omega)
end Go.Proofs.YtekocoklfnojmaaDoor

namespace Go.Proofs.YtekocoklfnojmaaDoor
open Go.RowKit

theorem greatF_zero_lt {a : Nat} (ha : a < 18446744073709551616) : greatF [0, a] < 18446744073709551616 := greatF_lt (two_lt (by omega) ha)
set_option maxRecDepth 100000 in
set_option maxHeartbeats 8000000 in
theorem isqrt_yes (a b : Nat) (h1 : Good a b) (h0 : 0 ≤ frank b) (w : World) :
    Calls Tryd.prog 15 #[.agg #[.int .u64 (a : Int), .int .u64 (b : Int)]] w fun e w' => e = .returned (.agg #[.int .u64 ((rootLo a : Nat) : Int), .int .u64 ((rootHi b : Nat) : Int)]) ∧ Ext w w' := by
  have ha := h1.l1
  have hb := h1.l2
  have C1 := Lib.hid (ivalid_at a b ha hb rfl rfl true h1.valid)
  have C2 := Lib.hid (isLess_at b 0 hb (by decide) rfl rfl false (by rw [less_rank h1.n2 (by decide)]; exact decide_eq_false (by rw [show frank 0 = 0 by decide]; omega)))
  have HL := Lib.hid (two_lt (show 0 < 18446744073709551616 by omega) ha)
  have S1 := fsqrt_any (greatF [0, a]) 1 (greatF_zero_lt ha)
  have S2 := fsqrt_any b 2 hb
  have CB := between_any (fsqrtF (greatF [0, a]) 1) (fsqrtF b 2)
  unfold rootLo rootHi
  obtain ⟨x, hx⟩ : ∃ x : Int, ((plainF (fsqrtF (greatF [0, a]) 1) : Nat) : Int) = x := ⟨_, rfl⟩
  obtain ⟨y, hy⟩ : ∃ y : Int, ((plainF (fsqrtF b 2) : Nat) : Int) = y := ⟨_, rfl⟩
  rw [hx, hy] at CB ⊢
  generalize fsqrtF (greatF [0, a]) 1 = r1 at *
  generalize fsqrtF b 2 = r2 at *
  have S1 := Lib.hid S1
  have S2 := Lib.hid S2
  have CB := Lib.hid CB
  clear hx hy h1 h0 ha hb
  go_enter Tryd.func15, Tryd.ntmps15
  go_upto_region 1 with fail
  obtain ⟨W, hW, hB, hx, hbx, hsz⟩ := ibox_two w a b 0 0
  rw [← hW]
  clear hW
  generalize hBe : w.heap.size = B at *
  have HBe := Lib.hid hBe
  have HB : Hid (Below B w W) := Lib.hid (by rw [← hBe]; exact hB)
  clear hBe hB
  have hBs : B + 2 ≤ W.heap.size := hsz
  clear hsz
  have c0 := hx.c0
  have c1 := hx.c1
  go_wp2_with fail
  refine (C1.out _).mono ?_
  rintro r w1 ⟨rfl, hE⟩
  have hx := hx.below hE
  have hbx := hbx.below hE
  have HB := Lib.hid (HB.out.trans (Below.mono hE (by omega)))
  have hBs : B + 2 ≤ w1.heap.size := by have := Below.size hE; omega
  clear c0 c1 hE
  have c0 := hx.c0
  have c1 := hx.c1
  go_wp2_with fail
  refine (C2.out _).mono ?_
  rintro r V ⟨rfl, hE⟩
  have hx := hx.below hE
  have hbx := hbx.below hE
  have HB := Lib.hid (HB.out.trans (Below.mono hE (by omega)))
  have hBs : B + 2 ≤ V.heap.size := by have := Below.size hE; omega
  clear c0 c1 hE
  have c0 := hx.c0
  have c1 := hx.c1
  go_wp2_with fail
  refine (greatest_any _ [0, a] 2 rfl (by omega) HL.out _ (by first | exact fbAd _ _ _ | exact fbA _ _ _)).mono ?_
  rintro r V2 ⟨rfl, hE⟩
  have hE := Ext.trans (eA (Ext.refl V) _) hE
  have hx := hx.below hE
  have hbx := hbx.below hE
  have HB := Lib.hid (HB.out.trans (Below.mono hE (by omega)))
  have hBs : B + 2 ≤ V2.heap.size := by have := Below.size hE; omega
  clear c0 c1 hE
  generalize greatF [0, a] = g at *
  have HC := Lib.hid (show ∀ wx, Ext V2 wx → (wx.cell? ⟨B, 0, none⟩ = some (.int .u64 (a : Int)) ∧ wx.cell? ⟨B, 1, none⟩ = some (.int .u64 (b : Int))) ∧ IBox wx (B + 1) 0 0 from fun wx h => ⟨⟨(hx.below h).c0, (hx.below h).c1⟩, hbx.below h⟩)
  obtain ⟨c0, c1⟩ := (HC.out V2 (Ext.refl _)).1
  have c4 := hbx.c0
  have c5 := hbx.c1
  have c6 := hbx.f 0
  have c7 := hbx.f 1
  go_upto_region 4 with fail
  have st : Ext V2 V2.drew := (Below.refl _ _).drew
  go_region_held3 (fun wx => wx.cell? ⟨B, 0, none⟩ = some (.int .u64 (a : Int)) ∧ wx.cell? ⟨B, 1, none⟩ = some (.int .u64 (b : Int)))
    (first | exact (HC.out _ (by assumption)).1 | (refine ⟨?_, ?_⟩ <;> go_simp))
    (first
      | (go_at_call 37; (with_reducible refine (S1.out _).mono ?_); rintro r wa ⟨rfl, hEa⟩; have sta : Ext V2 wa := Ext.trans (by assumption) hEa)
      | (go_at_call 37; (with_reducible refine (S2.out _).mono ?_); rintro r wb ⟨rfl, hEb⟩; have stb : Ext V2 wb := Ext.trans (by assumption) hEb)
      | (go_at_call 22; refine (CB.out _).mono ?_; rintro r wd ⟨rfl, hEd⟩; have std : Ext V2 wd := Ext.trans (by assumption) hEd; have bz := (HC.out wd std).2; have z0 := bz.c0; have z1 := bz.c1; have z2 := bz.f 0; have z3 := bz.f 1; obtain ⟨e0, e1⟩ := (HC.out wd std).1))
  all_goals
    have hst := bz.stored x y
    have y0 := hst.c0
    have y1 := hst.c1
    have HF := Lib.hid ((HB.out.trans (Below.mono std (by omega))).trans ((only_iset2 wd (B + 1) (.int .u64 x) (.int .u64 y)).below (by omega)))
    clear hst z0 z1 z2 z3
    go_wp2
    refine bodyPost_ret (v := .agg #[.int .u64 x, .int .u64 y]) (by simp [results, Tryd.results15, go_sem, y0, y1]) rfl ⟨rfl, ?_⟩
    show Below _ _ _
    rw [HBe.out]
    exact HF.out
end Go.Proofs.YtekocoklfnojmaaDoor
