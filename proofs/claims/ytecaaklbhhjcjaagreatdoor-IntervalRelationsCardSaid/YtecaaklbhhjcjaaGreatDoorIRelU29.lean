import Derived.Test.YtecaaklbhhjcjaaGreatDoorIRelU28
import Derived.Test.YtecaaklbhhjcjaaGreatDoorIRelU27
namespace Go.Proofs.YtecaaklbhhjcjaaGreatDoor
open Go.RowKit

theorem kind_at2 (f : Nat) (hf : f < 18446744073709551616) (k : Int) (hk : fkind f = k) (w : World) :
    Calls Tryz.prog 210 #[.int .u64 (f : Int)] w fun e w' => e = .returned (.int .i64 k) ∧ w = w' := by
  rw [← hk]; exact kind_any f hf w
theorem kind_num2 {f : Nat} (h : nanB f = false) : fkind f ≠ 3 := by
  have h1 := fkind_cases f
  have h2 : ¬ 9218868437227405312 < fmag f := of_decide_eq_false h
  omega
theorem ext_allocI (w : World) (o : Obj) : Below w.heap.size w (w.alloc o) := (Below.refl _ w).alloc (Nat.le_refl _) o
theorem fb_new (w : World) (r1 r2 r3 r4 : Nat) : FB (w.alloc (.cells #[.int .u64 (r1 : Int), .int .u64 (r2 : Int), .int .u64 (r3 : Int), .int .u64 (r4 : Int)] 38)) w.heap.size [r1, r2, r3, r4] := heap_alloc_new w _

set_option maxRecDepth 100000 in
set_option maxHeartbeats 8000000 in
theorem corners_any (a b c d : Nat) (mode : Int) (r1 r2 r3 r4 : Nat) (ha : a < 18446744073709551616) (hb : b < 18446744073709551616) (hc : c < 18446744073709551616) (hd : d < 18446744073709551616) (h1 : fmulF a c mode = r1) (h2 : fmulF a d mode = r2) (h3 : fmulF b c mode = r3) (h4 : fmulF b d mode = r4)
    (hl : ∀ x ∈ [r1, r2, r3, r4], x < 18446744073709551616) (hnan : ∀ x ∈ [r1, r2, r3, r4], nanB x = false) (w : World) :
    Calls Tryz.prog 154 #[.func (.func 87) #[] #[], .agg #[.int .u64 (a : Int), .int .u64 (b : Int)], .agg #[.int .u64 (c : Int), .int .u64 (d : Int)], .int .i64 mode] w fun e w' => ∃ g, e = .returned (.slice (some ⟨g, 0, none⟩) 4 4) ∧ FB w' g [r1, r2, r3, r4] ∧ Ext w w' := by
  have C1 := Lib.hid (fmul_any a c mode ha hc)
  have C2 := Lib.hid (fmul_any a d mode ha hd)
  have C3 := Lib.hid (fmul_any b c mode hb hc)
  have C4 := Lib.hid (fmul_any b d mode hb hd)
  rw [h1] at C1
  rw [h2] at C2
  rw [h3] at C3
  rw [h4] at C4
  have HL := Lib.hid hl
  have HNAN := Lib.hid hnan
  clear h1 h2 h3 h4 ha hb hc hd hl hnan
  go_enter Tryz.func154, Tryz.ntmps154
  go_wp2_with fail
  obtain ⟨W, hW, hB, hx, hy, hsz⟩ := ibox_two w a b c d
  rw [← hW]
  clear hW
  have HB := Lib.hid hB
  generalize w.heap.size = B at hx hy hsz ⊢
  clear hB
  have c0 := hx.c0
  have c1 := hx.c1
  have c2 := hy.c0
  have c3 := hy.c1
  go_region_held3 (fun wx => wx.cell? ⟨B, 0, none⟩ = some (.int .u64 (a : Int)) ∧ wx.cell? ⟨B, 1, none⟩ = some (.int .u64 (b : Int)) ∧ wx.cell? ⟨B + 1, 0, none⟩ = some (.int .u64 (c : Int)) ∧ wx.cell? ⟨B + 1, 1, none⟩ = some (.int .u64 (d : Int)))
    (first | exact ⟨c0, c1, c2, c3⟩ | exact ⟨x1.c0, x1.c1, y1.c0, y1.c1⟩ | exact ⟨x2.c0, x2.c1, y2.c0, y2.c1⟩ | exact ⟨x3.c0, x3.c1, y3.c0, y3.c1⟩ | exact ⟨x4.c0, x4.c1, y4.c0, y4.c1⟩ | exact ⟨(x4.below (ext_allocI w4 _)).c0, (x4.below (ext_allocI w4 _)).c1, (y4.below (ext_allocI w4 _)).c0, (y4.below (ext_allocI w4 _)).c1⟩)
    (first
      | (go_at_call 87; (with_reducible refine (C1.out _).mono ?_); rintro r w1 ⟨rfl, hE1⟩; have x1 := hx.drew.below hE1; have y1 := hy.drew.below hE1; have e0 := x1.c0; have e1 := x1.c1; have e2 := y1.c0; have e3 := y1.c1)
      | (go_at_call 87; (with_reducible refine (C2.out _).mono ?_); rintro r w2 ⟨rfl, hE2⟩; have x2 := x1.below hE2; have y2 := y1.below hE2; clear e0 e1 e2 e3; have e0 := x2.c0; have e1 := x2.c1; have e2 := y2.c0; have e3 := y2.c1)
      | (go_at_call 87; (with_reducible refine (C3.out _).mono ?_); rintro r w3 ⟨rfl, hE3⟩; have x3 := x2.below hE3; have y3 := y2.below hE3; clear e0 e1 e2 e3; have e0 := x3.c0; have e1 := x3.c1; have e2 := y3.c0; have e3 := y3.c1)
      | (go_at_call 87; (with_reducible refine (C4.out _).mono ?_); rintro r w4 ⟨rfl, hE4⟩; have x4 := x3.below hE4; have y4 := y3.below hE4; clear e0 e1 e2 e3; have e0 := x4.c0; have e1 := x4.c1; have e2 := y4.c0; have e3 := y4.c1))
  have HE4 := Lib.hid (Ext.trans HB.out (Ext.trans (Ext.trans (Ext.trans (Ext.trans (Below.refl W.heap.size W).drew hE1) hE2) hE3) hE4))
  have hfb := fb_new w4 r1 r2 r3 r4
  have hE5 := Lib.hid (Ext.trans HE4.out ((Below.refl _ w4).alloc (Nat.le_refl _) (.cells #[.int .u64 (r1 : Int), .int .u64 (r2 : Int), .int .u64 (r3 : Int), .int .u64 (r4 : Int)] 38)))
  clear hE1 hE2 hE3 hE4 x1 x2 x3 x4 y1 y2 y3 y4 hx hy
  go_upto_region 2 with fail
  generalize w4.alloc (.cells #[.int .u64 (r1 : Int), .int .u64 (r2 : Int), .int .u64 (r3 : Int), .int .u64 (r4 : Int)] 38) = V at *
  generalize w4.heap.size = g at *
  go_wp2
  go_loopw [10, 11, 43] (fun _ _ k wr => ∃ j : Nat, j ≤ 4 ∧ k = .int .i64 (j : Int) ∧ wr = V) (fun _ _ k _ => 4 - (intOf k).toNat)
  case atStart => exact ⟨0, Nat.zero_le _, rfl, rfl⟩
  case round =>
    obtain ⟨j, hj, rfl, rfl⟩ := hrel
    by_cases hlt : j < 4
    · have hcell := hfb.cell j hlt
      have hxl := getD_lt HL.out j
      have hxn : nanB ([r1, r2, r3, r4].getD j 0) = false := by
        refine HNAN.out _ ?_
        rcases (show j = 0 ∨ j = 1 ∨ j = 2 ∨ j = 3 by omega) with h | h | h | h <;> subst h <;> simp
      obtain ⟨x, hxe⟩ : ∃ x, [r1, r2, r3, r4].getD j 0 = x := ⟨_, rfl⟩
      rw [hxe] at hcell hxl hxn
      obtain ⟨k, hk⟩ : ∃ k, fkind x = k := ⟨_, rfl⟩
      have hk3 : (k == 3) = false := by rw [beq_eq_false_iff_ne, ← hk]; exact kind_num2 hxn
      have CK := Lib.hid (kind_at2 x hxl k hk)
      clear hxe hxl hxn hk
      go_wp2_with fail
      refine (CK.out _).mono ?_
      rintro r w9 ⟨rfl, rfl⟩
      go_wp2
      go_roundw
      case rel => exact ⟨j + 1, by omega, by go_num, by first | rfl | trivial⟩
      case measure => simp [intOf] <;> omega
    · obtain rfl : j = 4 := by omega
      go_wp2
      go_ret
      exact ⟨g, rfl, hfb, hE5.out⟩

/-- the product of two intervals whose corners are no NaNs -/
structure MulF (a b c d : Nat) (x y : Int) (l1 l2 : List Nat) : Prop where
  e1 : l1 = [fmulF a c 1, fmulF a d 1, fmulF b c 1, fmulF b d 1]
  e2 : l2 = [fmulF a c 2, fmulF a d 2, fmulF b c 2, fmulF b d 2]
  n1 : ∀ x ∈ l1, x < 18446744073709551616 ∧ nanB x = false
  n2 : ∀ x ∈ l2, x < 18446744073709551616 ∧ nanB x = false
  hx : ((plainF (leastF l1) : Nat) : Int) = x
  hy : ((plainF (greatF l2) : Nat) : Int) = y

theorem corners_at (a b c d : Nat) (mode : Int) (l : List Nat) (ha : a < 18446744073709551616) (hb : b < 18446744073709551616) (hc : c < 18446744073709551616) (hd : d < 18446744073709551616) (h : l = [fmulF a c mode, fmulF a d mode, fmulF b c mode, fmulF b d mode]) (hl : ∀ x ∈ l, x < 18446744073709551616 ∧ nanB x = false) (w : World) :
    Calls Tryz.prog 154 #[.func (.func 87) #[] #[], .agg #[.int .u64 (a : Int), .int .u64 (b : Int)], .agg #[.int .u64 (c : Int), .int .u64 (d : Int)], .int .i64 mode] w fun e w' => ∃ g, e = .returned (.slice (some ⟨g, 0, none⟩) 4 4) ∧ FB w' g l ∧ Ext w w' := by
  subst h
  exact corners_any a b c d mode _ _ _ _ ha hb hc hd rfl rfl rfl rfl (fun x hx => (hl x hx).1) (fun x hx => (hl x hx).2) w

set_option maxRecDepth 100000 in
set_option maxHeartbeats 8000000 in
theorem span_any (a b c d : Nat) (x y : Int) (l1 l2 : List Nat) (ha : a < 18446744073709551616) (hb : b < 18446744073709551616) (hc : c < 18446744073709551616) (hd : d < 18446744073709551616) (hf : MulF a b c d x y l1 l2) (w : World) :
    Calls Tryz.prog 86 #[.func (.func 87) #[] #[], .agg #[.int .u64 (a : Int), .int .u64 (b : Int)], .agg #[.int .u64 (c : Int), .int .u64 (d : Int)]] w fun e w' => e = .returned (.agg #[.int .u64 x, .int .u64 y]) ∧ Ext w w' := by
  have K1 := Lib.hid (corners_at a b c d 1 l1 ha hb hc hd hf.e1 hf.n1)
  have K2 := Lib.hid (corners_at a b c d 2 l2 ha hb hc hd hf.e2 hf.n2)
  have L1 := Lib.hid (fun g w h => least_any g l1 4 (by rw [hf.e1]; rfl) (by omega) (fun x hx => (hf.n1 x hx).1) w h)
  have L2 := Lib.hid (fun g w h => greatest_any g l2 4 (by rw [hf.e2]; rfl) (by omega) (fun x hx => (hf.n2 x hx).1) w h)
  have KB := Lib.hid (between_any (leastF l1) (greatF l2))
  rw [hf.hx, hf.hy] at KB
  generalize leastF l1 = m1 at *
  generalize greatF l2 = m2 at *
  clear hf ha hb hc hd
  go_enter Tryz.func86, Tryz.ntmps86
  go_wp2_with fail
  obtain ⟨W, hW, hB, hx, hy, hbx, hsz⟩ := ibox_three w a b c d 0 0
  rw [← hW]
  clear hW
  generalize hBe : w.heap.size = B at *
  have HBe := Lib.hid hBe
  have HB : Hid (Below B w W) := Lib.hid (by rw [← hBe]; exact hB)
  clear hBe hB
  have c0 := hx.c0
  have c1 := hx.c1
  have c2 := hy.c0
  have c3 := hy.c1
  have TAG := Lib.hid trivial
  go_region_held3 (fun wx => wx.cell? ⟨B, 0, none⟩ = some (.int .u64 (a : Int)) ∧ wx.cell? ⟨B, 1, none⟩ = some (.int .u64 (b : Int)) ∧ wx.cell? ⟨B + 1, 0, none⟩ = some (.int .u64 (c : Int)) ∧ wx.cell? ⟨B + 1, 1, none⟩ = some (.int .u64 (d : Int)))
    (first | exact ⟨c0, c1, c2, c3⟩ | exact ⟨x1.c0, x1.c1, y1.c0, y1.c1⟩ | exact ⟨x2.c0, x2.c1, y2.c0, y2.c1⟩ | exact ⟨x3.c0, x3.c1, y3.c0, y3.c1⟩ | exact ⟨x4.c0, x4.c1, y4.c0, y4.c1⟩ | exact ⟨x5.c0, x5.c1, y5.c0, y5.c1⟩ | (refine ⟨?_, ?_, ?_, ?_⟩ <;> go_simp))
    (first
      | (go_at_call 154; (with_reducible refine (K1.out _).mono ?_); rintro r w1 ⟨g1, rfl, hf1, hE1⟩; have x1 := hx.drew.below hE1; have y1 := hy.drew.below hE1; have b1 := hbx.drew.below hE1; have e0 := x1.c0; have e1 := x1.c1; have e2 := y1.c0; have e3 := y1.c1)
      | (go_at_call 98; refine (L1.out g1 _ (by exact hf1)).mono ?_; rintro r w2 ⟨rfl, hE2⟩; have x2 := x1.below hE2; have y2 := y1.below hE2; have b2 := b1.below hE2; clear e0 e1 e2 e3; have e0 := x2.c0; have e1 := x2.c1; have e2 := y2.c0; have e3 := y2.c1)
      | (go_at_call 154; (with_reducible refine (K2.out _).mono ?_); rintro r w3 ⟨g2, rfl, hf2, hE3⟩; have x3 := x2.below hE3; have y3 := y2.below hE3; have b3 := b2.below hE3; clear e0 e1 e2 e3; have e0 := x3.c0; have e1 := x3.c1; have e2 := y3.c0; have e3 := y3.c1)
      | (go_at_call 95; refine (L2.out g2 _ (by exact hf2)).mono ?_; rintro r w4 ⟨rfl, hE4⟩; have x4 := x3.below hE4; have y4 := y3.below hE4; have b4 := b3.below hE4; clear e0 e1 e2 e3; have e0 := x4.c0; have e1 := x4.c1; have e2 := y4.c0; have e3 := y4.c1)
      | (go_at_call 76; refine (KB.out _).mono ?_; rintro r w5 ⟨rfl, hE5⟩; have x5 := x4.below hE5; have y5 := y4.below hE5; have b5 := b4.below hE5; clear e0 e1 e2 e3; have e0 := x5.c0; have e1 := x5.c1; have e2 := y5.c0; have e3 := y5.c1; have q0 := b5.c0; have q1 := b5.c1; have q2 := b5.f 0; have q3 := b5.f 1))
  have hB2 := ((HB.out.trans (Below.mono (Below.refl _ W).drew (Nat.le_of_lt hx.lt))).trans (Below.mono hE1 (Nat.le_of_lt hx.drew.lt))).trans (Below.mono hE2 (Nat.le_of_lt x1.lt))
  have hB2 := ((hB2.trans (Below.mono hE3 (Nat.le_of_lt x2.lt))).trans (Below.mono hE4 (Nat.le_of_lt x3.lt))).trans (Below.mono hE5 (Nat.le_of_lt x4.lt))
  have bx := b5
  have hst := bx.stored x y
  have z0 := hst.c0
  have z1 := hst.c1
  have HB := Lib.hid (hB2.trans ((only_iset2 w5 (B + 1 + 1) (.int .u64 x) (.int .u64 y)).below (by omega)))
  clear hst hB2
  go_wp2
  refine bodyPost_ret (v := .agg #[.int .u64 x, .int .u64 y]) (by simp [results, Tryz.results86, go_sem, z0, z1]) rfl ⟨rfl, ?_⟩
  show Below _ _ _
  rw [HBe.out]
  exact HB.out

set_option maxRecDepth 100000 in
set_option maxHeartbeats 8000000 in
theorem imul_yes (a b c d : Nat) (x y : Int) (l1 l2 : List Nat) (ha : a < 18446744073709551616) (hb : b < 18446744073709551616) (hc : c < 18446744073709551616) (hd : d < 18446744073709551616) (h1 : validF a b = true) (h2 : validF c d = true) (hf : MulF a b c d x y l1 l2) (w : World) :
    Calls Tryz.prog 25 #[.agg #[.int .u64 (a : Int), .int .u64 (b : Int)], .agg #[.int .u64 (c : Int), .int .u64 (d : Int)]] w fun e w' => e = .returned (.agg #[.int .u64 x, .int .u64 y]) ∧ Ext w w' := by
  have C1 := Lib.hid (ivalid_at a b ha hb rfl rfl true h1)
  have C2 := Lib.hid (ivalid_at c d hc hd rfl rfl true h2)
  have C3 := Lib.hid (span_any a b c d x y l1 l2 ha hb hc hd hf)
  clear h1 h2 ha hb hc hd hf
  go_enter Tryz.func25, Tryz.ntmps25
  go_wp2_with fail
  obtain ⟨W, hW, hB, hx, hy, hbx, hsz⟩ := ibox_three w a b c d 0 0
  rw [← hW]
  clear hW
  generalize hBe : w.heap.size = B at *
  have HBe := Lib.hid hBe
  have HB : Hid (Below B w W) := Lib.hid (by rw [← hBe]; exact hB)
  clear hBe hB hsz
  have c0 := hx.c0
  have c1 := hx.c1
  have c2 := hy.c0
  have c3 := hy.c1
  go_wp2_with fail
  refine (C1.out _).mono ?_
  rintro r w1 ⟨rfl, hE⟩
  have HB := Lib.hid (HB.out.trans (Below.mono hE (Nat.le_of_lt hx.lt)))
  have hx := hx.below hE
  have hy := hy.below hE
  have hbx := hbx.below hE
  clear c0 c1 c2 c3 hE
  have c0 := hx.c0
  have c1 := hx.c1
  have c2 := hy.c0
  have c3 := hy.c1
  go_wp2_with fail
  refine (C2.out _).mono ?_
  rintro r w2 ⟨rfl, hE⟩
  have HB := Lib.hid (HB.out.trans (Below.mono hE (Nat.le_of_lt hx.lt)))
  have hx := hx.below hE
  have hy := hy.below hE
  have hbx := hbx.below hE
  clear c0 c1 c2 c3 hE
  have c0 := hx.c0
  have c1 := hx.c1
  have c2 := hy.c0
  have c3 := hy.c1
  go_wp2_with fail
  refine (C3.out _).mono ?_
  rintro r w3 ⟨rfl, hE⟩
  have HB := Lib.hid (HB.out.trans (Below.mono hE (Nat.le_of_lt hx.lt)))
  have hx := hx.below hE
  have hy := hy.below hE
  have hbx := hbx.below hE
  clear c0 c1 c2 c3 hE
  have c0 := hx.c0
  have c1 := hx.c1
  have c2 := hy.c0
  have c3 := hy.c1
  have q0 := hbx.c0
  have q1 := hbx.c1
  have q2 := hbx.f 0
  have q3 := hbx.f 1
  have hst := hbx.stored x y
  have z0 := hst.c0
  have z1 := hst.c1
  have HB := Lib.hid (HB.out.trans ((only_iset2 w3 (B + 1 + 1) (.int .u64 x) (.int .u64 y)).below (by omega)))
  clear hst
  go_wp2
  refine bodyPost_ret (v := .agg #[.int .u64 x, .int .u64 y]) (by simp [results, Tryz.results25, go_sem, z0, z1]) rfl ⟨rfl, ?_⟩
  show Below _ _ _
  rw [HBe.out]
  exact HB.out
end Go.Proofs.YtecaaklbhhjcjaaGreatDoor

namespace Go.Proofs.YtecaaklbhhjcjaaGreatDoor
open Go.RowKit


/-- is zero an element of an interval? -/
def containsF (c d : Nat) : Bool := !lessF 0 c && !lessF d 0

set_option maxRecDepth 100000 in
set_option maxHeartbeats 2000000 in
theorem contains_any (c d : Nat) (hc : c < 18446744073709551616) (hd : d < 18446744073709551616) (w : World) :
    Calls Tryz.prog 90 #[.agg #[.int .u64 (c : Int), .int .u64 (d : Int)]] w fun e w' => e = .returned (.bool (containsF c d)) ∧ Ext w w' := by
  unfold containsF
  obtain ⟨p, hp⟩ : ∃ p, lessF 0 c = p := ⟨_, rfl⟩
  obtain ⟨q, hq⟩ : ∃ q, lessF d 0 = q := ⟨_, rfl⟩
  have C1 := Lib.hid (isLess_at 0 c (by decide) hc rfl rfl p hp)
  have C2 := Lib.hid (isLess_at d 0 hd (by decide) rfl rfl q hq)
  rw [hp, hq]
  clear hp hq hc hd
  go_enter Tryz.func90, Tryz.ntmps90
  go_wp2_with fail
  obtain ⟨W, hW, hB, hx, hsz⟩ := ibox_new w c d
  rw [← hW]
  clear hW
  have c0 := hx.c0
  have c1 := hx.c1
  have HB := Lib.hid hB
  generalize w.heap.size = B at hx c0 c1 ⊢
  clear hB hsz
  go_wp2_with fail
  refine (C1.out _).mono ?_
  rintro r w1 ⟨rfl, hE⟩
  have hx := hx.below hE
  have HB := Lib.hid (HB.out.trans hE)
  clear c0 c1 hE
  have c0 := hx.c0
  have c1 := hx.c1
  cases p with
  | true =>
    go_wp2
    go_ret
    exact ⟨rfl, HB.out⟩
  | false =>
    go_wp2_with fail
    refine (C2.out _).mono ?_
    rintro r w2 ⟨rfl, hE⟩
    have HB := Lib.hid (HB.out.trans hE)
    clear c0 c1 hE
    go_wp2
    go_ret
    exact ⟨rfl, HB.out⟩

end Go.Proofs.YtecaaklbhhjcjaaGreatDoor

namespace Go.Proofs.YtecaaklbhhjcjaaGreatDoor
open Go.RowKit

/-- is the number an element? -/
def contB (lo hi : Nat) (d : Dy) : Bool := validF lo hi && d.isSome && !lessN 0 d (numI lo) (numD lo) && !lessN (numI hi) (numD hi) 0 d

theorem fin_of {c : Nat} (hc : c < 18446744073709551616) (h1 : nanB c = false) (h2 : c ≠ 9218868437227405312) (h3 : c ≠ 18442240474082181120) : finB c = true := by
  have h := of_decide_eq_false h1
  unfold finB
  apply decide_eq_true
  unfold fmag at h ⊢
  omega
theorem sc_less {a b : Nat} (ha : finB a = true) (hb : finB b = true) : decide (sc (fdy a) < sc (fdy b)) = decide (frank a < frank b) := by
  have h := fdy_rank ha hb
  generalize sc (fdy a) = X at *
  generalize sc (fdy b) = Y at *
  generalize frank a = x at *
  generalize frank b = y at *
  apply decide_eq_decide.2
  unfold sgn3 at h
  split at h <;> split at h <;> first | (constructor <;> intro <;> assumption) | (split at h <;> first | omega | (split at h <;> omega)) | omega
theorem box_id (w : World) (lo hi : Int) (bb nb : Bool) (ao : Option Addr) (n ca : Nat) (e : Int) :
    ∃ W, W = (w.alloc (.cells #[.int .u64 lo, .int .u64 hi] 40)).alloc (.cells #[.bool bb, .bool nb, .slice ao n ca, .int .i64 e] 47) ∧ Ext w W ∧ IBox W w.heap.size lo hi ∧ DBox W (w.heap.size + 1) bb nb ao n ca e := by
  refine ⟨_, rfl, ((Below.refl _ w).alloc (Nat.le_refl _) _).alloc (by simp) _, ?_, ?_⟩
  · exact (IBox.new w lo hi).below ((Below.refl _ _).alloc (Nat.le_refl _) _)
  · have := DBox.new (w.alloc (.cells #[.int .u64 lo, .int .u64 hi] 40)) bb nb ao n ca e
    simpa using this

set_option maxRecDepth 100000 in
set_option maxHeartbeats 16000000 in
theorem refContains_any (lo hi : Nat) (hl : lo < 18446744073709551616) (hh : hi < 18446744073709551616) (v : Value) (d : Dy) (b : Bool) (hb : contB lo hi d = b) (w : World) (hv : Dl w v d) (hT : Table w) :
    Calls Tryz.prog 40 #[.agg #[.int .u64 (lo : Int), .int .u64 (hi : Int)], v] w fun e w' => e = .returned (.bool b) ∧ Ext w w' := by
  obtain ⟨ub, un, uo, uk, uc, ux, uf, rfl, hrest⟩ := hv
  have hv : Dl w (.agg #[.bool ub, .bool un, .slice uo uk uc, .int .i64 uf]) d := ⟨ub, un, uo, uk, uc, ux, uf, rfl, hrest⟩
  clear hrest
  obtain ⟨p, hp⟩ : ∃ p, validF lo hi = p := ⟨_, rfl⟩
  obtain ⟨l1, hl1⟩ : ∃ l, lessN 0 d (numI lo) (numD lo) = l := ⟨_, rfl⟩
  obtain ⟨l2, hl2⟩ : ∃ l, lessN (numI hi) (numD hi) 0 d = l := ⟨_, rfl⟩
  unfold contB at hb
  rw [hp, hl1, hl2] at hb
  have CV := Lib.hid (refValid_any lo hi hl hh p hp)
  have CL := Lib.hid (fun w hT => refNumOf_any lo hl _ _ rfl rfl w hT)
  have CH := Lib.hid (fun w hT => refNumOf_any hi hh _ _ rfl rfl w hT)
  have HL1 := Lib.hid hl1
  have HL2 := Lib.hid hl2
  have HT := Lib.hid hT
  clear hp hl1 hl2 hT hl hh
  generalize numI lo = i1 at *
  generalize numD lo = d1 at *
  generalize numI hi = i2 at *
  generalize numD hi = d2 at *
  go_enter Tryz.func40, Tryz.ntmps40
  go_upto_region 1 with fail
  obtain ⟨W, hW, hB, hx, hy⟩ := box_id w lo hi ub un uo uk uc uf
  rw [← hW]
  clear hW
  have HB := Lib.hid hB
  have HT := Lib.hid (HT.out.below hB)
  have hv := hv.ext hB
  generalize w.heap.size = B at hx hy ⊢
  clear hB
  have y0 := hy.c0
  have y1 := hy.c1
  have y2 := hy.c2
  have y3 := hy.c3
  go_wp2_with fail
  refine (refDNorm_any _ d _ hv HT.out).mono ?_
  rintro e w1 ⟨r, rfl, hr, hw1⟩
  have hx := hx.below hw1
  have HB := Lib.hid (HB.out.trans hw1)
  have HT := Lib.hid (HT.out.below hw1)
  obtain ⟨rb, rn, ro, rk, rc, re, rfl⟩ := hr.parts
  clear hy y0 y1 y2 y3 hw1 hv
  go_upto_region 2 with fail
  obtain ⟨V, hV, hE, hn, hsz⟩ := nbx_new w1 0 rb rn ro rk rc re
  rw [← hV]
  clear hV
  have hx := hx.below hE
  have HB := Lib.hid (HB.out.trans hE)
  have HTV := Lib.hid (show ∀ wx, Ext V wx → Table wx from fun wx h => (HT.out.below hE).below h)
  have hr := hr.ext hE
  have HN := Lib.hid (show ∀ wx, Ext V wx → NumV wx (.agg #[.int .i64 0, .bool rb, .bool rn, .slice ro rk rc, .int .i64 re]) 0 d from fun wx h => ⟨_, _, _, _, _, _, rfl, hr.ext h⟩)
  generalize w1.heap.size = D at hn ⊢
  clear hE hsz HT
  have HC := Lib.hid (show ∀ wx, Ext V wx → (wx.cell? ⟨B, 0, none⟩ = some (.int .u64 (lo : Int)) ∧ wx.cell? ⟨B, 1, none⟩ = some (.int .u64 (hi : Int))) ∧ (wx.cell? ⟨D, 0, none⟩ = some (.int .i64 0) ∧ wx.cell? ⟨D, 1, none⟩ = some (.bool rb) ∧ wx.cell? ⟨D, 2, none⟩ = some (.bool rn) ∧ wx.cell? ⟨D, 3, none⟩ = some (.slice ro rk rc) ∧ wx.cell? ⟨D, 4, none⟩ = some (.int .i64 re)) from fun wx h => ⟨⟨(hx.below h).c0, (hx.below h).c1⟩, (hn.below h).c0, (hn.below h).c1, (hn.below h).c2, (hn.below h).c3, (hn.below h).c4⟩)
  obtain ⟨⟨a0, a1⟩, b0, b1, b2, b3, b4⟩ := HC.out V (Ext.refl _)
  have st : Ext V V.drew := (Below.refl _ _).drew
  have HR := Lib.hid hr
  clear hr hx hn
  cases p with
  | false =>
    have HBB := Lib.hid (show false = b by rw [← hb]; rfl)
    clear hb
    first | (go_region_with (first
        | (go_at_call 16; (with_reducible refine (CV.out _).mono ?_); rintro r wn ⟨rfl, hE⟩; have st : Ext V wn := Ext.trans (by assumption) hE; clear hE; obtain ⟨⟨a0, a1⟩, b0, b1, b2, b3, b4⟩ := HC.out wn st))) | fail "no walk"
    all_goals
      go_wp2
      go_ret
      exact ⟨ret_bool (by first | exact HBB.out | (rw [← HBB.out]; rfl) | simpa using HBB.out), Ext.trans HB.out (by assumption)⟩
  | true =>
    cases d with
    | none =>
      obtain rfl := dn_none HR.out
      have HBB := Lib.hid (show false = b by rw [← hb]; rfl)
      clear hb
      first | (go_region_with (first
          | (go_at_call 16; (with_reducible refine (CV.out _).mono ?_); rintro r wn ⟨rfl, hE⟩; have st : Ext V wn := Ext.trans (by assumption) hE; clear hE; obtain ⟨⟨a0, a1⟩, b0, b1, b2, b3, b4⟩ := HC.out wn st))) | fail "no walk"
      all_goals
        go_wp2
        go_ret
        exact ⟨ret_bool (by first | exact HBB.out | (rw [← HBB.out]; rfl) | simpa using HBB.out), Ext.trans HB.out (by assumption)⟩
    | some q =>
      obtain ⟨m, f⟩ := q
      obtain ⟨rfl, rfl, -⟩ := dn_some HR.out
      cases l1 with
      | true =>
        have HBB := Lib.hid (show false = b by rw [← hb]; rfl)
        clear hb
        first | (go_region_with (first
            | (go_at_call 16; (with_reducible refine (CV.out _).mono ?_); rintro r wn ⟨rfl, hE⟩; have st : Ext V wn := Ext.trans (by assumption) hE; clear hE; obtain ⟨⟨a0, a1⟩, b0, b1, b2, b3, b4⟩ := HC.out wn st)
            | (go_at_call 85; (with_reducible refine (CL.out _ (HTV.out _ (by assumption))).mono ?_); rintro r wn ⟨v1, rfl, hv1, hE⟩; have st : Ext V wn := Ext.trans (by assumption) hE; clear hE; obtain ⟨⟨a0, a1⟩, b0, b1, b2, b3, b4⟩ := HC.out wn st)
            | (go_at_call 99; (with_reducible refine (refLess_any _ _ 0 i1 _ d1 _ HL1.out _ (HN.out _ (by assumption)) hv1 (HTV.out _ (by assumption))).mono ?_); rintro r wn ⟨rfl, hE⟩; have st : Ext V wn := Ext.trans (by assumption) hE; clear hE; obtain ⟨⟨a0, a1⟩, b0, b1, b2, b3, b4⟩ := HC.out wn st))) | fail "no walk"
        all_goals
          go_wp2
          go_ret
          exact ⟨ret_bool (by first | exact HBB.out | (rw [← HBB.out]; rfl) | simpa using HBB.out), Ext.trans HB.out (by assumption)⟩
      | false =>
        have HBB := Lib.hid (show (!l2) = b by rw [← hb]; rfl)
        clear hb
        go_region_held3 (fun wx => (wx.cell? ⟨B, 0, none⟩ = some (.int .u64 (lo : Int)) ∧ wx.cell? ⟨B, 1, none⟩ = some (.int .u64 (hi : Int))) ∧ (wx.cell? ⟨D, 0, none⟩ = some (.int .i64 0) ∧ wx.cell? ⟨D, 1, none⟩ = some (.bool false) ∧ wx.cell? ⟨D, 2, none⟩ = some (.bool rn) ∧ wx.cell? ⟨D, 3, none⟩ = some (.slice ro rk rc) ∧ wx.cell? ⟨D, 4, none⟩ = some (.int .i64 re)))
          (first | exact HC.out _ (by assumption))
          (first
            | (go_at_call 16; (with_reducible refine (CV.out _).mono ?_); rintro r wn ⟨rfl, hE⟩; have st : Ext V wn := Ext.trans (by assumption) hE; clear hE)
            | (go_at_call 85; (with_reducible refine (CL.out _ (HTV.out _ (by assumption))).mono ?_); rintro r wn ⟨v1, rfl, hv1, hE⟩; have st : Ext V wn := Ext.trans (by assumption) hE; clear hE)
            | (go_at_call 99; (with_reducible refine (refLess_any _ _ 0 i1 _ d1 _ HL1.out _ (HN.out _ (by assumption)) hv1 (HTV.out _ (by assumption))).mono ?_); rintro r wn ⟨rfl, hE⟩; have st : Ext V wn := Ext.trans (by assumption) hE; clear hE)
            | (go_at_call 85; (with_reducible refine (CH.out _ (HTV.out _ (by assumption))).mono ?_); rintro r wn ⟨v2, rfl, hv2, hE⟩; have st : Ext V wn := Ext.trans (by assumption) hE; clear hE)
            | (go_at_call 99; (with_reducible refine (refLess_any _ _ i2 0 d2 _ _ HL2.out _ hv2 (HN.out _ (by assumption)) (HTV.out _ (by assumption))).mono ?_); rintro r wn ⟨rfl, hE⟩; have st : Ext V wn := Ext.trans (by assumption) hE; clear hE))
        go_wp2
        go_ret
        exact ⟨ret_bool (by first | exact HBB.out | (rw [← HBB.out]; rfl) | simpa using HBB.out), Ext.trans HB.out (by assumption)⟩
end Go.Proofs.YtecaaklbhhjcjaaGreatDoor

namespace Go.Proofs.YtecaaklbhhjcjaaGreatDoor
open Go.RowKit

/-- is a float an element? -/
def contF (lo hi f : Nat) : Bool := validF lo hi && finB f && decide (frank lo ≤ frank f) && decide (frank f ≤ frank hi)

theorem rank_is_inf {f : Nat} (hf : f < 18446744073709551616) : frank f = 9218868437227405312 ↔ f = 9218868437227405312 := by
  unfold frank fneg fmag
  by_cases h : 9223372036854775808 ≤ f
  · rw [decide_eq_true h, if_pos rfl]; omega
  · rw [decide_eq_false h, if_neg (by simp)]; omega
theorem rank_is_ninf {f : Nat} (hf : f < 18446744073709551616) : frank f = -9218868437227405312 ↔ f = 18442240474082181120 := by
  unfold frank fneg fmag
  by_cases h : 9223372036854775808 ≤ f
  · rw [decide_eq_true h, if_pos rfl]; omega
  · rw [decide_eq_false h, if_neg (by simp)]; omega
theorem rank_le {f : Nat} (h : nanB f = false) : -9218868437227405312 ≤ frank f ∧ frank f ≤ 9218868437227405312 := by
  have h1 : ¬ 9218868437227405312 < fmag f := of_decide_eq_false h
  unfold frank
  split <;> omega
theorem valid_iff {lo hi : Nat} (hl : lo < 18446744073709551616) (hh : hi < 18446744073709551616) : validF lo hi = true ↔ nanB lo = false ∧ nanB hi = false ∧ frank lo ≤ frank hi ∧ frank lo < 9218868437227405312 ∧ -9218868437227405312 < frank hi := by
  unfold validF
  simp only [Bool.and_eq_true, Bool.not_eq_true', decide_eq_true_eq]
  constructor
  · rintro ⟨⟨⟨⟨h1, h2⟩, h3⟩, h4⟩, h5⟩
    have a1 := rank_le h1
    have a2 := rank_le h2
    refine ⟨h1, h2, h3, ?_, ?_⟩
    · have : frank lo ≠ 9218868437227405312 := fun e => h4 ((rank_is_inf hl).1 e)
      omega
    · have : frank hi ≠ -9218868437227405312 := fun e => h5 ((rank_is_ninf hh).1 e)
      omega
  · rintro ⟨h1, h2, h3, h4, h5⟩
    refine ⟨⟨⟨⟨h1, h2⟩, h3⟩, fun e => ?_⟩, fun e => ?_⟩
    · have := (rank_is_inf hl).2 e; omega
    · have := (rank_is_ninf hh).2 e; omega
theorem fin_rank_lt {f : Nat} (h : finB f = true) : -9218868437227405312 < frank f ∧ frank f < 9218868437227405312 := by
  have h1 : fmag f < 9218868437227405312 := of_decide_eq_true h
  unfold frank
  split <;> omega

theorem plain_facts (f : Nat) : nanB (plainF f) = nanB f ∧ frank (plainF f) = frank f := by
  unfold plainF
  split
  · rename_i h; subst h; decide
  · exact ⟨rfl, rfl⟩
theorem plainF_lt {f : Nat} (h : f < 18446744073709551616) : plainF f < 18446744073709551616 := by unfold plainF; split <;> omega
theorem more_step {m f : Nat} (hm : nanB m = false) (hf : nanB f = false) : nanB (if lessF m f then f else m) = false ∧ frank (if lessF m f then f else m) = max (frank m) (frank f) := by
  unfold lessF
  rw [hm, hf]
  by_cases h : frank m < frank f
  · rw [decide_eq_true h]; exact ⟨hf, by simp; omega⟩
  · rw [decide_eq_false h]; exact ⟨hm, by simp; omega⟩
theorem less_step {m f : Nat} (hm : nanB m = false) (hf : nanB f = false) : nanB (if lessF f m then f else m) = false ∧ frank (if lessF f m then f else m) = min (frank m) (frank f) := by
  unfold lessF
  rw [hm, hf]
  by_cases h : frank f < frank m
  · rw [decide_eq_true h]; exact ⟨hf, by simp; omega⟩
  · rw [decide_eq_false h]; exact ⟨hm, by simp; omega⟩
theorem great_two {a c : Nat} (ha : nanB a = false) (hc : nanB c = false) : nanB (greatF [a, c]) = false ∧ frank (greatF [a, c]) = max (frank a) (frank c) := by
  obtain ⟨h1, h2⟩ := more_step (m := 18442240474082181120) (by decide) ha
  obtain ⟨h3, h4⟩ := more_step h1 hc
  refine ⟨h3, ?_⟩
  show frank (if lessF (if lessF 18442240474082181120 a then a else 18442240474082181120) c then c else (if lessF 18442240474082181120 a then a else 18442240474082181120)) = _
  rw [h4, h2, show frank 18442240474082181120 = -9218868437227405312 by decide]
  have := rank_le ha
  omega
theorem least_two {b d : Nat} (hb : nanB b = false) (hd : nanB d = false) : nanB (leastF [b, d]) = false ∧ frank (leastF [b, d]) = min (frank b) (frank d) := by
  obtain ⟨h1, h2⟩ := less_step (m := 9218868437227405312) (by decide) hb
  obtain ⟨h3, h4⟩ := less_step h1 hd
  refine ⟨h3, ?_⟩
  show frank (if lessF d (if lessF b 9218868437227405312 then b else 9218868437227405312) then d else (if lessF b 9218868437227405312 then b else 9218868437227405312)) = _
  rw [h4, h2, show frank 9218868437227405312 = 9218868437227405312 by decide]
  have := rank_le hb
  omega
theorem two_lt {a c : Nat} (ha : a < 18446744073709551616) (hc : c < 18446744073709551616) : (∀ x ∈ [a, c], x < 18446744073709551616) := by
  intro x hx
  rcases List.mem_cons.1 hx with rfl | hx
  · exact ha
  · rcases List.mem_cons.1 hx with rfl | hx
    · exact hc
    · cases hx

/-- the bounds of the intersection and of the hull -/
def meetLo (a c : Nat) : Nat := plainF (greatF [a, c])
def meetHi (b d : Nat) : Nat := plainF (leastF [b, d])
def hullLo (a c : Nat) : Nat := plainF (leastF [a, c])
def hullHi (b d : Nat) : Nat := plainF (greatF [b, d])
/-- does each bound of one lie outside of the other, or is infinite? -/
def interF (a b c d : Nat) : Bool := validF a b && validF c d && (lessF c a || decide (c = 18442240474082181120)) && (lessF b d || decide (d = 9218868437227405312))

theorem less_rank {a b : Nat} (ha : nanB a = false) (hb : nanB b = false) : lessF a b = decide (frank a < frank b) := by unfold lessF; rw [ha, hb]; rfl
theorem sub_rank {a b c d : Nat} (h1 : validF a b = true) (h2 : validF c d = true) : subF a b c d = (decide (frank c ≤ frank a) && decide (frank b ≤ frank d)) := by
  unfold subF
  have e1 := h1
  have e2 := h2
  unfold validF at e1 e2
  simp only [Bool.and_eq_true, Bool.not_eq_true', decide_eq_true_eq] at e1 e2
  rw [h1, h2, less_rank e1.1.1.1.1 e2.1.1.1.1, less_rank e2.1.1.1.2 e1.1.1.1.2]
  simp only [Bool.true_and, ← decide_not, Int.not_lt]

section
variable {a b c d f : Nat} (ha : a < 18446744073709551616) (hb : b < 18446744073709551616) (hc : c < 18446744073709551616) (hd : d < 18446744073709551616)
include ha hb hc hd

theorem meet_lt : meetLo a c < 18446744073709551616 ∧ meetHi b d < 18446744073709551616 ∧ hullLo a c < 18446744073709551616 ∧ hullHi b d < 18446744073709551616 :=
  ⟨plainF_lt (greatF_lt (two_lt ha hc)), plainF_lt (leastF_lt (two_lt hb hd)), plainF_lt (leastF_lt (two_lt ha hc)), plainF_lt (greatF_lt (two_lt hb hd))⟩

theorem meet_valid (h1 : validF a b = true) (h2 : validF c d = true) : validF (meetLo a c) (meetHi b d) = true ↔ max (frank a) (frank c) ≤ min (frank b) (frank d) := by
  obtain ⟨v1, v2, v3, v4, v5⟩ := (valid_iff ha hb).1 h1
  obtain ⟨u1, u2, u3, u4, u5⟩ := (valid_iff hc hd).1 h2
  obtain ⟨l1, l2, -, -⟩ := meet_lt ha hb hc hd
  rw [valid_iff l1 l2]
  unfold meetLo meetHi
  rw [(plain_facts _).1, (plain_facts _).1, (plain_facts _).2, (plain_facts _).2, (great_two v1 u1).1, (great_two v1 u1).2, (least_two v2 u2).1, (least_two v2 u2).2]
  constructor
  · rintro ⟨-, -, h, -, -⟩; exact h
  · intro h; exact ⟨rfl, rfl, h, by omega, by omega⟩
end
end Go.Proofs.YtecaaklbhhjcjaaGreatDoor

namespace Go.Proofs.YtecaaklbhhjcjaaGreatDoor
open Go.RowKit

theorem fbA (V : World) (x y : Nat) : FB (V.alloc (.cells #[.int .u64 (x : Int), .int .u64 (y : Int)] 38)) V.heap.size [x, y] := heap_alloc_new V _
theorem fbB (V : World) (x y : Nat) (o : Obj) : FB ((V.alloc (.cells #[.int .u64 (x : Int), .int .u64 (y : Int)] 38)).alloc o) V.heap.size [x, y] := (fbA V x y).below ((Below.refl _ _).alloc (Nat.le_refl _) _)
theorem fbAd (V : World) (x y : Nat) : FB (V.alloc (.cells #[.int .u64 (x : Int), .int .u64 (y : Int)] 38)).drew V.heap.size [x, y] := fbA V x y
theorem fbBd (V : World) (x y : Nat) (o : Obj) : FB ((V.alloc (.cells #[.int .u64 (x : Int), .int .u64 (y : Int)] 38)).alloc o).drew V.heap.size [x, y] := fbB V x y o
theorem eA {V w : World} (h : Ext V w) (o : Obj) : Ext V (w.alloc o) := Ext.trans h ((Below.refl _ _).alloc (Nat.le_refl _) _)
theorem eAd (V : World) (o : Obj) : Ext V (V.alloc o).drew := (eA (Ext.refl V) o).drew
theorem eAAd (V : World) (o o' : Obj) : Ext V ((V.alloc o).alloc o').drew := (eA (eA (Ext.refl V) o) o').drew
theorem ibox_put {W w : World} {g : Nat} {l0 h0 : Int} (hx : IBox w g l0 h0) (l h : Int) (hw : Below W.heap.size W w) (hg : W.heap.size ≤ g) :
    IBox ((w.setCell ⟨g, 0, none⟩ (.int .u64 l)).setCell ⟨g, 1, none⟩ (.int .u64 h)) g l h ∧ Below W.heap.size W ((w.setCell ⟨g, 0, none⟩ (.int .u64 l)).setCell ⟨g, 1, none⟩ (.int .u64 h)) :=
  ⟨hx.stored l h, Below.trans hw ((only_iset2 w g _ _).below hg)⟩

end Go.Proofs.YtecaaklbhhjcjaaGreatDoor
