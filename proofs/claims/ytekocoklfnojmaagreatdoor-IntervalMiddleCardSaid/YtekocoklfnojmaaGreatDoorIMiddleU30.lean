import Derived.Test.YtekocoklfnojmaaGreatDoorIMiddleU29
import Derived.Test.YtekocoklfnojmaaGreatDoorIMiddleU20
namespace Go.Proofs.YtekocoklfnojmaaGreatDoor
open Go.RowKit

theorem kind_at2 (f : Nat) (hf : f < 18446744073709551616) (k : Int) (hk : fkind f = k) (w : World) :
    Calls Tryz.prog 176 #[.int .u64 (f : Int)] w fun e w' => e = .returned (.int .i64 k) ∧ w = w' := by
  rw [← hk]; exact kind_any f hf w
theorem kind_num2 {f : Nat} (h : nanB f = false) : fkind f ≠ 3 := by
  have h1 := fkind_cases f
  have h2 : ¬ 9218868437227405312 < fmag f := of_decide_eq_false h
  omega
theorem ext_allocI (w : World) (o : Obj) : Below w.heap.size w (w.alloc o) := (Below.refl _ w).alloc (Nat.le_refl _) o
theorem fb_new (w : World) (r1 r2 r3 r4 : Nat) : FB (w.alloc (.cells #[.int .u64 (r1 : Int), .int .u64 (r2 : Int), .int .u64 (r3 : Int), .int .u64 (r4 : Int)] 23)) w.heap.size [r1, r2, r3, r4] := heap_alloc_new w _

set_option maxRecDepth 100000 in
set_option maxHeartbeats 8000000 in
theorem corners_any (a b c d : Nat) (mode : Int) (r1 r2 r3 r4 : Nat) (ha : a < 18446744073709551616) (hb : b < 18446744073709551616) (hc : c < 18446744073709551616) (hd : d < 18446744073709551616) (h1 : fmulF a c mode = r1) (h2 : fmulF a d mode = r2) (h3 : fmulF b c mode = r3) (h4 : fmulF b d mode = r4)
    (hl : ∀ x ∈ [r1, r2, r3, r4], x < 18446744073709551616) (hnan : ∀ x ∈ [r1, r2, r3, r4], nanB x = false) (w : World) :
    Calls Tryz.prog 131 #[.func (.func 74) #[] #[], .agg #[.int .u64 (a : Int), .int .u64 (b : Int)], .agg #[.int .u64 (c : Int), .int .u64 (d : Int)], .int .i64 mode] w fun e w' => ∃ g, e = .returned (.slice (some ⟨g, 0, none⟩) 4 4) ∧ FB w' g [r1, r2, r3, r4] ∧ Ext w w' := by
  have C1 := Lib.hid (fmul_any a c mode ha hc)
  have C2 := Lib.hid (fmul_any a d mode ha hd)
  have C3 := Lib.hid (fmul_any b c mode hb hc)
  have C4 := Lib.hid (fmul_any b d mode hb hd)
  rw [h1] at C1
  rw [h2] at C2
  rw [h3] at C3
  rw [h4] at C4
  have HL := Lib.hid hl
  have HNAN := Lib.hid hnan
  clear h1 h2 h3 h4 ha hb hc hd hl hnan
  go_enter Tryz.func131, Tryz.ntmps131
  go_wp2_with fail
  obtain ⟨W, hW, hB, hx, hy, hsz⟩ := ibox_two w a b c d
  rw [← hW]
  clear hW
  have HB := Lib.hid hB
  generalize w.heap.size = B at hx hy hsz ⊢
  clear hB
  have c0 := hx.c0
  have c1 := hx.c1
  have c2 := hy.c0
  have c3 := hy.c1
  go_region_held3 (fun wx => wx.cell? ⟨B, 0, none⟩ = some (.int .u64 (a : Int)) ∧ wx.cell? ⟨B, 1, none⟩ = some (.int .u64 (b : Int)) ∧ wx.cell? ⟨B + 1, 0, none⟩ = some (.int .u64 (c : Int)) ∧ wx.cell? ⟨B + 1, 1, none⟩ = some (.int .u64 (d : Int)))
    (first | exact ⟨c0, c1, c2, c3⟩ | exact ⟨x1.c0, x1.c1, y1.c0, y1.c1⟩ | exact ⟨x2.c0, x2.c1, y2.c0, y2.c1⟩ | exact ⟨x3.c0, x3.c1, y3.c0, y3.c1⟩ | exact ⟨x4.c0, x4.c1, y4.c0, y4.c1⟩ | exact ⟨(x4.below (ext_allocI w4 _)).c0, (x4.below (ext_allocI w4 _)).c1, (y4.below (ext_allocI w4 _)).c0, (y4.below (ext_allocI w4 _)).c1⟩)
    (first
      | (go_at_call 74; (with_reducible refine (C1.out _).mono ?_); rintro r w1 ⟨rfl, hE1⟩; have x1 := hx.drew.below hE1; have y1 := hy.drew.below hE1; have e0 := x1.c0; have e1 := x1.c1; have e2 := y1.c0; have e3 := y1.c1)
      | (go_at_call 74; (with_reducible refine (C2.out _).mono ?_); rintro r w2 ⟨rfl, hE2⟩; have x2 := x1.below hE2; have y2 := y1.below hE2; clear e0 e1 e2 e3; have e0 := x2.c0; have e1 := x2.c1; have e2 := y2.c0; have e3 := y2.c1)
      | (go_at_call 74; (with_reducible refine (C3.out _).mono ?_); rintro r w3 ⟨rfl, hE3⟩; have x3 := x2.below hE3; have y3 := y2.below hE3; clear e0 e1 e2 e3; have e0 := x3.c0; have e1 := x3.c1; have e2 := y3.c0; have e3 := y3.c1)
      | (go_at_call 74; (with_reducible refine (C4.out _).mono ?_); rintro r w4 ⟨rfl, hE4⟩; have x4 := x3.below hE4; have y4 := y3.below hE4; clear e0 e1 e2 e3; have e0 := x4.c0; have e1 := x4.c1; have e2 := y4.c0; have e3 := y4.c1))
  have HE4 := Lib.hid (Ext.trans HB.out (Ext.trans (Ext.trans (Ext.trans (Ext.trans (Below.refl W.heap.size W).drew hE1) hE2) hE3) hE4))
  have hfb := fb_new w4 r1 r2 r3 r4
  have hE5 := Lib.hid (Ext.trans HE4.out ((Below.refl _ w4).alloc (Nat.le_refl _) (.cells #[.int .u64 (r1 : Int), .int .u64 (r2 : Int), .int .u64 (r3 : Int), .int .u64 (r4 : Int)] 23)))
  clear hE1 hE2 hE3 hE4 x1 x2 x3 x4 y1 y2 y3 y4 hx hy
  go_upto_region 2 with fail
  generalize w4.alloc (.cells #[.int .u64 (r1 : Int), .int .u64 (r2 : Int), .int .u64 (r3 : Int), .int .u64 (r4 : Int)] 23) = V at *
  generalize w4.heap.size = g at *
  go_wp2
  go_loopw [10, 11, 43] (fun _ _ k wr => ∃ j : Nat, j ≤ 4 ∧ k = .int .i64 (j : Int) ∧ wr = V) (fun _ _ k _ => 4 - (intOf k).toNat)
  case atStart => exact ⟨0, Nat.zero_le _, rfl, rfl⟩
  case round =>
    obtain ⟨j, hj, rfl, rfl⟩ := hrel
    by_cases hlt : j < 4
    · have hcell := hfb.cell j hlt
      have hxl := getD_lt HL.out j
      have hxn : nanB ([r1, r2, r3, r4].getD j 0) = false := by
        refine HNAN.out _ ?_
        rcases (show j = 0 ∨ j = 1 ∨ j = 2 ∨ j = 3 by omega) with h | h | h | h <;> subst h <;> simp
      obtain ⟨x, hxe⟩ : ∃ x, [r1, r2, r3, r4].getD j 0 = x := ⟨_, rfl⟩
      rw [hxe] at hcell hxl hxn
      obtain ⟨k, hk⟩ : ∃ k, fkind x = k := ⟨_, rfl⟩
      have hk3 : (k == 3) = false := by rw [beq_eq_false_iff_ne, ← hk]; exact kind_num2 hxn
      have CK := Lib.hid (kind_at2 x hxl k hk)
      clear hxe hxl hxn hk
      go_wp2_with fail
      refine (CK.out _).mono ?_
      rintro r w9 ⟨rfl, rfl⟩
      go_wp2
      go_roundw
      case rel => exact ⟨j + 1, by omega, by go_num, by first | rfl | trivial⟩
      case measure => simp [intOf] <;> omega
    · obtain rfl : j = 4 := by omega
      go_wp2
      go_ret
      exact ⟨g, rfl, hfb, hE5.out⟩

/-- the product of two intervals whose corners are no NaNs -/
structure MulF (a b c d : Nat) (x y : Int) (l1 l2 : List Nat) : Prop where
  e1 : l1 = [fmulF a c 1, fmulF a d 1, fmulF b c 1, fmulF b d 1]
  e2 : l2 = [fmulF a c 2, fmulF a d 2, fmulF b c 2, fmulF b d 2]
  n1 : ∀ x ∈ l1, x < 18446744073709551616 ∧ nanB x = false
  n2 : ∀ x ∈ l2, x < 18446744073709551616 ∧ nanB x = false
  hx : ((plainF (leastF l1) : Nat) : Int) = x
  hy : ((plainF (greatF l2) : Nat) : Int) = y

theorem corners_at (a b c d : Nat) (mode : Int) (l : List Nat) (ha : a < 18446744073709551616) (hb : b < 18446744073709551616) (hc : c < 18446744073709551616) (hd : d < 18446744073709551616) (h : l = [fmulF a c mode, fmulF a d mode, fmulF b c mode, fmulF b d mode]) (hl : ∀ x ∈ l, x < 18446744073709551616 ∧ nanB x = false) (w : World) :
    Calls Tryz.prog 131 #[.func (.func 74) #[] #[], .agg #[.int .u64 (a : Int), .int .u64 (b : Int)], .agg #[.int .u64 (c : Int), .int .u64 (d : Int)], .int .i64 mode] w fun e w' => ∃ g, e = .returned (.slice (some ⟨g, 0, none⟩) 4 4) ∧ FB w' g l ∧ Ext w w' := by
  subst h
  exact corners_any a b c d mode _ _ _ _ ha hb hc hd rfl rfl rfl rfl (fun x hx => (hl x hx).1) (fun x hx => (hl x hx).2) w

set_option maxRecDepth 100000 in
set_option maxHeartbeats 8000000 in
theorem span_any (a b c d : Nat) (x y : Int) (l1 l2 : List Nat) (ha : a < 18446744073709551616) (hb : b < 18446744073709551616) (hc : c < 18446744073709551616) (hd : d < 18446744073709551616) (hf : MulF a b c d x y l1 l2) (w : World) :
    Calls Tryz.prog 73 #[.func (.func 74) #[] #[], .agg #[.int .u64 (a : Int), .int .u64 (b : Int)], .agg #[.int .u64 (c : Int), .int .u64 (d : Int)]] w fun e w' => e = .returned (.agg #[.int .u64 x, .int .u64 y]) ∧ Ext w w' := by
  have K1 := Lib.hid (corners_at a b c d 1 l1 ha hb hc hd hf.e1 hf.n1)
  have K2 := Lib.hid (corners_at a b c d 2 l2 ha hb hc hd hf.e2 hf.n2)
  have L1 := Lib.hid (fun g w h => least_any g l1 4 (by rw [hf.e1]; rfl) (by omega) (fun x hx => (hf.n1 x hx).1) w h)
  have L2 := Lib.hid (fun g w h => greatest_any g l2 4 (by rw [hf.e2]; rfl) (by omega) (fun x hx => (hf.n2 x hx).1) w h)
  have KB := Lib.hid (between_any (leastF l1) (greatF l2))
  rw [hf.hx, hf.hy] at KB
  generalize leastF l1 = m1 at *
  generalize greatF l2 = m2 at *
  clear hf ha hb hc hd
  go_enter Tryz.func73, Tryz.ntmps73
  go_wp2_with fail
  obtain ⟨W, hW, hB, hx, hy, hbx, hsz⟩ := ibox_three w a b c d 0 0
  rw [← hW]
  clear hW
  generalize hBe : w.heap.size = B at *
  have HBe := Lib.hid hBe
  have HB : Hid (Below B w W) := Lib.hid (by rw [← hBe]; exact hB)
  clear hBe hB
  have c0 := hx.c0
  have c1 := hx.c1
  have c2 := hy.c0
  have c3 := hy.c1
  have TAG := Lib.hid trivial
  go_region_held3 (fun wx => wx.cell? ⟨B, 0, none⟩ = some (.int .u64 (a : Int)) ∧ wx.cell? ⟨B, 1, none⟩ = some (.int .u64 (b : Int)) ∧ wx.cell? ⟨B + 1, 0, none⟩ = some (.int .u64 (c : Int)) ∧ wx.cell? ⟨B + 1, 1, none⟩ = some (.int .u64 (d : Int)))
    (first | exact ⟨c0, c1, c2, c3⟩ | exact ⟨x1.c0, x1.c1, y1.c0, y1.c1⟩ | exact ⟨x2.c0, x2.c1, y2.c0, y2.c1⟩ | exact ⟨x3.c0, x3.c1, y3.c0, y3.c1⟩ | exact ⟨x4.c0, x4.c1, y4.c0, y4.c1⟩ | exact ⟨x5.c0, x5.c1, y5.c0, y5.c1⟩ | (refine ⟨?_, ?_, ?_, ?_⟩ <;> go_simp))
    (first
      | (go_at_call 131; (with_reducible refine (K1.out _).mono ?_); rintro r w1 ⟨g1, rfl, hf1, hE1⟩; have x1 := hx.drew.below hE1; have y1 := hy.drew.below hE1; have b1 := hbx.drew.below hE1; have e0 := x1.c0; have e1 := x1.c1; have e2 := y1.c0; have e3 := y1.c1)
      | (go_at_call 84; refine (L1.out g1 _ (by exact hf1)).mono ?_; rintro r w2 ⟨rfl, hE2⟩; have x2 := x1.below hE2; have y2 := y1.below hE2; have b2 := b1.below hE2; clear e0 e1 e2 e3; have e0 := x2.c0; have e1 := x2.c1; have e2 := y2.c0; have e3 := y2.c1)
      | (go_at_call 131; (with_reducible refine (K2.out _).mono ?_); rintro r w3 ⟨g2, rfl, hf2, hE3⟩; have x3 := x2.below hE3; have y3 := y2.below hE3; have b3 := b2.below hE3; clear e0 e1 e2 e3; have e0 := x3.c0; have e1 := x3.c1; have e2 := y3.c0; have e3 := y3.c1)
      | (go_at_call 81; refine (L2.out g2 _ (by exact hf2)).mono ?_; rintro r w4 ⟨rfl, hE4⟩; have x4 := x3.below hE4; have y4 := y3.below hE4; have b4 := b3.below hE4; clear e0 e1 e2 e3; have e0 := x4.c0; have e1 := x4.c1; have e2 := y4.c0; have e3 := y4.c1)
      | (go_at_call 63; refine (KB.out _).mono ?_; rintro r w5 ⟨rfl, hE5⟩; have x5 := x4.below hE5; have y5 := y4.below hE5; have b5 := b4.below hE5; clear e0 e1 e2 e3; have e0 := x5.c0; have e1 := x5.c1; have e2 := y5.c0; have e3 := y5.c1; have q0 := b5.c0; have q1 := b5.c1; have q2 := b5.f 0; have q3 := b5.f 1))
  have hB2 := ((HB.out.trans (Below.mono (Below.refl _ W).drew (Nat.le_of_lt hx.lt))).trans (Below.mono hE1 (Nat.le_of_lt hx.drew.lt))).trans (Below.mono hE2 (Nat.le_of_lt x1.lt))
  have hB2 := ((hB2.trans (Below.mono hE3 (Nat.le_of_lt x2.lt))).trans (Below.mono hE4 (Nat.le_of_lt x3.lt))).trans (Below.mono hE5 (Nat.le_of_lt x4.lt))
  have bx := b5
  have hst := bx.stored x y
  have z0 := hst.c0
  have z1 := hst.c1
  have HB := Lib.hid (hB2.trans ((only_iset2 w5 (B + 1 + 1) (.int .u64 x) (.int .u64 y)).below (by omega)))
  clear hst hB2
  go_wp2
  refine bodyPost_ret (v := .agg #[.int .u64 x, .int .u64 y]) (by simp [results, Tryz.results73, go_sem, z0, z1]) rfl ⟨rfl, ?_⟩
  show Below _ _ _
  rw [HBe.out]
  exact HB.out

set_option maxRecDepth 100000 in
set_option maxHeartbeats 8000000 in
theorem imul_yes (a b c d : Nat) (x y : Int) (l1 l2 : List Nat) (ha : a < 18446744073709551616) (hb : b < 18446744073709551616) (hc : c < 18446744073709551616) (hd : d < 18446744073709551616) (h1 : validF a b = true) (h2 : validF c d = true) (hf : MulF a b c d x y l1 l2) (w : World) :
    Calls Tryz.prog 18 #[.agg #[.int .u64 (a : Int), .int .u64 (b : Int)], .agg #[.int .u64 (c : Int), .int .u64 (d : Int)]] w fun e w' => e = .returned (.agg #[.int .u64 x, .int .u64 y]) ∧ Ext w w' := by
  have C1 := Lib.hid (ivalid_at a b ha hb rfl rfl true h1)
  have C2 := Lib.hid (ivalid_at c d hc hd rfl rfl true h2)
  have C3 := Lib.hid (span_any a b c d x y l1 l2 ha hb hc hd hf)
  clear h1 h2 ha hb hc hd hf
  go_enter Tryz.func18, Tryz.ntmps18
  go_wp2_with fail
  obtain ⟨W, hW, hB, hx, hy, hbx, hsz⟩ := ibox_three w a b c d 0 0
  rw [← hW]
  clear hW
  generalize hBe : w.heap.size = B at *
  have HBe := Lib.hid hBe
  have HB : Hid (Below B w W) := Lib.hid (by rw [← hBe]; exact hB)
  clear hBe hB hsz
  have c0 := hx.c0
  have c1 := hx.c1
  have c2 := hy.c0
  have c3 := hy.c1
  go_wp2_with fail
  refine (C1.out _).mono ?_
  rintro r w1 ⟨rfl, hE⟩
  have HB := Lib.hid (HB.out.trans (Below.mono hE (Nat.le_of_lt hx.lt)))
  have hx := hx.below hE
  have hy := hy.below hE
  have hbx := hbx.below hE
  clear c0 c1 c2 c3 hE
  have c0 := hx.c0
  have c1 := hx.c1
  have c2 := hy.c0
  have c3 := hy.c1
  go_wp2_with fail
  refine (C2.out _).mono ?_
  rintro r w2 ⟨rfl, hE⟩
  have HB := Lib.hid (HB.out.trans (Below.mono hE (Nat.le_of_lt hx.lt)))
  have hx := hx.below hE
  have hy := hy.below hE
  have hbx := hbx.below hE
  clear c0 c1 c2 c3 hE
  have c0 := hx.c0
  have c1 := hx.c1
  have c2 := hy.c0
  have c3 := hy.c1
  go_wp2_with fail
  refine (C3.out _).mono ?_
  rintro r w3 ⟨rfl, hE⟩
  have HB := Lib.hid (HB.out.trans (Below.mono hE (Nat.le_of_lt hx.lt)))
  have hx := hx.below hE
  have hy := hy.below hE
  have hbx := hbx.below hE
  clear c0 c1 c2 c3 hE
  have c0 := hx.c0
  have c1 := hx.c1
  have c2 := hy.c0
  have c3 := hy.c1
  have q0 := hbx.c0
  have q1 := hbx.c1
  have q2 := hbx.f 0
  have q3 := hbx.f 1
  have hst := hbx.stored x y
  have z0 := hst.c0
  have z1 := hst.c1
  have HB := Lib.hid (HB.out.trans ((only_iset2 w3 (B + 1 + 1) (.int .u64 x) (.int .u64 y)).below (by omega)))
  clear hst
  go_wp2
  refine bodyPost_ret (v := .agg #[.int .u64 x, .int .u64 y]) (by simp [results, Tryz.results18, go_sem, z0, z1]) rfl ⟨rfl, ?_⟩
  show Below _ _ _
  rw [HBe.out]
  exact HB.out
end Go.Proofs.YtekocoklfnojmaaGreatDoor

namespace Go.Proofs.YtekocoklfnojmaaGreatDoor
open Go.RowKit

/-- a NaN counts as zero -/
def nz (x : Nat) : Nat := if nanB x then 0 else x
theorem FB.set {w : World} {g : Nat} {l : List Nat} (h : FB w g l) (j x : Nat) : FB (w.setCell ⟨g, j, none⟩ (.int .u64 (x : Int))) g (l.set j x) := by
  unfold FB at h ⊢
  rw [List.map_set]
  simp [World.setCell, Array.getElem?_modify, h]
/-- the least and the greatest of the corners, where a NaN counts as zero -/
structure SpanMulF (a b c d : Nat) (x y : Int) (l1 l2 : List Nat) : Prop where
  e1 : l1 = [fmulF a c 1, fmulF a d 1, fmulF b c 1, fmulF b d 1].map nz
  e2 : l2 = [fmulF a c 2, fmulF a d 2, fmulF b c 2, fmulF b d 2].map nz
  n1 : ∀ x ∈ [fmulF a c 1, fmulF a d 1, fmulF b c 1, fmulF b d 1], x < 18446744073709551616
  n2 : ∀ x ∈ [fmulF a c 2, fmulF a d 2, fmulF b c 2, fmulF b d 2], x < 18446744073709551616
  hx : ((plainF (leastF l1) : Nat) : Int) = x
  hy : ((plainF (greatF l2) : Nat) : Int) = y

end Go.Proofs.YtekocoklfnojmaaGreatDoor

namespace Go.Proofs.YtekocoklfnojmaaGreatDoor
open Go.RowKit

theorem kind_fields {f q r : Nat} (hq : f / 4503599627370496 % 2048 = q) (hr : f % 4503599627370496 = r) : fmag f = q * 4503599627370496 + r ∧ q < 2048 ∧ r < 4503599627370496 := by
  unfold fmag
  omega
theorem and_fields (f : Nat) (hf : f < 18446744073709551616) : bits BinOp.and IntKind.u64 ((f : Int) / 4503599627370496) 2047 = ((f / 4503599627370496 % 2048 : Nat) : Int) ∧ bits BinOp.and IntKind.u64 (f : Int) 4503599627370495 = ((f % 4503599627370496 : Nat) : Int) := by
  have h1 : (f : Int) / 4503599627370496 = ((f / 4503599627370496 : Nat) : Int) := (Int.natCast_ediv _ _).symm
  have h2 := bits_and_u64_nat (f / 4503599627370496) 2047 (by omega) (by omega)
  rw [show (2047 : Nat) = 2 ^ 11 - 1 from rfl, Nat.and_two_pow_sub_one_eq_mod] at h2
  have h3 := bits_and_u64_nat f 4503599627370495 (by omega) (by omega)
  rw [show (4503599627370495 : Nat) = 2 ^ 52 - 1 from rfl, Nat.and_two_pow_sub_one_eq_mod] at h3
  rw [h1]
  exact ⟨h2, h3⟩

set_option maxRecDepth 100000 in
set_option maxHeartbeats 1000000 in
theorem refKind_any (f : Nat) (hf : f < 18446744073709551616) (w : World) :
    Calls Tryz.prog 172 #[.int .u64 (f : Int)] w fun e w' => e = .returned (.int .i64 (fkind f)) ∧ w = w' := by
  obtain ⟨h1, h2⟩ := and_fields f hf
  obtain ⟨q, hq⟩ : ∃ q : Nat, f / 4503599627370496 % 2048 = q := ⟨_, rfl⟩
  obtain ⟨r, hr⟩ : ∃ r : Nat, f % 4503599627370496 = r := ⟨_, rfl⟩
  obtain ⟨hm, hq', hr'⟩ := kind_fields hq hr
  rw [hq] at h1
  rw [hr] at h2
  have hk := fkind_cases f
  rw [hm] at hk
  generalize fkind f = k at *
  clear hq hr hm hf
  by_cases c1 : q = 2047
  · have b1 : ((q : Int) == 2047) = true := by rw [beq_iff_eq]; omega
    by_cases c2 : r = 0
    · obtain rfl : k = 2 := by omega
      have b2 : ((r : Int) != 0) = false := by simp; omega
      clear hk c1 c2 hq' hr'
      go_enter Tryz.func172, Tryz.ntmps172
      go_wp2
      go_ret
      exact ⟨rfl, rfl⟩
    · obtain rfl : k = 3 := by omega
      have b2 : ((r : Int) != 0) = true := by simp; omega
      clear hk c1 c2 hq' hr'
      go_enter Tryz.func172, Tryz.ntmps172
      go_wp2
      go_ret
      exact ⟨rfl, rfl⟩
  · have b1 : ((q : Int) == 2047) = false := by rw [beq_eq_false_iff_ne]; omega
    by_cases c2 : q = 0
    · have b3 : ((q : Int) == 0) = true := by rw [beq_iff_eq]; omega
      by_cases c3 : r = 0
      · obtain rfl : k = 0 := by omega
        have b4 : ((r : Int) == 0) = true := by rw [beq_iff_eq]; omega
        clear hk c1 c2 c3 hq' hr'
        go_enter Tryz.func172, Tryz.ntmps172
        go_wp2
        go_ret
        exact ⟨rfl, rfl⟩
      · obtain rfl : k = 1 := by omega
        have b4 : ((r : Int) == 0) = false := by rw [beq_eq_false_iff_ne]; omega
        clear hk c1 c2 c3 hq' hr'
        go_enter Tryz.func172, Tryz.ntmps172
        go_wp2
        go_ret
        exact ⟨rfl, rfl⟩
    · obtain rfl : k = 1 := by omega
      have b3 : ((q : Int) == 0) = false := by rw [beq_eq_false_iff_ne]; omega
      clear hk c1 c2 hq' hr'
      go_enter Tryz.func172, Tryz.ntmps172
      go_wp2
      go_ret
      exact ⟨rfl, rfl⟩

theorem kind_nan (f : Nat) : (fkind f == 3) = nanB f := by
  have h := fkind_cases f
  unfold nanB
  generalize fkind f = k at *
  generalize fmag f = m at *
  by_cases h1 : 9218868437227405312 < m
  · rw [decide_eq_true h1, beq_iff_eq]; omega
  · rw [decide_eq_false h1, beq_eq_false_iff_ne]; omega

set_option maxRecDepth 100000 in
theorem refNan_any (f : Nat) (hf : f < 18446744073709551616) (b : Bool) (hb : nanB f = b) (w : World) :
    Calls Tryz.prog 127 #[.int .u64 (f : Int)] w fun e w' => e = .returned (.bool b) ∧ w = w' := by
  have hk := kind_nan f
  rw [hb] at hk
  have HK := Lib.hid hk
  clear hk hb
  go_enter Tryz.func127, Tryz.ntmps127
  go_wp2_with fail
  refine (refKind_any f hf _).mono ?_
  rintro e w' ⟨rfl, rfl⟩
  go_wp2
  go_ret
  exact ⟨ret_bool HK.out, rfl⟩

set_option maxRecDepth 100000 in
theorem refMinus_any (f : Nat) (hf : f < 18446744073709551616) (b : Bool) (hb : fneg f = b) (w : World) :
    Calls Tryz.prog 137 #[.int .u64 (f : Int)] w fun e w' => e = .returned (.bool b) ∧ w = w' := by
  have ha := and_sign hf
  rw [hb] at ha
  clear hb
  cases b
  all_goals
    unfold sgz at ha
    simp only [if_true, Bool.false_eq_true, if_false] at ha
    go_enter Tryz.func137, Tryz.ntmps137
    go_wp2
    go_ret
    exact ⟨ret_bool (by first | rfl | decide | simp), rfl⟩

set_option maxRecDepth 100000 in
theorem refKey_any (f : Nat) (hf : f < 18446744073709551616) (r : Int) (hr : frank f = r) (w : World) :
    Calls Tryz.prog 128 #[.int .u64 (f : Int)] w fun e w' => e = .returned (.int .i64 r) ∧ w = w' := by
  have ha := andNot_sign hf
  have hm := fmag_lt f
  have hp := f_parts hf
  unfold frank at hr
  cases hn : fneg f
  · rw [hn] at hr hp
    have C := Lib.hid (refMinus_any f hf false hn)
    simp only [Bool.false_eq_true, if_false] at hr
    have hp : f = fmag f := by unfold sgz at hp; simpa using hp
    have hv : (f : Int) = r := by rw [← hr, ← hp]
    have hr0 : 0 ≤ r := by omega
    have hr1 : r < 9223372036854775808 := by omega
    rw [hv] at C ⊢
    clear ha hm hp hr hn hf hv
    go_enter Tryz.func128, Tryz.ntmps128
    go_wp2_with fail
    refine (C.out _).mono ?_
    rintro e w' ⟨rfl, rfl⟩
    go_wp2
    go_ret
    exact ⟨rfl, rfl⟩
  · rw [hn] at hr
    have C := Lib.hid (refMinus_any f hf true hn)
    simp only [if_true] at hr
    subst hr
    generalize fmag f = m at *
    clear hp hn hf
    go_enter Tryz.func128, Tryz.ntmps128
    go_wp2_with fail
    refine (C.out _).mono ?_
    rintro e w' ⟨rfl, rfl⟩
    go_wp2
    go_ret
    exact ⟨ret_int (by first | rfl | simp | (simp; omega)), rfl⟩

set_option maxRecDepth 100000 in
set_option maxHeartbeats 2000000 in
theorem refFCmp_any (a b : Nat) (ha : a < 18446744073709551616) (hb : b < 18446744073709551616) (s : Int) (ok : Bool) (h : FcmpOut a b s ok) (w : World) :
    Calls Tryz.prog 61 #[.int .u64 (a : Int), .int .u64 (b : Int)] w fun e w' => e = .returned (.tuple #[.int .i64 s, .bool ok]) ∧ Ext w w' := by
  unfold FcmpOut at h
  obtain ⟨na, hna⟩ : ∃ na, nanB a = na := ⟨_, rfl⟩
  obtain ⟨nb, hnb⟩ : ∃ nb, nanB b = nb := ⟨_, rfl⟩
  have CA := Lib.hid (refNan_any a ha na hna)
  have CB := Lib.hid (refNan_any b hb nb hnb)
  obtain ⟨x, hx⟩ : ∃ x, frank a = x := ⟨_, rfl⟩
  obtain ⟨y, hy⟩ : ∃ y, frank b = y := ⟨_, rfl⟩
  have KA := Lib.hid (refKey_any a ha x hx)
  have KB := Lib.hid (refKey_any b hb y hy)
  rw [hna, hnb, hx, hy] at h
  clear hna hnb hx hy ha hb
  cases na with
  | true =>
    simp only [Bool.true_or, if_true] at h
    obtain ⟨rfl, rfl⟩ := h
    go_enter Tryz.func61, Tryz.ntmps61
    go_wp2_with fail
    refine (CA.out _).mono ?_
    rintro e w' ⟨rfl, rfl⟩
    go_wp2
    go_ret2
    exact ⟨rfl, Below.refl _ _⟩
  | false =>
    cases nb with
    | true =>
      simp only [Bool.false_or, if_true] at h
      obtain ⟨rfl, rfl⟩ := h
      go_enter Tryz.func61, Tryz.ntmps61
      go_wp2_with fail
      refine (CA.out _).mono ?_
      rintro e w' ⟨rfl, rfl⟩
      go_wp2_with fail
      refine (CB.out _).mono ?_
      rintro e w' ⟨rfl, rfl⟩
      go_wp2
      go_ret2
      exact ⟨rfl, Below.refl _ _⟩
    | false =>
      simp only [Bool.or_self, Bool.false_eq_true, if_false] at h
      obtain ⟨hs, rfl⟩ := h
      obtain ⟨c, d, e⟩ | ⟨c, d, e⟩ | ⟨c, d, e⟩ : (x < y ∧ ¬ y < x ∧ s = -1) ∨ (¬ x < y ∧ y < x ∧ s = 1) ∨ (¬ x < y ∧ ¬ y < x ∧ s = 0) := by
        rw [hs]; unfold sgn3; split
        · omega
        · split <;> omega
      all_goals
        subst e
        clear hs
        go_enter Tryz.func61, Tryz.ntmps61
        go_wp2_with fail
        refine (CA.out _).mono ?_
        rintro e w' ⟨rfl, rfl⟩
        go_wp2_with fail
        refine (CB.out _).mono ?_
        rintro e w' ⟨rfl, rfl⟩
        go_wp2_with (first | (go_at_call 128; (with_reducible refine (KA.out _).mono ?_); rintro e w' ⟨rfl, rfl⟩) | (go_at_call 128; (with_reducible refine (KB.out _).mono ?_); rintro e w' ⟨rfl, rfl⟩))
        go_ret2
        exact ⟨rfl, Below.refl _ _⟩
end Go.Proofs.YtekocoklfnojmaaGreatDoor
