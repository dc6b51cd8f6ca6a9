/- What interval.Point, Subset and Add do. -/
import Derived.Test.YtjohpdobnedilaaDoorCIBase
namespace Go.Proofs.YtjohpdobnedilaaDoor
open Go.RowKit

def wholeV : Value := .agg #[.int .u64 18442240474082181120, .int .u64 9218868437227405312]

theorem isFinite_at (f : Nat) (hf : f < 18446744073709551616) (b : Bool) (hb : finB f = b) (w : World) :
    Calls Tryd.prog 47 #[.int .u64 (f : Int)] w fun e w' => e = .returned (.bool b) ∧ w = w' := by
  rw [← hb]; exact isFinite_any f hf w

set_option maxRecDepth 100000 in
set_option maxHeartbeats 1000000 in
theorem point_any (f : Nat) (hf : f < 18446744073709551616) (v : Value) (hv : (if finB f then .agg #[.int .u64 ((plainF f : Nat) : Int), .int .u64 ((plainF f : Nat) : Int)] else wholeV) = v) (w : World) :
    Calls Tryd.prog 26 #[.int .u64 (f : Int)] w fun e w' => e = .returned v ∧ Ext w w' := by
  cases hb : finB f with
  | false =>
    rw [hb, if_neg (by simp)] at hv
    subst hv
    have C := Lib.hid (isFinite_at f hf false hb)
    unfold wholeV
    clear hb hf
    go_enter Tryd.func26, Tryd.ntmps26
    go_wp2_with fail
    obtain ⟨W, hW, hB, hbx, hsz⟩ := ibox_new w 0 0
    rw [← hW]
    clear hW
    generalize hBe : w.heap.size = B at *
    have HBe := Lib.hid hBe
    have hB : Below B w W := by rw [← hBe]; exact hB
    clear hBe
    refine (C.out _).mono ?_
    rintro r w1 ⟨rfl, rfl⟩
    go_wp2_with fail
    refine (whole_any _).mono ?_
    rintro r w2 ⟨rfl, hE⟩
    have bx := hbx.below hE
    have hB2 := hB.trans (Below.mono hE (by omega))
    clear hbx hB hE
    have q0 := bx.c0
    have q1 := bx.c1
    have q2 := bx.f 0
    have q3 := bx.f 1
    have hst := bx.stored 18442240474082181120 9218868437227405312
    have z0 := hst.c0
    have z1 := hst.c1
    have HB := Lib.hid (hB2.trans ((only_iset2 w2 B (.int .u64 18442240474082181120) (.int .u64 9218868437227405312)).below (Nat.le_refl B)))
    clear hst hB2
    go_wp2
    refine bodyPost_ret (v := .agg #[.int .u64 18442240474082181120, .int .u64 9218868437227405312]) (by simp [results, Tryd.results26, go_sem, z0, z1]) rfl ⟨rfl, ?_⟩
    show Below _ _ _
    rw [HBe.out]
    exact HB.out
  | true =>
    rw [hb, if_pos rfl] at hv
    subst hv
    have C := Lib.hid (isFinite_at f hf true hb)
    have CB := Lib.hid (between_any f f)
    obtain ⟨x, hx⟩ : ∃ x : Int, ((plainF f : Nat) : Int) = x := ⟨_, rfl⟩
    rw [hx] at CB ⊢
    clear hx hb hf
    go_enter Tryd.func26, Tryd.ntmps26
    go_wp2_with fail
    obtain ⟨W, hW, hB, hbx, hsz⟩ := ibox_new w 0 0
    rw [← hW]
    clear hW
    generalize hBe : w.heap.size = B at *
    have HBe := Lib.hid hBe
    have hB : Below B w W := by rw [← hBe]; exact hB
    clear hBe
    refine (C.out _).mono ?_
    rintro r w1 ⟨rfl, rfl⟩
    go_wp2_with fail
    refine (CB.out _).mono ?_
    rintro r w2 ⟨rfl, hE⟩
    have bx := hbx.below hE
    have hB2 := hB.trans (Below.mono hE (by omega))
    clear hbx hB hE
    have q0 := bx.c0
    have q1 := bx.c1
    have q2 := bx.f 0
    have q3 := bx.f 1
    have hst := bx.stored x x
    have z0 := hst.c0
    have z1 := hst.c1
    have HB := Lib.hid (hB2.trans ((only_iset2 w2 B (.int .u64 x) (.int .u64 x)).below (Nat.le_refl B)))
    clear hst hB2
    go_wp2
    refine bodyPost_ret (v := .agg #[.int .u64 x, .int .u64 x]) (by simp [results, Tryd.results26, go_sem, z0, z1]) rfl ⟨rfl, ?_⟩
    show Below _ _ _
    rw [HBe.out]
    exact HB.out

/-- is every element of one interval one of the other? -/
def subF (a b c d : Nat) : Bool := validF a b && validF c d && !lessF a c && !lessF d b

theorem ivalid_at {aI bI : Int} (lo hi : Nat) (hl : lo < 18446744073709551616) (hh : hi < 18446744073709551616) (hA : (lo : Int) = aI) (hB : (hi : Int) = bI) (b : Bool) (hb : validF lo hi = b) (w : World) :
    Calls Tryd.prog 18 #[.agg #[.int .u64 aI, .int .u64 bI]] w fun e w' => e = .returned (.bool b) ∧ Ext w w' := by
  rw [← hA, ← hB]; exact ivalid_any lo hi hl hh b hb w
theorem isLess_at {aI bI : Int} (a b : Nat) (ha : a < 18446744073709551616) (hb : b < 18446744073709551616) (hA : (a : Int) = aI) (hB : (b : Int) = bI) (r : Bool) (hr : lessF a b = r) (w : World) :
    Calls Tryd.prog 25 #[.int .u64 aI, .int .u64 bI] w fun e w' => e = .returned (.bool r) ∧ Ext w w' := by
  rw [← hA, ← hB, ← hr]; exact isLess_any a b ha hb w

set_option maxRecDepth 100000 in
set_option maxHeartbeats 4000000 in
/-- where it holds -/
theorem subset_yes (a b c d : Nat) (ha : a < 18446744073709551616) (hb : b < 18446744073709551616) (hc : c < 18446744073709551616) (hd : d < 18446744073709551616) (h : subF a b c d = true) (w : World) :
    Calls Tryd.prog 8 #[.agg #[.int .u64 (a : Int), .int .u64 (b : Int)], .agg #[.int .u64 (c : Int), .int .u64 (d : Int)]] w fun e w' => e = .returned (.bool true) ∧ Ext w w' := by
  unfold subF at h
  simp only [Bool.and_eq_true, Bool.not_eq_true'] at h
  obtain ⟨⟨⟨h1, h2⟩, h3⟩, h4⟩ := h
  have C1 := Lib.hid (ivalid_at a b ha hb rfl rfl true h1)
  have C2 := Lib.hid (ivalid_at c d hc hd rfl rfl true h2)
  have C3 := Lib.hid (isLess_at a c ha hc rfl rfl false h3)
  have C4 := Lib.hid (isLess_at d b hd hb rfl rfl false h4)
  clear h1 h2 h3 h4 ha hb hc hd
  go_enter Tryd.func8, Tryd.ntmps8
  go_wp2_with fail
  obtain ⟨W, hW, hB, hx, hy, hsz⟩ := ibox_two w a b c d
  rw [← hW]
  clear hW
  have HB := Lib.hid hB
  generalize w.heap.size = B at hx hy ⊢
  clear hB hsz
  have c0 := hx.c0
  have c1 := hx.c1
  have c2 := hy.c0
  have c3 := hy.c1
  go_wp2_with fail
  refine (C1.out _).mono ?_
  rintro r w1 ⟨rfl, hE⟩
  have hx := hx.below hE
  have hy := hy.below hE
  have HB := Lib.hid (HB.out.trans hE)
  clear c0 c1 c2 c3 hE
  have c0 := hx.c0
  have c1 := hx.c1
  have c2 := hy.c0
  have c3 := hy.c1
  go_wp2_with fail
  refine (C2.out _).mono ?_
  rintro r w2 ⟨rfl, hE⟩
  have hx := hx.below hE
  have hy := hy.below hE
  have HB := Lib.hid (HB.out.trans hE)
  clear c0 c1 c2 c3 hE
  have c0 := hx.c0
  have c1 := hx.c1
  have c2 := hy.c0
  have c3 := hy.c1
  go_wp2_with fail
  refine (C3.out _).mono ?_
  rintro r w3 ⟨rfl, hE⟩
  have hx := hx.below hE
  have hy := hy.below hE
  have HB := Lib.hid (HB.out.trans hE)
  clear c0 c1 c2 c3 hE
  have c0 := hx.c0
  have c1 := hx.c1
  have c2 := hy.c0
  have c3 := hy.c1
  go_wp2_with fail
  refine (C4.out _).mono ?_
  rintro r w4 ⟨rfl, hE⟩
  have hx := hx.below hE
  have hy := hy.below hE
  have HB := Lib.hid (HB.out.trans hE)
  clear c0 c1 c2 c3 hE
  have c0 := hx.c0
  have c1 := hx.c1
  have c2 := hy.c0
  have c3 := hy.c1
  go_wp2
  go_ret
  exact ⟨rfl, HB.out⟩

set_option maxRecDepth 100000 in
set_option maxHeartbeats 8000000 in
/-- the sum of two intervals -/
theorem iadd_yes (a b c d : Nat) (ha : a < 18446744073709551616) (hb : b < 18446744073709551616) (hc : c < 18446744073709551616) (hd : d < 18446744073709551616) (h1 : validF a b = true) (h2 : validF c d = true) (w : World) :
    Calls Tryd.prog 13 #[.agg #[.int .u64 (a : Int), .int .u64 (b : Int)], .agg #[.int .u64 (c : Int), .int .u64 (d : Int)]] w fun e w' => e = .returned (.agg #[.int .u64 ((plainF (faddF a c 1) : Nat) : Int), .int .u64 ((plainF (faddF b d 2) : Nat) : Int)]) ∧ Ext w w' := by
  have C1 := Lib.hid (ivalid_at a b ha hb rfl rfl true h1)
  have C2 := Lib.hid (ivalid_at c d hc hd rfl rfl true h2)
  have C3 := Lib.hid (fadd_any a c 1 ha hc)
  have C4 := Lib.hid (fadd_any b d 2 hb hd)
  have C5 := Lib.hid (between_any (faddF a c 1) (faddF b d 2))
  obtain ⟨x, hx⟩ : ∃ x : Int, ((plainF (faddF a c 1) : Nat) : Int) = x := ⟨_, rfl⟩
  obtain ⟨y, hy⟩ : ∃ y : Int, ((plainF (faddF b d 2) : Nat) : Int) = y := ⟨_, rfl⟩
  rw [hx, hy] at C5 ⊢
  clear hx hy h1 h2 ha hb hc hd
  generalize faddF a c 1 = R1 at *
  generalize faddF b d 2 = R2 at *
  go_enter Tryd.func13, Tryd.ntmps13
  go_wp2_with fail
  obtain ⟨W, hW, hB, hx, hy, hbx, hsz⟩ := ibox_three w a b c d 0 0
  rw [← hW]
  clear hW
  generalize hBe : w.heap.size = B at *
  have HBe := Lib.hid hBe
  have HB : Hid (Below B w W) := Lib.hid (by rw [← hBe]; exact hB)
  clear hBe hB
  have hBs : B + 3 ≤ W.heap.size := hsz
  clear hsz
  have c0 := hx.c0
  have c1 := hx.c1
  have c2 := hy.c0
  have c3 := hy.c1
  go_wp2_with fail
  refine (C1.out _).mono ?_
  rintro r w1 ⟨rfl, hE⟩
  have hx := hx.below hE
  have hy := hy.below hE
  have hbx := hbx.below hE
  have HB := Lib.hid (HB.out.trans (Below.mono hE (by omega)))
  have hBs : B + 3 ≤ w1.heap.size := by have := Below.size hE; omega
  clear c0 c1 c2 c3 hE
  have c0 := hx.c0
  have c1 := hx.c1
  have c2 := hy.c0
  have c3 := hy.c1
  go_wp2_with fail
  refine (C2.out _).mono ?_
  rintro r w2 ⟨rfl, hE⟩
  have hx := hx.below hE
  have hy := hy.below hE
  have hbx := hbx.below hE
  have HB := Lib.hid (HB.out.trans (Below.mono hE (by omega)))
  have hBs : B + 3 ≤ w2.heap.size := by have := Below.size hE; omega
  clear c0 c1 c2 c3 hE
  have c0 := hx.c0
  have c1 := hx.c1
  have c2 := hy.c0
  have c3 := hy.c1
  go_wp2_with fail
  have TAG := Lib.hid trivial
  go_region_held3 (fun wx => wx.cell? ⟨B, 0, none⟩ = some (.int .u64 (a : Int)) ∧ wx.cell? ⟨B, 1, none⟩ = some (.int .u64 (b : Int)) ∧ wx.cell? ⟨B + 1, 0, none⟩ = some (.int .u64 (c : Int)) ∧ wx.cell? ⟨B + 1, 1, none⟩ = some (.int .u64 (d : Int)))
    (first | exact ⟨c0, c1, c2, c3⟩ | exact ⟨x1.c0, x1.c1, y1.c0, y1.c1⟩ | exact ⟨x2.c0, x2.c1, y2.c0, y2.c1⟩ | exact ⟨x3.c0, x3.c1, y3.c0, y3.c1⟩ | (refine ⟨?_, ?_, ?_, ?_⟩ <;> go_simp))
    (first
      | (go_at_call 30; clear TAG; refine (C3.out _).mono ?_; rintro r w3 ⟨rfl, hE1⟩; have x1 := hx.drew.below hE1; have y1 := hy.drew.below hE1; have b1 := hbx.drew.below hE1; have e0 := x1.c0; have e1 := x1.c1; have e2 := y1.c0; have e3 := y1.c1)
      | (go_at_call 30; refine (C4.out _).mono ?_; rintro r w4 ⟨rfl, hE2⟩; have x2 := x1.below hE2; have y2 := y1.below hE2; have b2 := b1.below hE2; clear e0 e1 e2 e3; have e0 := x2.c0; have e1 := x2.c1; have e2 := y2.c0; have e3 := y2.c1)
      | (go_at_call 19; refine (C5.out _).mono ?_; rintro r w5 ⟨rfl, hE3⟩; have x3 := x2.below hE3; have y3 := y2.below hE3; have b3 := b2.below hE3; clear e0 e1 e2 e3; have e0 := x3.c0; have e1 := x3.c1; have e2 := y3.c0; have e3 := y3.c1; have q0 := b3.c0; have q1 := b3.c1; have q2 := b3.f 0; have q3 := b3.f 1))
  have hB2 := ((HB.out.trans (Below.mono (Below.refl _ w2).drew (Nat.le_of_lt hx.lt))).trans (Below.mono hE1 (Nat.le_of_lt hx.drew.lt))).trans (Below.mono hE2 (Nat.le_of_lt x1.lt))
  have hB2 := hB2.trans (Below.mono hE3 (Nat.le_of_lt x2.lt))
  have bx := b3
  have hst := bx.stored x y
  have z0 := hst.c0
  have z1 := hst.c1
  have HB := Lib.hid (hB2.trans ((only_iset2 w5 (B + 1 + 1) (.int .u64 x) (.int .u64 y)).below (by omega)))
  clear hst hB2
  go_wp2
  refine bodyPost_ret (v := .agg #[.int .u64 x, .int .u64 y]) (by simp [results, Tryd.results13, go_sem, z0, z1]) rfl ⟨rfl, ?_⟩
  show Below _ _ _
  rw [HBe.out]
  exact HB.out
end Go.Proofs.YtjohpdobnedilaaDoor
